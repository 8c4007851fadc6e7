import Derived.Test.YtkigmocchaikgaaBun6
import Derived.Test.YtkigmocchaikgaaBun4
import Derived.Test.YtkigmocchaikgaaProg
/- A statement's operations, in their order. -/
namespace Go.Proofs.Ytkigmocchaikgaa
open Go.RowKit

/- is it done, by what is known of its guard? -/
def guardVal (ops : Array Oper) (σ : Kn) (o : Oper) : Option Bool :=
  match o.guard with
  | none => some true
  | some (j, want) => match ops[j]? with
    | some oj => match oj.dst with
      | some t => match look σ.T t with
        | some (Sum.inl (Sum.inr (Sum.inl (Sum.inl x)))) => some (x == want)
        | some (.raw (.tuple _)) => some false
        | _ => none
      | none => none
    | none => none
def usedAsGuard (ops : List Oper) (i : Nat) : Bool :=
  match ops with
  | [] => false
  | o :: l => match o.guard with
    | some (j, _) => Nat.beq j i || usedAsGuard l i
    | none => usedAsGuard l i
def dstOk (N : Nat) : Option Tmp → Bool
  | some t => Nat.blt t N
  | none => true
/- a bool is as it was said to be -/
def same (x d : Bool) : Bool := bif d then x else !x
theorem same_iff {x d : Bool} : same x d = true ↔ x = d := by cases x <;> cases d <;> simp [same]
structure Stp where
  e : Eff
  ok : Bool
  cr : List CallRec
  hs : List Eff
  ds : List Bool
/- one operation: what it does; a bool on which others wait is parted on here -/
def stepOp (P : Program) (N base : Nat) (ops : Array Oper) (i : Nat) (o : Oper) (σ : Kn) (hs : List Eff) (ds : List Bool) : Option Stp :=
  bif dstOk N o.dst then
    match guardVal ops σ o with
    | some true => match eOp P (base + i) σ hs o.op with
      | some r => bif usedAsGuard ops.toList i then
          match r.e.v, ds with
          | (Sum.inl (Sum.inr (Sum.inl (Sum.inl x)))), d :: ds => some ⟨⟨.c (.b d), r.e.wr, r.e.nw⟩, r.ok && same x d, r.cr, r.hs, ds⟩
          | _, _ => none
        else some ⟨r.e, r.ok, r.cr, r.hs, ds⟩
      | none => none
    | some false => some ⟨⟨undefV, [], none⟩, true, [], hs, ds⟩
    | none => none
  else none
def StEff (P : Program) (N : Nat) (ops : Array Oper) (o : Oper) (φ : Kn) (e : Eff) : Prop :=
  (∀ k cs, (k, cs) ∈ e.wr → ∃ c, look φ.H k = some ⟨true, c⟩) ∧ (∀ t, o.dst = some t → t < N) ∧
  ∀ C N' β S a w, Rel C N' β S φ a w → (∀ k cs, e.nw = some (k, cs) → ¬ S k) → e.Keys S ∧
    ((Region.wanted o (yielded ops a.tmps) = true ∧ o.wp P a w (fun a' w' => ∃ β', Up e β β' w w' ∧ a' = a.put o.dst (e.v.g β')) (fun _ _ _ => False)) ∨
     (Region.wanted o (yielded ops a.tmps) = false ∧ e = ⟨undefV, [], none⟩))
theorem guardVal_ok {ops : Array Oper} {φ : Kn} {o : Oper} {t : Bool} (h : guardVal ops φ o = some t) {C : Cx} {N : Nat} {β : Bs} {S : Nat → Prop} {a : Act} {w : World} (hr : Rel C N β S φ a w) :
    Region.wanted o (yielded ops a.tmps) = t := by
  unfold guardVal at h
  unfold Region.wanted
  split at h
  · rename_i hg; injection h with h; simp [hg, h]
  · rename_i j want hg
    simp only [hg]
    split at h
    · rename_i oj hj
      split at h
      · rename_i tm htm
        split at h
        · rename_i x hx
          injection h with h
          have := (hr.tmp tm _ hx).1
          have hy : yielded ops a.tmps j = some x := by simp [yielded, hj, htm, this, AV.g, AC.g]
          rw [hy, ← h]; cases x <;> cases want <;> rfl
        · rename_i y hx
          injection h with h
          have := (hr.tmp tm _ hx).1
          have hy : yielded ops a.tmps j = none := by simp [yielded, hj, htm, this, AV.g]
          rw [hy, ← h]; cases want <;> rfl
        · cases h
      · cases h
    · cases h
theorem stepOp_sound {P : Program} {N base i : Nat} {ops : Array Oper} {o : Oper} {σ : Kn} {hs : List Eff} {ds : List Bool} {r : Stp} (h : stepOp P N base ops i o σ hs ds = some r) (hok : r.ok = true) (hcr : ∀ q, q ∈ r.cr → CallOK P q) :
    StEff P N ops o σ r.e := by
  unfold stepOp at h
  cases hd : dstOk N o.dst with
  | false => simp [hd] at h
  | true =>
    simp only [hd, cond_true] at h
    have hdst : ∀ t, o.dst = some t → t < N := fun t ht => by rw [ht] at hd; simpa [dstOk] using hd
    split at h
    · rename_i hg
      split at h
      · rename_i q hq
        cases hu : usedAsGuard ops.toList i with
        | true =>
          simp only [hu, cond_true] at h
          split at h
          · rename_i x d ds' hv
            injection h with h; subst h
            simp only [Bool.and_eq_true, same_iff] at hok
            obtain ⟨h1, h2⟩ := eOp_sound hq hok.1 hcr
            have hee : (⟨.c (.b d), q.e.wr, q.e.nw⟩ : Eff) = q.e := by rw [← hok.2]; exact congrArg (fun v => (⟨v, q.e.wr, q.e.nw⟩ : Eff)) hv.symm
            rw [hee]
            refine ⟨h1, hdst, fun C N' β S a w hr hn => ?_⟩
            obtain ⟨h3, h4⟩ := h2 C N' β S a w hr hn
            exact ⟨h3, Or.inl ⟨guardVal_ok hg hr, h4⟩⟩
          · cases h
        | false =>
          simp only [hu, cond_false] at h
          injection h with h; subst h
          obtain ⟨h1, h2⟩ := eOp_sound hq hok hcr
          refine ⟨h1, hdst, fun C N' β S a w hr hn => ?_⟩
          obtain ⟨h3, h4⟩ := h2 C N' β S a w hr hn
          exact ⟨h3, Or.inl ⟨guardVal_ok hg hr, h4⟩⟩
      · cases h
    · rename_i hg
      injection h with h; subst h
      refine ⟨fun _ _ hm => (nomatch hm), hdst, fun C N' β S a w hr hn => ⟨keys_pure (fun k hk => (nomatch hk)), Or.inr ⟨guardVal_ok hg hr, rfl⟩⟩⟩
    · cases h
theorem Oper.wp_mono' {P : Program} {o : Oper} {a : Act} {w : World} {K K' : Act → World → Prop} {Q Q' : Exit → Act → World → Prop} (h : o.wp P a w K Q) (hk : ∀ a w, K a w → K' a w) (hq : ∀ e a w, Q e a w → Q' e a w) : o.wp P a w K' Q' := by
  unfold Oper.wp at *
  generalize (execOp a.eval o).run P w = r at *
  cases r with
  | ok n w' =>
    cases n <;> simp only [Oper.upon] at h ⊢ <;> first
      | exact hk _ _ h
      | exact h.elim
      | (refine Calls.mono h ?_
         intro e w''
         cases e with
         | returned v => exact hk _ _
         | panicked ch => exact hq _ _ _
         | outgrown => rintro ⟨a0, w0, h0⟩; exact ⟨a0, w0, hq _ _ _ h0⟩)
      | exact Rows.mono h fun v w'' => hk _ _
  | halt x w' =>
    cases x <;> simp only [Oper.upon] at h ⊢ <;> first
      | exact hq _ _ _ h
      | exact h.elim
theorem Rel.mono {C : Cx} {N : Nat} {β : Bs} {S S' : Nat → Prop} {σ : Kn} {a : Act} {w : World} (h : Rel C N β S σ a w) (hs : ∀ k, S k → S' k) : Rel C N β S' σ a w :=
  ⟨h.size, h.defers, fun t v hl => ⟨(h.tmp t v hl).1, fun k hk => hs k ((h.tmp t v hl).2 k hk)⟩, fun k e hl => ⟨hs k (h.blk k e hl).1, (h.blk k e hl).2.1, fun c hc j hj => hs j ((h.blk k e hl).2.2.1 c hc j hj), (h.blk k e hl).2.2.2⟩, h.inj, h.frame, fun k hF => ⟨hs k (h.fix k hF).1, (h.fix k hF).2⟩⟩
theorem newKey_spec {k : Nat} {e : Eff} (h : newKey k e = true) : ∀ j cs, e.nw = some (j, cs) → j = k := by
  intro j cs hn
  unfold newKey at h
  rw [hn] at h
  exact Nat.eq_of_beq_eq_true h
/- the key of a new block is the one that was handed in -/
theorem eOp_new {P : Program} {k : Nat} {σ : Kn} {hs : List Eff} {o : Op} {r : Res} (h : eOp P k σ hs o = some r) : ∀ j cs, r.e.nw = some (j, cs) → j = k := by
  intro j cs hn
  have p1 : ∀ {x}, pv1 hs x = some r → False := fun h' => by obtain ⟨v, _, rfl⟩ := pv1_some h'; cases hn
  have p2 : ∀ {x}, pv2 hs x = some r → False := fun h' => by obtain ⟨v, ok, _, rfl⟩ := pv2_some h'; cases hn
  have p3 : ∀ {v ok}, pv hs v ok = some r → False := fun h' => by injection h' with h'; subst h'; cases hn
  cases o <;> simp only [eOp] at h
  case move => exact (p1 h).elim
  case assign => exact (p1 h).elim
  case pick =>
    split at h
    · split at h <;> exact (p1 h).elim
    · cases h
  case alloc =>
    split at h
    · split at h
      · split at h
        · split at h
          · injection h with h; subst h; simp at hn; exact hn.1.symm
          · cases h
        · cases h
      · cases h
    · cases h
  case box =>
    split at h
    · split at h
      · injection h with h; subst h; simp at hn; exact hn.1.symm
      · cases h
    · cases h
  case store =>
    split at h
    · split at h
      · injection h with h; subst h; cases hn
      · cases h
    · cases h
  case binOp =>
    split at h
    · split at h
      · exact (p3 h).elim
      · exact (p3 h).elim
      · cases h
    · exact (p2 h).elim
    · exact (p2 h).elim
    · cases h
  case makeFunc fn first caps =>
    cases fn <;> simp only at h
    case func =>
      split at h
      · split at h
        · exact (p3 h).elim
        · cases h
      · cases h
    all_goals cases h
  case call =>
    split at h
    · split at h
      · exact (p1 h).elim
      · split at h
        · unfold eCall at h
          split at h
          · rename_i e hs'
            cases hc : (callable P _ && newKey k e) with
            | false => rw [hc] at h; cases h
            | true =>
              rw [hc] at h
              simp only [cond_true, Option.some.injEq] at h
              subst h
              rw [Bool.and_eq_true] at hc
              exact newKey_spec hc.2 j cs hn
          · cases h
        · cases h
      · cases h
    · cases h
  all_goals first
    | (split at h <;> first | exact (p1 h).elim | exact (p2 h).elim | cases h)
    | cases h
theorem stepOp_new {P : Program} {N base i : Nat} {ops : Array Oper} {o : Oper} {σ : Kn} {hs : List Eff} {ds : List Bool} {r : Stp} (h : stepOp P N base ops i o σ hs ds = some r) : ∀ j cs, r.e.nw = some (j, cs) → j = base + i := by
  intro j cs hn
  unfold stepOp at h
  cases hd : dstOk N o.dst with
  | false => simp [hd] at h
  | true =>
    simp only [hd, cond_true] at h
    split at h
    · split at h
      · rename_i q hq
        cases hu : usedAsGuard ops.toList i with
        | true =>
          simp only [hu, cond_true] at h
          split at h
          · injection h with h; subst h; exact eOp_new hq j cs hn
          · cases h
        | false =>
          simp only [hu, cond_false] at h
          injection h with h; subst h; exact eOp_new hq j cs hn
      · cases h
    · injection h with h; subst h; cases hn
    · cases h

def allB : List Bool → Bool
  | [] => true
  | c :: l => c && allB l
theorem allB_append : ∀ (l r : List Bool), allB (l ++ r) = (allB l && allB r)
  | [], r => by simp [allB]
  | c :: l, r => by simp [allB, allB_append l r, Bool.and_assoc]
structure Seq where
  σ : Kn
  ok : List Bool
  cr : List CallRec
  hs : List Eff
  ds : List Bool
def seqOps (P : Program) (N base : Nat) (ops : Array Oper) : Nat → List Oper → Kn → List Eff → List Bool → Option Seq
  | _, [], σ, hs, ds => some ⟨σ, [], [], hs, ds⟩
  | i, o :: l, σ, hs, ds => match stepOp P N base ops i o σ hs ds with
    | some r => match seqOps P N base ops (i + 1) l (σ.upd o.dst r.e) r.hs r.ds with
      | some q => some ⟨q.σ, r.ok :: q.ok, r.cr ++ q.cr, q.hs, q.ds⟩
      | none => none
    | none => none
theorem seqOps_sound {P : Program} {N base : Nat} {ops : Array Oper} {Q : Exit → Act → World → Prop} {C : Cx} : ∀ (l : List Oper) (i : Nat) (σ : Kn) (hs : List Eff) (ds : List Bool) (r : Seq) (β : Bs) (a : Act) (w : World),
    (∀ j, l[j]? = ops[i + j]?) → seqOps P N base ops i l σ hs ds = some r → allB r.ok = true → (∀ q, q ∈ r.cr → CallOK P q) → Rel C N β (fun k => k < base + i) σ a w →
    (∀ β' a' w', Rel C N β' (fun k => k < base + (i + l.length)) r.σ a' w' → Q .normal a' w') → wpOps P ops Q (List.range' i l.length) a w
  | [], i, σ, hs, ds, r, β, a, w, _, h, _, _, hr, hQ => by
    injection h with h; subst h
    exact hQ β a w hr
  | o :: l, i, σ, hs, ds, r, β, a, w, hl, h, hok, hcr, hr, hQ => by
    have h0 : ops[i]? = some o := by simpa using (hl 0).symm
    simp only [seqOps] at h
    split at h
    · rename_i s hs'
      split at h
      · rename_i q hq
        injection h with h; subst h
        simp only [allB, Bool.and_eq_true] at hok
        have hnew := stepOp_new hs'
        obtain ⟨hw, hd, hst⟩ := stepOp_sound hs' hok.1 (fun c hc => hcr c (by simp [hc]))
        have hn : ∀ k cs, s.e.nw = some (k, cs) → ¬ k < base + i := fun k cs hk => by rw [hnew k cs hk]; omega
        obtain ⟨hk, hcase⟩ := hst C N β _ a w hr hn
        have hext : ∀ k, ext (fun k => k < base + i) s.e.nw k → k < base + (i + 1) := by
          intro k hk'
          cases hnw : s.e.nw with
          | none => rw [hnw] at hk'; simp only [ext] at hk'; omega
          | some x =>
            obtain ⟨j, cs⟩ := x
            rw [hnw] at hk'
            have := hnew j cs hnw
            rcases hk' with h1 | h1 <;> omega
        have next : ∀ β' a' w', Up s.e β β' w w' → a' = a.put o.dst (s.e.v.g β') → wpOps P ops Q (List.range' (i + 1) l.length) a' w' := by
          intro β' a' w' hu ha
          subst ha
          have hr' := (hr.upd hu hk hw hn hd).mono hext
          refine seqOps_sound l (i + 1) _ _ _ q β' _ w' (fun j => by have := hl (j + 1); simpa [Nat.add_assoc, Nat.add_comm 1 j] using this) hq hok.2 (fun c hc => hcr c (by simp [hc])) hr' ?_
          intro β'' a'' w'' hr''
          refine hQ β'' a'' w'' ?_
          simp only [List.length_cons]
          rwa [show base + (i + (l.length + 1)) = base + (i + 1 + l.length) by omega]
        simp only [List.length_cons, List.range'_succ, wpOps, h0]
        rcases hcase with ⟨hwant, hwp⟩ | ⟨hwant, he⟩
        · rw [if_pos hwant]
          exact Or.inl (Oper.wp_mono' hwp (fun a' w' ⟨β', hu, ha⟩ => next β' a' w' hu ha) (fun _ _ _ h => h.elim))
        · rw [if_neg (by rw [hwant]; exact Bool.false_ne_true)]
          refine next β _ w ?_ ?_
          · rw [he]; exact Up.pure _ _ _
          · rw [he]; rfl
      · cases h
    · cases h
end Go.Proofs.Ytkigmocchaikgaa

/- A statement whose order is left open: if its operations do not meddle with each other, one order serves for all. -/
namespace Go.Proofs.Ytkigmocchaikgaa
open Go.RowKit

def restT (T : List (Nat × AV)) : List Nat → List (Nat × AV)
  | [] => []
  | t :: r => match look T t with
    | some v => (t, v) :: restT T r
    | none => restT T r
theorem look_restT {T : List (Nat × AV)} : ∀ {ts : List Nat} {t : Nat} {v : AV}, look (restT T ts) t = some v → look T t = some v ∧ t ∈ ts
  | [], _, _, h => by simp [restT, look] at h
  | j :: ts, t, v, h => by
    unfold restT at h
    split at h
    · rename_i v' hv'
      rw [look_cons] at h
      split at h
      · rename_i ht; subst ht; injection h with h; subst h; exact ⟨hv', by simp⟩
      · exact ⟨(look_restT h).1, by simp [(look_restT h).2]⟩
    · exact ⟨(look_restT h).1, by simp [(look_restT h).2]⟩
/- what an operation looks at -/
def foot (ops : Array Oper) (o : Oper) (σ : Kn) : Kn :=
  let T := restT σ.T (Oper.looksAt ops o)
  { T := T, H := restH σ.H (T.flatMap fun x => x.2.ks), n := σ.n }
structure Le (φ σ : Kn) : Prop where
  t : ∀ t v, look φ.T t = some v → look σ.T t = some v
  h : ∀ k e, look φ.H k = some e → look σ.H k = some e
theorem foot_le (ops : Array Oper) (o : Oper) (σ : Kn) : Le (foot ops o σ) σ := ⟨fun _ _ h => (look_restT h).1, fun _ _ h => look_restH h⟩
theorem Rel.le {C : Cx} {N : Nat} {β : Bs} {S : Nat → Prop} {σ φ : Kn} {a : Act} {w : World} (h : Rel C N β S σ a w) (hl : Le φ σ) : Rel C N β S φ a w :=
  ⟨h.size, h.defers, fun t v hv => h.tmp t v (hl.t t v hv), fun k e he => h.blk k e (hl.h k e he), fun k e k' e' he he' => h.inj k e k' e' (hl.h k e he) (hl.h k' e' he'), h.frame, h.fix⟩
structure Eqv (σ τ : Kn) : Prop where
  t : ∀ t, look σ.T t = look τ.T t
  h : ∀ k, look σ.H k = look τ.H k
theorem Eqv.refl (σ : Kn) : Eqv σ σ := ⟨fun _ => rfl, fun _ => rfl⟩
theorem Eqv.symm {σ τ : Kn} (h : Eqv σ τ) : Eqv τ σ := ⟨fun t => (h.t t).symm, fun k => (h.h k).symm⟩
theorem Eqv.trans {σ τ ρ : Kn} (h : Eqv σ τ) (k : Eqv τ ρ) : Eqv σ ρ := ⟨fun t => (h.t t).trans (k.t t), fun i => (h.h i).trans (k.h i)⟩
theorem Eqv.le {σ τ : Kn} (h : Eqv σ τ) : Le σ τ := ⟨fun t v hv => by rw [← h.t]; exact hv, fun k e he => by rw [← h.h]; exact he⟩
theorem Le.trans {φ σ τ : Kn} (h : Le φ σ) (k : Le σ τ) : Le φ τ := ⟨fun t v hv => k.t t v (h.t t v hv), fun i e he => k.h i e (h.h i e he)⟩

/- what is known behind an operation, slot by slot, block by block -/
theorem look_putT (T : List (Nat × AV)) (d : Option Tmp) (v : AV) (t : Nat) : look (putT T d v) t = if d = some t then some v else look T t := by
  cases d with
  | none => simp [putT]
  | some d =>
    simp only [putT, look_cons, Option.some.injEq]
    by_cases h : t = d
    · subst h; simp
    · rw [if_neg h, if_neg (fun e => h e.symm)]
def wkeys (e : Eff) : List Nat := e.wr.map (·.1) ++ (match e.nw with | some (k, _) => [k] | none => [])
def updH (e : Eff) (H : List (Nat × Ent)) : List (Nat × Ent) := newH e.nw (e.wr.map (fun x => (x.1, Ent.mk true x.2)) ++ H)
theorem look_updH_out {e : Eff} {H : List (Nat × Ent)} {k : Nat} (hk : k ∉ wkeys e) : look (updH e H) k = look H k := by
  have h1 : look (e.wr.map (fun x => (x.1, Ent.mk true x.2)) ++ H) k = look H k := by
    rcases look_wr e.wr H k with ⟨cs, hm, _⟩ | ⟨_, he⟩
    · exact absurd (by simp [wkeys]; exact Or.inl ⟨cs, hm⟩) hk
    · exact he
  unfold updH
  cases hn : e.nw with
  | none => exact h1
  | some x =>
    obtain ⟨j, cs⟩ := x
    simp only [newH, look_cons]
    rw [if_neg, h1]
    intro hj
    exact hk (by simp [wkeys, hn, hj])
theorem look_updH_in {e : Eff} {k : Nat} (hk : k ∈ wkeys e) (H H' : List (Nat × Ent)) : look (updH e H) k = look (updH e H') k := by
  have key : ∀ {cs}, (k, cs) ∈ e.wr → look (e.wr.map (fun x => (x.1, Ent.mk true x.2)) ++ H) k = look (e.wr.map (fun x => (x.1, Ent.mk true x.2)) ++ H') k := by
    intro cs hm
    clear hk
    generalize e.wr = l at *
    induction l with
    | nil => cases hm
    | cons x l ih =>
      obtain ⟨j, c⟩ := x
      simp only [List.map_cons, List.cons_append, look_cons]
      by_cases hj : k = j
      · simp [hj]
      · simp only [hj, if_false]
        rcases List.mem_cons.1 hm with h1 | h1
        · exact absurd (by injection h1) hj
        · exact ih h1
  unfold updH
  cases hn : e.nw with
  | none =>
    simp only [wkeys, hn, List.append_nil, List.mem_map] at hk
    obtain ⟨⟨j, cs⟩, hm, rfl⟩ := hk
    exact key hm
  | some x =>
    obtain ⟨j, c⟩ := x
    simp only [newH, look_cons]
    by_cases hj : k = j
    · simp [hj]
    · simp only [hj, if_false]
      simp only [wkeys, hn, List.mem_append, List.mem_map, List.mem_singleton, hj, or_false] at hk
      obtain ⟨⟨j', cs⟩, hm, rfl⟩ := hk
      exact key hm
/- two operations that do not meddle with each other's slots and blocks -/
structure Apart (oi oj : Oper) (φi φj : Kn) (ei ej : Eff) : Prop where
  ij : ∀ d, oi.dst = some d → look φj.T d = none
  ji : ∀ d, oj.dst = some d → look φi.T d = none
  dd : ∀ d, oi.dst = some d → oj.dst ≠ some d
  hij : ∀ k, k ∈ wkeys ei → look φj.H k = none ∧ k ∉ wkeys ej
  hji : ∀ k, k ∈ wkeys ej → look φi.H k = none
theorem Le.under {φ σ : Kn} {d : Option Tmp} {e : Eff} (h : Le φ (σ.upd d e)) (hd : ∀ t, d = some t → look φ.T t = none) (hk : ∀ k, k ∈ wkeys e → look φ.H k = none) : Le φ σ := by
  refine ⟨fun t v hv => ?_, fun k en he => ?_⟩
  · have := h.t t v hv
    simp only [Kn.upd, look_putT] at this
    by_cases hdt : d = some t
    · rw [hd t hdt] at hv; cases hv
    · rwa [if_neg hdt] at this
  · have h1 := h.h k en he
    by_cases hkw : k ∈ wkeys e
    · rw [hk k hkw] at he; cases he
    · have h2 : look (updH e σ.H) k = some en := h1
      rwa [look_updH_out hkw] at h2
theorem Le.over {φ σ : Kn} {d : Option Tmp} {e : Eff} (h : Le φ σ) (hd : ∀ t, d = some t → look φ.T t = none) (hk : ∀ k, k ∈ wkeys e → look φ.H k = none) : Le φ (σ.upd d e) := by
  refine ⟨fun t v hv => ?_, fun k en he => ?_⟩
  · simp only [Kn.upd, look_putT]
    by_cases hdt : d = some t
    · rw [hd t hdt] at hv; cases hv
    · rw [if_neg hdt]; exact h.t t v hv
  · by_cases hkw : k ∈ wkeys e
    · rw [hk k hkw] at he; cases he
    · show look (updH e σ.H) k = some en
      rw [look_updH_out hkw]; exact h.h k en he
theorem upd_comm (σ : Kn) {di dj : Option Tmp} {ei ej : Eff} (hd : ∀ d, di = some d → dj ≠ some d) (hk : ∀ k, k ∈ wkeys ei → k ∉ wkeys ej) : Eqv ((σ.upd di ei).upd dj ej) ((σ.upd dj ej).upd di ei) := by
  refine ⟨fun t => ?_, fun k => ?_⟩
  · simp only [Kn.upd, look_putT]
    by_cases h1 : dj = some t
    · by_cases h2 : di = some t
      · exact absurd h1 (hd t h2)
      · simp [h1, h2]
    · simp [h1]
  · show look (updH ej (updH ei σ.H)) k = look (updH ei (updH ej σ.H)) k
    by_cases h1 : k ∈ wkeys ei
    · rw [look_updH_out (hk k h1)]
      exact look_updH_in h1 _ _
    · rw [look_updH_out (e := ei) h1]
      by_cases h2 : k ∈ wkeys ej
      · exact look_updH_in h2 _ _
      · rw [look_updH_out h2, look_updH_out h2, look_updH_out h1]
theorem Eqv.upd {σ τ : Kn} (h : Eqv σ τ) (d : Option Tmp) (e : Eff) : Eqv (σ.upd d e) (τ.upd d e) := by
  refine ⟨fun t => ?_, fun k => ?_⟩
  · simp only [Kn.upd, look_putT, h.t]
  · show look (updH e σ.H) k = look (updH e τ.H) k
    by_cases h1 : k ∈ wkeys e
    · exact look_updH_in h1 _ _
    · rw [look_updH_out h1, look_updH_out h1, h.h]

/- whatever order is picked from here on; E: what each operation looks at, and does -/
def AAny (ops : Array Oper) (E : Nat → Kn × Eff) (σf : Kn) : Nat → Array Bool → Kn → Prop
  | 0, listed, σ => Region.ready .any ops listed = [] ∧ Eqv σ σf
  | n + 1, listed, σ => (Region.ready .any ops listed = [] → Eqv σ σf) ∧
    ∀ i, i ∈ Region.ready .any ops listed → ∀ o, ops[i]? = some o → Le (E i).1 σ ∧ AAny ops E σf n (listed.setIfInBounds i true) (σ.upd o.dst (E i).2)
theorem AAny.congr {ops : Array Oper} {E : Nat → Kn × Eff} {σf : Kn} : ∀ {n : Nat} {listed : Array Bool} {σ τ : Kn}, AAny ops E σf n listed σ → Eqv σ τ → AAny ops E σf n listed τ
  | 0, _, _, _, h, he => ⟨h.1, he.symm.trans h.2⟩
  | _ + 1, _, _, _, h, he => ⟨fun h0 => he.symm.trans (h.1 h0), fun i hi o ho => ⟨(h.2 i hi o ho).1.trans he.le, (h.2 i hi o ho).2.congr (he.upd _ _)⟩⟩
theorem AAny.first {ops : Array Oper} {E : Nat → Kn × Eff} {σf : Kn} {i : Nat} {oi : Oper} (hi : ops[i]? = some oi) : ∀ (n : Nat) (listed : Array Bool) (σ : Kn),
    (∀ j oj, ops[j]? = some oj → j ≠ i → listed.getD j true = false → (∀ e ∈ oj.after, Region.binds .any e = true → e.on ≠ i) → Apart oi oj (E i).1 (E j).1 (E i).2 (E j).2) →
    i ∈ Region.ready .any ops listed → Le (E i).1 σ → AAny ops E σf n (listed.setIfInBounds i true) (σ.upd oi.dst (E i).2) → AAny ops E σf (n + 1) listed σ := by
  intro n
  induction n with
  | zero =>
    intro listed σ _ hr hl H
    refine ⟨fun h => (by rw [h] at hr; cases hr), fun j hj oj hoj => ?_⟩
    by_cases hji : j = i
    · subst hji
      rw [hi] at hoj
      injection hoj with hoj
      subst hoj
      exact ⟨hl, H⟩
    · have := ready_mono hj hji
      rw [H.1] at this
      cases this
  | succ n ih =>
    intro listed σ hfree hr hl H
    refine ⟨fun h => (by rw [h] at hr; cases hr), fun j hj oj hoj => ?_⟩
    by_cases hji : j = i
    · subst hji
      rw [hi] at hoj
      injection hoj with hoj
      subst hoj
      exact ⟨hl, H⟩
    · obtain ⟨h1, h2⟩ := H.2 j (ready_mono hj hji) oj hoj
      obtain ⟨hjun, oj', hoj', hall⟩ := mem_ready.1 hj
      rw [hoj] at hoj'
      injection hoj' with hoj'
      subst hoj'
      have hnot : ∀ e ∈ oj.after, Region.binds .any e = true → e.on ≠ i := fun e he hb heq => by
        have h1 := hall e he hb
        have h0 := (mem_ready.1 hr).1
        rw [heq] at h1
        rcases Nat.lt_or_ge i listed.size with h' | h'
        · simp [h'] at h0 h1; rw [h0] at h1; cases h1
        · simp [Array.getElem?_eq_none h'] at h1
      have hap := hfree j oj hoj hji hjun hnot
      refine ⟨h1.under hap.ij (fun k hk => (hap.hij k hk).1), ?_⟩
      have hfree' : ∀ k ok, ops[k]? = some ok → k ≠ i → (listed.setIfInBounds j true).getD k true = false → (∀ e ∈ ok.after, Region.binds .any e = true → e.on ≠ i) → Apart oi ok (E i).1 (E k).1 (E i).2 (E k).2 := fun k ok hk hki hun hno => by
        refine hfree k ok hk hki ?_ hno
        by_cases hjk : j = k
        · subst hjk; exact hjun
        · rw [getD_set_ne true hjk] at hun; exact hun
      refine ih (listed.setIfInBounds j true) (σ.upd oj.dst (E j).2) hfree' (ready_mono hr (Ne.symm hji)) (hl.over hap.ji hap.hji) ?_
      rw [Array.setIfInBounds_comm _ _ hji]
      exact h2.congr (upd_comm σ hap.dd (fun k hk => (hap.hij k hk).2))

/- whatever order is picked, the model comes to what is known in the end -/
def keyIn (base : Nat) (listed : Array Bool) (k : Nat) : Prop := k < base ∨ (base ≤ k ∧ listed.getD (k - base) false = true)
theorem AAny.sound {P : Program} {N base : Nat} {ops : Array Oper} {E : Nat → Kn × Eff} {σf : Kn} {Q : Exit → Act → World → Prop} {C : Cx}
    (hE : ∀ i o, ops[i]? = some o → StEff P N ops o (E i).1 (E i).2) (hnew : ∀ i j cs, (E i).2.nw = some (j, cs) → j = base + i) :
    ∀ (n : Nat) (listed : Array Bool) (σ : Kn) (β : Bs) (a : Act) (w : World), listed.size = ops.size → AAny ops E σf n listed σ → Rel C N β (keyIn base listed) σ a w →
    (∀ β' a' w', Rel C N β' (fun k => k < base + ops.size) σf a' w' → Q .normal a' w') → wpAny P .any ops Q n listed a w := by
  have fin : ∀ (listed : Array Bool) (σ : Kn) (β : Bs) (a : Act) (w : World), listed.size = ops.size → Eqv σ σf → Rel C N β (keyIn base listed) σ a w → (∀ β' a' w', Rel C N β' (fun k => k < base + ops.size) σf a' w' → Q .normal a' w') → Q .normal a w := by
    intro listed σ β a w hsz he hr hQ
    refine hQ β a w ((hr.le he.symm.le).mono fun k hk => ?_)
    rcases hk with h | ⟨h1, h2⟩
    · omega
    · rcases Nat.lt_or_ge (k - base) listed.size with h3 | h3
      · omega
      · simp [Array.getElem?_eq_none h3] at h2
  intro n
  induction n with
  | zero =>
    intro listed σ β a w hsz h hr hQ
    exact ⟨h.1, fin listed σ β a w hsz h.2 hr hQ⟩
  | succ n ih =>
    intro listed σ β a w hsz h hr hQ
    refine ⟨fun h0 => fin listed σ β a w hsz (h.1 h0) hr hQ, fun i hi => ?_⟩
    obtain ⟨hun, o, ho, _⟩ := mem_ready.1 hi
    obtain ⟨hle, hrest⟩ := h.2 i hi o ho
    obtain ⟨hw, hd, hst⟩ := hE i o ho
    have hlt : i < listed.size := by
      rcases Nat.lt_or_ge i listed.size with h3 | h3
      · exact h3
      · simp [Array.getElem?_eq_none h3] at hun
    have hun' : listed.getD i false = false := by simp [hlt] at hun ⊢; exact hun
    have hn : ∀ k cs, (E i).2.nw = some (k, cs) → ¬ keyIn base listed k := by
      intro k cs hk hin
      have := hnew i k cs hk
      subst this
      rcases hin with h1 | ⟨_, h1⟩
      · omega
      · rw [Nat.add_sub_cancel_left, hun'] at h1; cases h1
    obtain ⟨hk, hcase⟩ := hst C N β _ a w (hr.le hle) hn
    have hext : ∀ k, ext (keyIn base listed) (E i).2.nw k → keyIn base (listed.setIfInBounds i true) k := by
      intro k hk'
      have old : keyIn base listed k → keyIn base (listed.setIfInBounds i true) k := by
        rintro (h1 | ⟨h1, h2⟩)
        · exact Or.inl h1
        · refine Or.inr ⟨h1, ?_⟩
          by_cases hki : i = k - base
          · rw [← hki]; simp [hlt]
          · rw [getD_set_ne false hki]; exact h2
      cases hnw : (E i).2.nw with
      | none => rw [hnw] at hk'; exact old hk'
      | some x =>
        obtain ⟨j, cs⟩ := x
        rw [hnw] at hk'
        rcases hk' with h1 | h1
        · exact old h1
        · have := hnew i j cs hnw
          subst h1
          rw [this]
          exact Or.inr ⟨by omega, by rw [Nat.add_sub_cancel_left]; simp [hlt]⟩
    have next : ∀ β' a' w', Up (E i).2 β β' w w' → a' = a.put o.dst ((E i).2.v.g β') → wpAny P .any ops Q n (listed.setIfInBounds i true) a' w' := by
      intro β' a' w' hu ha
      subst ha
      exact ih _ _ β' _ w' (by simp [hsz]) hrest ((hr.upd hu hk (fun k cs hm => by obtain ⟨c, hc⟩ := hw k cs hm; exact ⟨c, hle.h _ _ hc⟩) hn hd).mono hext) hQ
    unfold wpOp
    simp only [ho]
    rcases hcase with ⟨hwant, hwp⟩ | ⟨hwant, he⟩
    · rw [if_pos hwant]
      exact Or.inl (Oper.wp_mono' hwp (fun a' w' ⟨β', hu, ha⟩ => next β' a' w' hu ha) (fun _ _ _ h => h.elim))
    · rw [if_neg (by rw [hwant]; exact Bool.false_ne_true)]
      refine next β _ w ?_ ?_
      · rw [he]; exact Up.pure _ _ _
      · rw [he]; rfl

/- the reckoning, in the order of the text -/
structure Drw where
  σ : Kn
  E : List (Kn × Eff)
  ok : List Bool
  cr : List CallRec
  hs : List Eff
  ds : List Bool
def drwOps (P : Program) (N base : Nat) (ops : Array Oper) : Nat → List Oper → Kn → List Eff → List Bool → Option Drw
  | _, [], σ, hs, ds => some ⟨σ, [], [], [], hs, ds⟩
  | i, o :: l, σ, hs, ds => match stepOp P N base ops i o (foot ops o σ) hs ds with
    | some r => match drwOps P N base ops (i + 1) l (σ.upd o.dst r.e) r.hs r.ds with
      | some q => some ⟨q.σ, (foot ops o σ, r.e) :: q.E, r.ok :: q.ok, r.cr ++ q.cr, q.hs, q.ds⟩
      | none => none
    | none => none
def waits (oj : Oper) (i : Nat) : Bool := oj.after.any fun e => Region.binds .any e && e.on == i
def noKey (ks : List Nat) (H : List (Nat × Ent)) : Bool := ks.all fun k => (look H k).isNone
def apartH (x y : Kn × Eff) : Bool := noKey (wkeys x.2) y.1.H && noKey (wkeys y.2) x.1.H && (wkeys x.2).all fun k => !(wkeys y.2).contains k
/- of two, the later one waits for the earlier one, or they do not meddle with each other's blocks -/
def apartAll (i : Nat) : List Oper → List (Kn × Eff) → Bool
  | _ :: l, x :: E => (List.zip l E).all (fun y => waits y.1 i || apartH x y.2) && apartAll (i + 1) l E
  | [], [] => true
  | _, _ => false

theorem drwOps_spec {P : Program} {N base : Nat} {ops : Array Oper} : ∀ {l : List Oper} {i : Nat} {σ : Kn} {hs : List Eff} {ds : List Bool} {r : Drw}, drwOps P N base ops i l σ hs ds = some r → allB r.ok = true → (∀ q, q ∈ r.cr → CallOK P q) →
    r.E.length = l.length ∧ ∀ m x, r.E[m]? = some x → ∃ o σ', l[m]? = some o ∧ x.1 = foot ops o σ' ∧ StEff P N ops o x.1 x.2 ∧ ∀ j cs, x.2.nw = some (j, cs) → j = base + (i + m)
  | [], i, σ, hs, ds, r, h, _, _ => by
    injection h with h; subst h
    exact ⟨rfl, fun m x hx => by simp at hx⟩
  | o :: l, i, σ, hs, ds, r, h, hok, hcr => by
    simp only [drwOps] at h
    split at h
    · rename_i s hs'
      split at h
      · rename_i q hq
        injection h with h; subst h
        simp only [allB, Bool.and_eq_true] at hok
        obtain ⟨i1, i2⟩ := drwOps_spec hq hok.2 (fun c hc => hcr c (by simp [hc]))
        refine ⟨by simp [i1], fun m x hx => ?_⟩
        cases m with
        | zero =>
          simp at hx
          subst hx
          exact ⟨o, σ, rfl, rfl, stepOp_sound hs' hok.1 (fun c hc => hcr c (by simp [hc])), fun j cs hn => stepOp_new hs' j cs hn⟩
        | succ m =>
          simp at hx
          obtain ⟨o', σ', h1, h2, h3, h4⟩ := i2 m x hx
          exact ⟨o', σ', by simpa using h1, h2, h3, fun j cs hn => by rw [h4 j cs hn]; omega⟩
      · cases h
    · cases h
theorem noKey_spec {ks : List Nat} {H : List (Nat × Ent)} (h : noKey ks H = true) : ∀ k, k ∈ ks → look H k = none := by
  intro k hk
  have := List.all_eq_true.1 h k hk
  simpa using this
theorem apartH_spec {oi oj : Oper} {ops : Array Oper} {σi σj : Kn} {x y : Kn × Eff} (hx : x.1 = foot ops oi σi) (hy : y.1 = foot ops oj σj) (ht : oi.apart ops oj = true) (h : apartH x y = true) : Apart oi oj x.1 y.1 x.2 y.2 := by
  obtain ⟨h1, h2, h3⟩ := Oper.apart_spec ht
  simp only [apartH, Bool.and_eq_true] at h
  have none_of : ∀ {o : Oper} {σ : Kn} {d : Nat}, ¬ d ∈ Oper.looksAt ops o → look (foot ops o σ).T d = none := by
    intro o σ d hd
    cases hl : look (foot ops o σ).T d with
    | none => rfl
    | some v => exact absurd (look_restT hl).2 hd
  refine ⟨fun d hd => by rw [hy]; exact none_of (h1 d hd), fun d hd => by rw [hx]; exact none_of (h3 d hd), h2, fun k hk => ⟨noKey_spec h.1.1 k hk, ?_⟩, noKey_spec h.1.2⟩
  have := List.all_eq_true.1 h.2 k hk
  simpa using this
theorem apartAll_spec : ∀ {l : List Oper} {E : List (Kn × Eff)} {i : Nat}, apartAll i l E = true → ∀ m n o o' x y, l[m]? = some o → E[m]? = some x → l[n]? = some o' → E[n]? = some y → m < n → (waits o' (i + m) || apartH x y) = true
  | [], [], _, _, m, n, o, _, _, _, h, _, _, _, _ => by simp at h
  | [], _ :: _, _, h, _, _, _, _, _, _, _, _, _, _, _ => by simp [apartAll] at h
  | _ :: _, [], _, h, _, _, _, _, _, _, _, _, _, _, _ => by simp [apartAll] at h
  | o0 :: l, x0 :: E, i, h, m, n, o, o', x, y, hm, hx, hn, hy, hlt => by
    simp only [apartAll, Bool.and_eq_true] at h
    cases n with
    | zero => omega
    | succ n =>
      simp only [List.getElem?_cons_succ] at hn hy
      cases m with
      | zero =>
        simp at hm hx
        subst hm; subst hx
        have : (o', y) ∈ List.zip l E := List.mem_of_getElem? (i := n) (by rw [List.getElem?_zip_eq_some]; exact ⟨hn, hy⟩)
        have := List.all_eq_true.1 h.1 _ this
        simpa using this
      | succ m =>
        simp only [List.getElem?_cons_succ] at hm hx
        have := apartAll_spec h.2 m n o o' x y hm hx hn hy (by omega)
        rwa [show i + 1 + m = i + (m + 1) by omega] at this
theorem waits_spec {oj : Oper} {i : Nat} (h : ∀ e ∈ oj.after, Region.binds .any e = true → e.on ≠ i) : waits oj i = false := by
  unfold waits
  rw [Bool.eq_false_iff]
  intro h'
  obtain ⟨e, he, h1⟩ := Array.any_eq_true'.1 h'
  simp only [Bool.and_eq_true, beq_iff_eq] at h1
  exact h e he h1.1 h1.2
theorem drw_any {P : Program} {N base : Nat} {ops : Array Oper} {E : Nat → Kn × Eff}
    (hF : ∀ i o, ops[i]? = some o → ∃ σ', (E i).1 = foot ops o σ')
    (hA : ∀ i j oi oj, ops[i]? = some oi → ops[j]? = some oj → i < j → (waits oj i || apartH (E i) (E j)) = true) :
    ∀ (l : List Oper) (k : Nat) (listed : Array Bool) (σ : Kn) (hs : List Eff) (ds : List Bool) (r : Drw), (∀ j, l[j]? = ops[k + j]?) → Region.lexFrom .any ops l.length k listed = true →
    drwOps P N base ops k l σ hs ds = some r → (∀ m x, r.E[m]? = some x → E (k + m) = x) → (∀ j, j < k → listed.getD j true = true) → AAny ops E r.σ l.length listed σ
  | [], k, listed, σ, hs, ds, r, _, hB, h, _, _ => by
    injection h with h; subst h
    exact ⟨by simpa [Region.lexFrom] using hB, Eqv.refl _⟩
  | o :: l, k, listed, σ, hs, ds, r, hl, hB, h, hE, hlow => by
    have h0 : ops[k]? = some o := by simpa using (hl 0).symm
    simp only [List.length_cons, Region.lexFrom, Bool.and_eq_true] at hB
    obtain ⟨⟨hr, hf⟩, hB'⟩ := hB
    simp only [drwOps] at h
    split at h
    · rename_i s hs'
      split at h
      · rename_i q hq
        injection h with h; subst h
        have e0 := hE 0 _ rfl
        simp only [Nat.add_zero] at e0
        have ih := drw_any hF hA l (k + 1) (listed.setIfInBounds k true) _ _ _ q (fun j => by have := hl (j + 1); simpa [Nat.add_assoc, Nat.add_comm 1 j] using this) hB' hq
          (fun m x hx => by have := hE (m + 1) x (by simpa using hx); rwa [show k + (m + 1) = k + 1 + m by omega] at this)
          (fun j hj => by
            by_cases hjk : k = j
            · subst hjk
              rcases Nat.lt_or_ge k listed.size with h3 | h3
              · simp [h3]
              · simp
            · rw [getD_set_ne true hjk]; exact hlow j (by omega))
        refine AAny.first h0 l.length listed σ (fun j oj hoj hjk hun hno => ?_) (by simpa using hr) (by rw [e0]; exact foot_le ops o σ) (by rw [e0]; exact ih)
        have hlt : k < j := by
          rcases Nat.lt_or_ge k j with h3 | h3
          · exact h3
          · have := hlow j (by omega); rw [hun] at this; cases this
        have ht := Region.free_spec h0 hf j oj hoj hjk hun hno
        have hh := hA k j o oj h0 hoj hlt
        rw [waits_spec hno, Bool.false_or] at hh
        obtain ⟨σi, hσi⟩ := hF k o h0
        obtain ⟨σj, hσj⟩ := hF j oj hoj
        exact apartH_spec hσi hσj ht hh
      · cases h
    · cases h
theorem drw_sound {P : Program} {N base id : Nat} {ops : Array Oper} {σ : Kn} {hs : List Eff} {ds : List Bool} {r : Drw} {Q : Exit → Act → World → Prop} {C : Cx} {β : Bs} {a : Act} {w : World} (hm : P.follows .mixedOrders = true)
    (h : drwOps P N base ops 0 ops.toList σ hs ds = some r) (hok : allB r.ok = true) (hcr : ∀ q, q ∈ r.cr → CallOK P q) (hB : Region.lexB .any ops = true) (hA : apartAll 0 ops.toList r.E = true) (hr : Rel C N β (fun k => k < base) σ a w)
    (hQ : ∀ β' a' w', Rel C N β' (fun k => k < base + ops.size) r.σ a' w' → Q .normal a' w') : (Code.region id ops true).wp P Q a w := by
  obtain ⟨hlen, hspec⟩ := drwOps_spec h hok hcr
  have hsz : r.E.length = ops.size := by simpa using hlen
  let E : Nat → Kn × Eff := fun i => r.E.getD i (σ, ⟨undefV, [], none⟩)
  have hget : ∀ i o, ops[i]? = some o → r.E[i]? = some (E i) := by
    intro i o ho
    have hi : i < ops.size := by
      rcases Nat.lt_or_ge i ops.size with h3 | h3
      · exact h3
      · simp [Array.getElem?_eq_none h3] at ho
    simp only [E, List.getD_eq_getElem?_getD, List.getElem?_eq_getElem (show i < r.E.length by omega), Option.getD_some]
  have hlist : ∀ i o, ops[i]? = some o → ops.toList[i]? = some o := fun i o ho => by rw [Array.getElem?_toList]; exact ho
  have hE : ∀ i o, ops[i]? = some o → (∃ σ', (E i).1 = foot ops o σ') ∧ StEff P N ops o (E i).1 (E i).2 ∧ ∀ j cs, (E i).2.nw = some (j, cs) → j = base + i := by
    intro i o ho
    obtain ⟨o', σ', h1, h2, h3, h4⟩ := hspec i _ (hget i o ho)
    rw [hlist i o ho] at h1
    injection h1 with h1
    subst h1
    exact ⟨⟨σ', h2⟩, h3, fun j cs hn => by rw [h4 j cs hn]; omega⟩
  simp only [Region.lexB, Bool.and_eq_true] at hB
  refine wp_region_any hm ?_
  have hr' : Rel C N β (keyIn base (Array.replicate ops.size false)) σ a { w with drawn := w.drawn + 1 } := by
    have h1 := hr.mono (S' := keyIn base (Array.replicate ops.size false)) fun k hk => Or.inl hk
    exact ⟨h1.size, h1.defers, h1.tmp, fun k e he => ⟨(h1.blk k e he).1, ⟨(h1.blk k e he).2.1.lt, (h1.blk k e he).2.1.cell, (h1.blk k e he).2.1.free⟩, (h1.blk k e he).2.2⟩, h1.inj, ⟨h1.frame.os, h1.frame.tape, h1.frame.output, h1.frame.size, h1.frame.block⟩, h1.fix⟩
  have hany := drw_any (P := P) (N := N) (base := base) (ops := ops) (E := E) (fun i o ho => (hE i o ho).1)
    (fun i j oi oj hi hj hlt => by
      have := apartAll_spec hA i j oi oj _ _ (hlist i oi hi) (hget i oi hi) (hlist j oj hj) (hget j oj hj) hlt
      simpa using this)
    ops.toList 0 (Array.replicate ops.size false) σ hs ds r (by simp) (by simpa using hB.2) h
    (fun m x hx => by simp only [Nat.zero_add, E, List.getD_eq_getElem?_getD, hx, Option.getD_some]) (fun j hj => by omega)
  have hEn : ∀ i j cs, (E i).2.nw = some (j, cs) → j = base + i := by
    intro i j cs hn
    rcases Nat.lt_or_ge i ops.size with h3 | h3
    · exact (hE i ops[i] (by simp [h3])).2.2 j cs hn
    · simp only [E, List.getD_eq_getElem?_getD, List.getElem?_eq_none (show r.E.length ≤ i by omega), Option.getD_none] at hn
      cases hn
  have := AAny.sound (P := P) (Q := Q) (C := C) (fun i o ho => (hE i o ho).2.1) hEn ops.toList.length (Array.replicate ops.size false) σ β a _ (by simp) hany hr' hQ
  simpa using this
end Go.Proofs.Ytkigmocchaikgaa

/- A call, from statement to statement. -/
namespace Go.Proofs.Ytkigmocchaikgaa
open Go.RowKit

def bf (f : FuncId) : Frame := { (default : Frame) with fn := f, kind := .normal }
def RT (P : Program) (f : FuncId) (todo : List Item) (a : Act) (w : World) (R : Ending → World → Prop) : Prop :=
  ∀ cs, ∃ e w' fr, R e w' ∧ Comes P (lone ((bf f).at a todo) cs w) (lone fr cs w') e ∧ fr.fn = f ∧ fr.leaving P w' e
section
variable {P : Program} {f : FuncId} {a : Act} {w : World} {R : Ending → World → Prop}
theorem RT.step {todo todo' : List Item} {a' : Act} {w' : World} (hs : ∀ cs, step P (lone ((bf f).at a todo) cs w) = .next (lone ((bf f).at a' todo') cs w')) (h : RT P f todo' a' w' R) : RT P f todo a w R := by
  intro cs
  obtain ⟨e, w'', fr, h1, h2, h3⟩ := h cs
  exact ⟨e, w'', fr, h1, .of_steps (.one (hs cs)) h2, h3⟩
theorem RT.skip {k : List Item} (h : RT P f k a w R) : RT P f (.code .skip :: k) a w R := h.step fun _ => step_skip
theorem RT.seq {x y : Code} {k : List Item} (h : RT P f (.code x :: .code y :: k) a w R) : RT P f (.code (.seq x y) :: k) a w R := h.step fun _ => step_seq
theorem RT.block {id : Nat} {c : Code} {k : List Item} (h : RT P f (.code c :: .inBlock id :: k) a w R) : RT P f (.code (.block id c) :: k) a w R := h.step fun _ => step_block
theorem RT.inBlock {id : Nat} {k : List Item} (h : RT P f k a w R) : RT P f (.inBlock id :: k) a w R := h.step fun _ => step_inBlock
theorem RT.loop {c : Code} {k : List Item} (h : RT P f (.code c :: .inLoop c :: k) a w R) : RT P f (.code (.loop c) :: k) a w R := h.step fun _ => step_loop
theorem RT.inLoop {c : Code} {k : List Item} (h : RT P f (.code c :: .inLoop c :: k) a w R) : RT P f (.inLoop c :: k) a w R := h.step fun _ => step_inLoop
theorem RT.exit {id : Nat} {k k' : List Item} (hk : exitTo id k = some k') (h : RT P f k' a w R) : RT P f (.code (.exit id) :: k) a w R := h.step fun _ => step_exit hk
theorem RT.cond {c : Operand} {x y : Code} {k : List Item} {t : Bool} (hc : a.eval c = .bool t) (h : RT P f (.code (if t then x else y) :: k) a w R) : RT P f (.code (.cond c x y) :: k) a w R := h.step fun _ => step_cond hc
theorem RT.region {id : Nat} {ops : Array Oper} {dr : Bool} {k : List Item} (h : (Code.region id ops dr).wp P (fun e a' w' => e = .normal ∧ RT P f k a' w' R) a w) : RT P f (.code (.region id ops dr) :: k) a w R := by
  intro cs
  obtain ⟨e, a', w', ⟨he, hr⟩, harr⟩ := h (bf f) k cs
  subst he
  obtain ⟨e, w'', fr, h1, h2, h3⟩ := hr cs
  exact ⟨e, w'', fr, h1, .of_steps harr h2, h3⟩
theorem RT.ret {fn : Func} {k : List Item} {v : Value} (hf : P.funcs[f]? = some fn) (hd : a.defers = []) (hv : (results fn a.tmps).run P w = .ok v w) (h : R (.returned v) w) : RT P f (.code .ret :: k) a w R :=
  fun _ => ⟨.returned v, w, _, h, .one step_ret, rfl, rfl, hd, rfl, fn, hf, hv⟩
theorem RT.fin {fn : Func} {v : Value} (hf : P.funcs[f]? = some fn) (hd : a.defers = []) (hv : (results fn a.tmps).run P w = .ok v w) (h : R (.returned v) w) : RT P f [] a w R :=
  fun _ => ⟨.returned v, w, _, h, .one step_end, rfl, rfl, hd, rfl, fn, hf, hv⟩
theorem calls_of_RT {fn : Func} {c : Code} {args : Array Value} (hf : P.funcs[f]? = some fn) (hb : fn.body = some c) (h : RT P f [.code c] { tmps := args ++ Array.replicate (fn.ntmps - args.size) undef, defers := [] } w R) : Calls P f args w R := by
  have henter : Frame.enter P f args .normal = (bf f).at { tmps := args ++ Array.replicate (fn.ntmps - args.size) undef, defers := [] } [.code c] := by
    simp [Frame.enter, Frame.at, hf, hb, bf]
  intro cs
  rw [henter]
  exact h cs
end

/- what a call hands back, by what is known -/
def AV.flat : AV → Option AT
  | (Sum.inl x) => some (.c x)
  | (Sum.inr (Sum.inl l)) => some (.ag l)
  | _ => none
def AT.up : AT → AV
  | (Sum.inl x) => .c x
  | (Sum.inr l) => .ag l
def eRes (P : Program) (σ : Kn) : List ResultVar → Option (List AT × Bool)
  | [] => some ([], true)
  | .tmp t :: r => match look σ.T t, eRes P σ r with
    | some v, some (l, ok) => match AV.flat v with
      | some u => some (u :: l, ok)
      | none => none
    | _, _ => none
  | .cell t T :: r => match look σ.T t with
    | some a => match eLoad P T σ a, eRes P σ r with
      | some (v, ok), some (l, ok') => match AV.flat v with
        | some u => some (u :: l, ok && ok')
        | none => none
      | _, _ => none
    | none => none
def resV : List AT → AV
  | [v] => v.up
  | l => .tu l
theorem flat_g {v : AV} {u : AT} (h : AV.flat v = some u) (β : Bs) : v.g β = u.g β ∧ v.ks = u.ks := by
  cases v using AV.tells with
  | c x => injection h with h; subst h; exact ⟨rfl, rfl⟩
  | ag x => injection h with h; subst h; exact ⟨rfl, rfl⟩
  | tu _ => cases h
  | raw _ => cases h
theorem up_g (u : AT) (β : Bs) : u.up.g β = u.g β ∧ u.up.ks = u.ks := by
  cases u using AT.tells <;> exact ⟨rfl, rfl⟩
theorem load_run {P : Program} {T : TypeId} {σ : Kn} {x v : AV} {ok : Bool} (h : eLoad P T σ x = some (v, ok)) (hok : ok = true) {C : Cx} {N : Nat} {β : Bs} {S : Nat → Prop} {a : Act} {w : World} (hr : Rel C N β S σ a w) :
    ∃ A, x.g β = .pointer (some A) ∧ (loadVar T A).run P w = .ok (v.g β) w ∧ ∀ j, j ∈ v.ks → S j := by
  unfold eLoad at h
  split at h
  · split at h
    · rename_i k e hl
      obtain ⟨_, hb, hk, _⟩ := hr.blk _ e hl
      obtain ⟨g1, g2⟩ := wholeC_load h hok hb
      exact ⟨_, rfl, g1, fun j hj => by obtain ⟨c, hc, hj⟩ := g2 j hj; exact hk c hc j hj⟩
    · cases h
  · split at h
    · rename_i k o e hl
      obtain ⟨_, hb, hk, _⟩ := hr.blk _ e hl
      obtain ⟨g1, g2⟩ := partC_load h hok hb
      exact ⟨_, rfl, g1, fun j hj => by obtain ⟨c, hc, hj⟩ := g2 j hj; exact hk c hc j hj⟩
    · cases h
  · cases h
theorem eRes_run {P : Program} {σ : Kn} {C : Cx} {N : Nat} {β : Bs} {S : Nat → Prop} {a : Act} {w : World} (hr : Rel C N β S σ a w) : ∀ {rs : List ResultVar} {l : List AT} {ok : Bool}, eRes P σ rs = some (l, ok) → ok = true →
    (rs.mapM (fun x => match x with
      | ResultVar.tmp t => pure (a.tmps.getD t undef)
      | ResultVar.cell x t => do let __do_lift ← asAddr (a.tmps.getD x undef); loadVar t __do_lift : ResultVar → Sem Value)).run P w = .ok (l.map (AT.g β)) w ∧ (∀ v : AT, v ∈ l → ∀ k, k ∈ v.ks → S k)
  | [], l, ok, h, _ => by
    simp only [eRes, Option.some.injEq, Prod.mk.injEq] at h
    obtain ⟨rfl, _⟩ := h
    exact ⟨by simp, fun _ h => nomatch h⟩
  | .tmp t :: rs, l, ok, h, hok => by
    simp only [eRes] at h
    split at h
    · rename_i v l' ok' hv hl
      split at h
      · rename_i u hfl
        simp only [Option.some.injEq, Prod.mk.injEq] at h
        obtain ⟨rfl, rfl⟩ := h
        obtain ⟨i1, i2⟩ := eRes_run hr hl hok
        obtain ⟨t1, t2⟩ := hr.tmp t v hv
        refine ⟨?_, fun x hx => ?_⟩
        · have hg : a.tmps.getD t undef = u.g β := by rw [Array.getD_eq_getD_getElem?, t1, (flat_g hfl β).1]; rfl
          simp only [List.mapM_cons, Sem.run_bind, hg, Sem.run_pure, Result.andThen_ok, i1, List.map_cons]
        · rcases List.mem_cons.1 hx with h | h
          · rw [h, ← (flat_g hfl β).2]; exact t2
          · exact i2 x h
      · cases h
    · cases h
  | .cell t T :: rs, l, ok, h, hok => by
    simp only [eRes] at h
    split at h
    · rename_i x hx
      split at h
      · rename_i v ok1 l' ok2 hv hl
        split at h
        · rename_i u hfl
          simp only [Option.some.injEq, Prod.mk.injEq] at h
          obtain ⟨rfl, rfl⟩ := h
          rw [Bool.and_eq_true] at hok
          obtain ⟨i1, i2⟩ := eRes_run hr hl hok.2
          obtain ⟨A, g1, g2, g3⟩ := load_run hv hok.1 hr
          obtain ⟨t1, _⟩ := hr.tmp t x hx
          refine ⟨?_, fun y hy => ?_⟩
          · have hA : (asAddr (a.tmps.getD t undef)).run P w = .ok A w := by rw [Array.getD_eq_getD_getElem?, t1, g1]; rfl
            simp only [List.mapM_cons, Sem.run_bind, hA, Sem.run_pure, Result.andThen_ok, g2, i1, List.map_cons, (flat_g hfl β).1]
          · rcases List.mem_cons.1 hy with h | h
            · rw [h, ← (flat_g hfl β).2]; exact g3
            · exact i2 y h
        · cases h
      · cases h
    · cases h
theorem results_run {P : Program} {fn : Func} {σ : Kn} {C : Cx} {N : Nat} {β : Bs} {S : Nat → Prop} {a : Act} {w : World} (hr : Rel C N β S σ a w) {l : List AT} {ok : Bool} (h : eRes P σ fn.results.toList = some (l, ok)) (hok : ok = true) :
    (results fn a.tmps).run P w = .ok ((resV l).g β) w ∧ ∀ k, k ∈ (resV l).ks → S k := by
  obtain ⟨h1, h2⟩ := eRes_run hr h hok
  have hm : (Array.mapM (fun x => match x with
      | ResultVar.tmp t => pure (a.tmps.getD t undef)
      | ResultVar.cell x t => do let __do_lift ← asAddr (a.tmps.getD x undef); loadVar t __do_lift : ResultVar → Sem Value) fn.results).run P w = .ok (l.map (AT.g β)).toArray w := by
    rw [Array.mapM_eq_mapM_toList, Sem.run_map, h1]; rfl
  have h3 : (results fn a.tmps).run P w = .ok (if h : (l.map (AT.g β)).toArray.size = 1 then (l.map (AT.g β)).toArray[0] else .tuple (l.map (AT.g β)).toArray) w := by
    unfold results
    rw [Sem.run_bind]
    refine (congrArg (fun r => Result.andThen r _) hm).trans ?_
    rfl
  clear hm h1 h
  rcases l with _ | ⟨v, _ | ⟨u, r⟩⟩
  · exact ⟨h3, fun k hk => nomatch hk⟩
  · refine ⟨?_, fun k hk => h2 v (by simp) k (by rw [← (up_g v β).2]; exact hk)⟩
    rw [h3]
    simp only [resV, (up_g v β).1]
    rfl
  · refine ⟨?_, fun k hk => ?_⟩
    · rw [h3, dif_neg (by simp)]; rfl
    · obtain ⟨x, hx, hk⟩ := List.mem_flatMap.1 hk
      exact h2 x hx k hk

/- what comes of it: an end with a value, or the rest that stands open -/
abbrev Out := Sum (AV × Kn) (List Item × Kn)
abbrev Out.ret (v : AV) (σ : Kn) : Out := (Sum.inl (v, σ))
abbrev Out.cut (todo : List Item) (σ : Kn) : Out := (Sum.inr (todo, σ))
structure Run where
  out : Out
  ok : List Bool
  cr : List CallRec
def Run.and (r : Run) (ok : List Bool) (cr : List CallRec) : Run := ⟨r.out, ok ++ r.ok, cr ++ r.cr⟩
def eRet (P : Program) (fn : Func) (σ : Kn) (hs : List Eff) (ds : List Bool) : Option Run :=
  match hs, ds, eRes P σ fn.results.toList with
  | [], [], some (l, ok) => some ⟨.ret (resV l) σ, [ok], []⟩
  | _, _, _ => none
def eRegion (P : Program) (N : Nat) (ops : Array Oper) (dr : Bool) (σ : Kn) (hs : List Eff) (ds : List Bool) : Option Seq :=
  match dr with
  | false => match seqOps P N σ.n ops 0 ops.toList σ hs ds with
    | some r => some { r with σ := { r.σ with n := σ.n + ops.size } }
    | none => none
  | true => match drwOps P N σ.n ops 0 ops.toList σ hs ds with
    | some r => bif Region.lexB .any ops && apartAll 0 ops.toList r.E && P.follows .mixedOrders then some ⟨{ r.σ with n := σ.n + ops.size }, r.ok, r.cr, r.hs, r.ds⟩ else none
    | none => none
/- from here on, till the call ends, or till a round of a loop begins where 'st' says so -/
def runT (P : Program) (fn : Func) (N : Nat) : Nat → List Item → Kn → List Eff → List Bool → List Bool → Option Run
  | 0, _, _, _, _, _ => none
  | m + 1, todo, σ, hs, ds, st =>
    match todo with
    | [] => eRet P fn σ hs ds
    | .inBlock _ :: k => runT P fn N m k σ hs ds st
    | .inLoop c :: k => match st with
      | true :: _ => match hs, ds with
        | [], [] => some ⟨.cut (.code c :: .inLoop c :: k) σ, [], []⟩
        | _, _ => none
      | false :: st => runT P fn N m (.code c :: .inLoop c :: k) σ hs ds st
      | [] => none
    | .code c :: k => match c with
      | .skip => runT P fn N m k σ hs ds st
      | .seq x y => runT P fn N m (.code x :: .code y :: k) σ hs ds st
      | .block id c => runT P fn N m (.code c :: .inBlock id :: k) σ hs ds st
      | .loop c => match st with
        | true :: _ => match hs, ds with
          | [], [] => some ⟨.cut (.code c :: .inLoop c :: k) σ, [], []⟩
          | _, _ => none
        | false :: st => runT P fn N m (.code c :: .inLoop c :: k) σ hs ds st
        | [] => none
      | .exit id => match exitTo id k with
        | some k' => runT P fn N m k' σ hs ds st
        | none => none
      | .cond t x y => match σ.ev t, ds with
        | some (Sum.inl (Sum.inr (Sum.inl (Sum.inl b)))), d :: ds => match runT P fn N m (.code (bif d then x else y) :: k) σ hs ds st with
          | some r => some (r.and [same b d] [])
          | none => none
        | _, _ => none
      | .region _ ops dr => match eRegion P N ops dr σ hs ds with
        | some q => match runT P fn N m k q.σ q.hs q.ds st with
          | some r => some (r.and q.ok q.cr)
          | none => none
        | none => none
      | .ret => eRet P fn σ hs ds
      | _ => none
    | _ => none
def ART (P : Program) (f : FuncId) (C : Cx) (N : Nat) (todo : List Item) (σ : Kn) (R : Ending → World → Prop) : Prop :=
  ∀ β a w, Rel C N β (fun k => k < σ.n) σ a w → RT P f todo a w R
/- what the end of a call asks for -/
def AEnd (C : Cx) (N : Nat) (v : AV) (σ : Kn) (R : Ending → World → Prop) : Prop :=
  ∀ β a w, Rel C N β (fun k => k < σ.n) σ a w → (∀ k, k ∈ v.ks → k < σ.n) → R (.returned (v.g β)) w
def Run.next (P : Program) (f : FuncId) (C : Cx) (N : Nat) (R : Ending → World → Prop) : Out → Prop
  | (Sum.inl (v, σ)) => AEnd C N v σ R
  | (Sum.inr (todo, σ)) => ART P f C N todo σ R
theorem Rel.setn {C : Cx} {N : Nat} {β : Bs} {S : Nat → Prop} {σ : Kn} {a : Act} {w : World} (h : Rel C N β S σ a w) (n : Nat) : Rel C N β S { σ with n := n } a w :=
  ⟨h.size, h.defers, h.tmp, h.blk, h.inj, h.frame, h.fix⟩
theorem eRegion_sound {P : Program} {N id : Nat} {ops : Array Oper} {dr : Bool} {σ : Kn} {hs : List Eff} {ds : List Bool} {q : Seq} (h : eRegion P N ops dr σ hs ds = some q) (hok : allB q.ok = true) (hcr : ∀ c, c ∈ q.cr → CallOK P c)
    {C : Cx} {β : Bs} {a : Act} {w : World} {Q : Exit → Act → World → Prop} (hr : Rel C N β (fun k => k < σ.n) σ a w) (hQ : ∀ β' a' w', Rel C N β' (fun k => k < q.σ.n) q.σ a' w' → Q .normal a' w') : (Code.region id ops dr).wp P Q a w := by
  unfold eRegion at h
  cases dr with
  | false =>
    simp only at h
    split at h
    · rename_i r hrr
      injection h with h; subst h
      refine wp_region ?_
      have := seqOps_sound (P := P) (N := N) (base := σ.n) (ops := ops) (Q := Q) ops.toList 0 σ hs ds r β a w (by simp) hrr hok hcr (by simpa using hr)
        (fun β' a' w' hr' => hQ β' a' w' (by simpa using hr'.setn (σ.n + ops.size)))
      simpa [List.range_eq_range'] using this
    · cases h
  | true =>
    simp only at h
    split at h
    · rename_i r hrr
      cases hc : (Region.lexB .any ops && apartAll 0 ops.toList r.E && P.follows .mixedOrders) with
      | false => rw [hc] at h; cases h
      | true =>
        rw [hc] at h
        simp only [cond_true, Option.some.injEq] at h
        subst h
        simp only [Bool.and_eq_true] at hc
        exact drw_sound hc.2 hrr hok hcr hc.1.1 hc.1.2 hr (fun β' a' w' hr' => hQ β' a' w' (hr'.setn _))
    · cases h
theorem eRet_sound {P : Program} {f : FuncId} {fn : Func} {N : Nat} {σ : Kn} {hs : List Eff} {ds : List Bool} {r : Run} {R : Ending → World → Prop} (h : eRet P fn σ hs ds = some r) (hok : allB r.ok = true) {C : Cx} (hn : Run.next P f C N R r.out)
    {β : Bs} {a : Act} {w : World} (hr : Rel C N β (fun k => k < σ.n) σ a w) : ∃ v, (results fn a.tmps).run P w = .ok v w ∧ R (.returned v) w := by
  unfold eRet at h
  split at h
  · rename_i l ok he
    injection h with h; subst h
    obtain ⟨h1, h2⟩ := results_run hr he (by simpa [allB] using hok)
    exact ⟨_, h1, hn β a w hr h2⟩
  · cases h
theorem runT_sound {P : Program} {f : FuncId} {fn : Func} {N : Nat} (hf : P.funcs[f]? = some fn) {C : Cx} {R : Ending → World → Prop} : ∀ (m : Nat) (todo : List Item) (σ : Kn) (hs : List Eff) (ds st : List Bool) (r : Run),
    runT P fn N m todo σ hs ds st = some r → allB r.ok = true → (∀ c, c ∈ r.cr → CallOK P c) → Run.next P f C N R r.out → ART P f C N todo σ R
  | 0, _, _, _, _, _, _, h, _, _, _ => by cases h
  | m + 1, todo, σ, hs, ds, st, r, h, hok, hcr, hn => by
    intro β a w hr
    have cutc : ∀ {c k}, (match st with
        | true :: _ => match hs, ds with
          | [], [] => some ⟨.cut (.code c :: .inLoop c :: k) σ, [], []⟩
          | _, _ => none
        | false :: st => runT P fn N m (.code c :: .inLoop c :: k) σ hs ds st
        | [] => none) = some r → RT P f (.code c :: .inLoop c :: k) a w R := by
      intro c k h
      split at h
      · split at h
        · injection h with h; subst h; exact hn β a w hr
        · cases h
      · exact runT_sound hf m _ σ hs ds _ r h hok hcr hn β a w hr
      · cases h
    unfold runT at h
    split at h
    · obtain ⟨v, h1, h2⟩ := eRet_sound h hok hn hr
      exact RT.fin hf hr.defers h1 h2
    · exact RT.inBlock (runT_sound hf m _ σ hs ds st r h hok hcr hn β a w hr)
    · exact RT.inLoop (cutc h)
    · split at h
      · exact RT.skip (runT_sound hf m _ σ hs ds st r h hok hcr hn β a w hr)
      · exact RT.seq (runT_sound hf m _ σ hs ds st r h hok hcr hn β a w hr)
      · exact RT.block (runT_sound hf m _ σ hs ds st r h hok hcr hn β a w hr)
      · exact RT.loop (cutc h)
      · split at h
        · rename_i k' hk'
          exact RT.exit hk' (runT_sound hf m _ σ hs ds st r h hok hcr hn β a w hr)
        · cases h
      · split at h
        · rename_i x d ds' hx
          split at h
          · rename_i q hq
            injection h with h; subst h
            simp only [Run.and, List.cons_append, List.nil_append, allB, Bool.and_eq_true, same_iff] at hok
            have hx' : a.eval _ = .bool x := (hr.ev hx).1
            refine RT.cond hx' ?_
            have := runT_sound hf m _ σ hs ds' st q hq hok.2 (fun c hc => hcr c (by simp [Run.and, hc])) hn β a w hr
            rw [← hok.1] at this
            cases x <;> exact this
          · cases h
        · cases h
      · split at h
        · rename_i q hq
          split at h
          · rename_i r' hr'
            injection h with h; subst h
            simp only [Run.and, allB_append, Bool.and_eq_true] at hok
            refine RT.region (eRegion_sound hq hok.1 (fun c hc => hcr c (by simp [Run.and, hc])) hr fun β' a' w' h' => ⟨rfl, ?_⟩)
            exact runT_sound hf m _ q.σ q.hs q.ds st r' hr' hok.2 (fun c hc => hcr c (by simp [Run.and, hc])) hn β' a' w' h'
          · cases h
        · cases h
      · obtain ⟨v, h1, h2⟩ := eRet_sound h hok hn hr
        exact RT.ret hf hr.defers h1 h2
      · cases h
    · cases h
end Go.Proofs.Ytkigmocchaikgaa

/- What a function hands back, out of the reckoning of its body. -/
namespace Go.Proofs.Ytkigmocchaikgaa
open Go.RowKit

def enumT : Nat → List AV → List (Nat × AV)
  | _, [] => []
  | i, v :: l => (i, v) :: enumT (i + 1) l
theorem look_enumT : ∀ {l : List AV} {i t : Nat} {v : AV}, look (enumT i l) t = some v → i ≤ t ∧ l[t - i]? = some v
  | [], _, _, _, h => by simp [enumT, look] at h
  | u :: l, i, t, v, h => by
    simp only [enumT, look_cons] at h
    split at h
    · rename_i ht; subst ht; injection h with h; subst h; exact ⟨Nat.le_refl _, by simp⟩
    · obtain ⟨h1, h2⟩ := look_enumT h
      refine ⟨by omega, ?_⟩
      rw [show t - i = (t - (i + 1)) + 1 by omega, List.getElem?_cons_succ]
      exact h2
def bodyOf (fn : Func) : Code := match fn.body with | some c => c | none => .skip
/- where a call begins -/
def Kn.start (args : List AV) (H : List (Nat × Ent)) (n : Nat) : Kn := ⟨enumT 0 args, H, n⟩
structure Begin (args : List AV) (H : List (Nat × Ent)) (n : Nat) : Prop where
  args : ∀ v, v ∈ args → ∀ k, k ∈ v.ks → k < n
  H : ∀ k e, look H k = some e → k < n ∧ ∀ c, c ∈ e.cells → ∀ j, j ∈ c.ks → j < n
theorem rel_start {N : Nat} {args : List AV} {H : List (Nat × Ent)} {n : Nat} (hb : Begin args H n) (hN : args.length ≤ N) {β : Bs} {w : World} (hB : ∀ k e, look H k = some e → Blk β w k e)
    (hI : ∀ k e k' e', look H k = some e → look H k' = some e' → k ≠ k' → e.wr = true → (β k).1 ≠ (β k').1) (X : Nat → Prop) (hX : ∀ k e, look H k = some e → e.wr = true → X (β k).1) :
    Rel ⟨w, X, β, fun k => k < n⟩ N β (fun k => k < n) (Kn.start args H n) { tmps := (args.map (AV.g β)).toArray ++ Array.replicate (N - (args.map (AV.g β)).toArray.size) undef, defers := [] } w := by
  refine ⟨by simp; omega, rfl, fun t v hl => ?_, fun k e hl => ⟨(hb.H k e hl).1, hB k e hl, (hb.H k e hl).2, fun hw => Or.inr (hX k e hl hw)⟩, hI, Fr.refl _ _, fun k hk => ⟨hk, rfl⟩⟩
  obtain ⟨_, h2⟩ := look_enumT hl
  simp only [Nat.sub_zero] at h2
  refine ⟨?_, hb.args v (List.mem_of_getElem? h2)⟩
  have hlt : t < args.length := by
    rcases Nat.lt_or_ge t args.length with h | h
    · exact h
    · rw [List.getElem?_eq_none h] at h2; cases h2
  rw [Array.getElem?_append_left (by simpa using hlt)]
  simp [h2]
def retOf : Option Run → Option (AV × Bool × List CallRec)
  | some ⟨(Sum.inl (v, _)), ok, cr⟩ => some (v, allB ok, cr)
  | _ => none
theorem retOf_some {r : Option Run} {v : AV} {ok : Bool} {cr : List CallRec} (h : retOf r = some (v, ok, cr)) : ∃ σ oks, r = some ⟨.ret v σ, oks, cr⟩ ∧ allB oks = ok := by
  unfold retOf at h
  split at h
  · rename_i v' σ ok' cr'
    simp only [Option.some.injEq, Prod.mk.injEq] at h
    obtain ⟨rfl, rfl, rfl⟩ := h
    exact ⟨σ, _, rfl, rfl⟩
  · cases h
/- a function that writes nothing that was there -/
def RPure (w : World) (β : Bs) (v : AV) (en : Ending) (w' : World) : Prop := ∃ β', en = .returned (v.g β') ∧ Up ⟨v, [], none⟩ β β' w w'
theorem end_pure {w : World} {β : Bs} {n N : Nat} {v : AV} {σ : Kn} (hv : ∀ k, k ∈ v.ks → k < n) : AEnd ⟨w, fun _ => False, β, fun k => k < n⟩ N v σ (RPure w β v) := by
  intro β' a w' hr _
  refine ⟨β, ?_, ⟨hr.frame.os, hr.frame.tape, hr.frame.output, hr.frame.size, fun B hB _ => hr.frame.block B hB id⟩, fun _ _ hm => (nomatch hm), rfl⟩
  rw [v.g_congr fun k hk => (hr.fix k (hv k hk)).2]
theorem pure_of {P : Program} {f : FuncId} {fn : Func} {args : List AV} {H : List (Nat × Ent)} {n : Nat} {v : AV} (hf : P.funcs[f]? = some fn) (hb : fn.body.isSome = true) (hN : Nat.ble args.length fn.ntmps = true) (hB : Begin args H n) (hro : ∀ k e, look H k = some e → e.wr = false)
    (hv : ∀ k, k ∈ v.ks → ∃ e, look H k = some e)
    (h : ∀ w β, (∀ k e, look H k = some e → Blk β w k e) → ART P f ⟨w, fun _ => False, β, fun k => k < n⟩ fn.ntmps [.code (bodyOf fn)] (Kn.start args H n) (RPure w β v)) : CallOK P ⟨f, args, H, ⟨v, [], none⟩⟩ := by
  refine ⟨⟨fun k hk => hv k hk, fun _ _ hm => (nomatch hm), fun _ _ hm => (nomatch hm)⟩, fun _ _ hm => (nomatch hm), fun β w hBl hI => ?_⟩
  have hb' : fn.body = some (bodyOf fn) := by
    unfold bodyOf
    cases hx : fn.body with
    | none => rw [hx] at hb; cases hb
    | some c => rfl
  refine calls_of_RT hf hb' (h w β hBl β _ w ?_)
  exact rel_start hB (Nat.le_of_ble_eq_true hN) hBl hI _ fun k e hl hw => by rw [hro k e hl] at hw; cases hw
/- without loops that are cut -/
theorem pure_run {P : Program} {f : FuncId} {fn : Func} {args : List AV} {H : List (Nat × Ent)} {n : Nat} {v : AV} {ok : Bool} {cr : List CallRec} (m : Nat) (hs : List Eff) (ds st : List Bool) (hf : P.funcs[f]? = some fn) (hb : fn.body.isSome = true) (hN : Nat.ble args.length fn.ntmps = true) (hB : Begin args H n)
    (hro : ∀ k e, look H k = some e → e.wr = false) (hv : ∀ k, k ∈ v.ks → ∃ e, look H k = some e) (h : retOf (runT P fn fn.ntmps m [.code (bodyOf fn)] (Kn.start args H n) hs ds st) = some (v, ok, cr)) (hok : ok = true) (hcr : ∀ c, c ∈ cr → CallOK P c) :
    CallOK P ⟨f, args, H, ⟨v, [], none⟩⟩ := by
  refine pure_of hf hb hN hB hro hv fun w β hBl => ?_
  obtain ⟨σ, oks, hr, ho⟩ := retOf_some h
  exact runT_sound hf m _ _ hs ds st _ hr (ho.trans hok) hcr (end_pure fun k hk => by obtain ⟨e, he⟩ := hv k hk; exact (hB.H k e he).1)
/- with nothing handed in that lies in memory -/
theorem begin0 {args : List AV} (h : keysOf args = []) : Begin args [] 0 :=
  ⟨fun v hv k hk => by
    have : k ∈ keysOf args := List.mem_flatMap.2 ⟨v, hv, hk⟩
    rw [h] at this; exact (nomatch this), fun k e h => (nomatch h)⟩
theorem val_run {P : Program} {f : FuncId} {fn : Func} {args : List AV} {v : AV} {ok : Bool} {cr : List CallRec} (m : Nat) (hs : List Eff) (ds st : List Bool) (hf : P.funcs[f]? = some fn) (hb : fn.body.isSome = true) (hN : Nat.ble args.length fn.ntmps = true) (hk : keysOf args = []) (hv : v.ks = [])
    (h : retOf (runT P fn fn.ntmps m [.code (bodyOf fn)] (Kn.start args [] 0) hs ds st) = some (v, ok, cr)) (hok : ok = true) (hcr : ∀ c, c ∈ cr → CallOK P c) : CallOK P ⟨f, args, [], ⟨v, [], none⟩⟩ :=
  pure_run m hs ds st hf hb hN (begin0 hk) (fun k e h => (nomatch h)) (fun k hk => (by rw [hv] at hk; cases hk)) h hok hcr
theorem val_of {P : Program} {f : FuncId} {fn : Func} {args : List AV} {v : AV} (hf : P.funcs[f]? = some fn) (hb : fn.body.isSome = true) (hN : Nat.ble args.length fn.ntmps = true) (hk : keysOf args = []) (hv : v.ks = [])
    (h : ∀ w β, ART P f ⟨w, fun _ => False, β, fun k => k < 0⟩ fn.ntmps [.code (bodyOf fn)] (Kn.start args [] 0) (RPure w β v)) : CallOK P ⟨f, args, [], ⟨v, [], none⟩⟩ :=
  pure_of hf hb hN (begin0 hk) (fun k e h => (nomatch h)) (fun k hk => (by rw [hv] at hk; cases hk)) fun w β _ => h w β
/- contracts, there and back -/
theorem ok_of_calls {P : Program} {f : FuncId} {A : Array Value} {V : Value} {args : List AV} {H : List (Nat × Ent)} {v : AV} (hA : ∀ β, (args.map (AV.g β)).toArray = A) (hV : ∀ β, v.g β = V) (hv : v.ks = [])
    (h : ∀ w, Calls P f A w fun e w' => e = .returned V ∧ Below w.heap.size w w') : CallOK P ⟨f, args, H, ⟨v, [], none⟩⟩ := by
  refine ⟨⟨fun k hk => (by rw [hv] at hk; cases hk), fun _ _ hm => (nomatch hm), fun _ _ hm => (nomatch hm)⟩, fun _ _ hm => (nomatch hm), fun β w _ _ => ?_⟩
  show Calls P f (args.map (AV.g β)).toArray w _
  rw [hA β]
  exact (h w).mono fun e w' ⟨he, hb⟩ => ⟨β, by rw [he, hV β], Fr.of_below hb, fun _ _ hm => (nomatch hm), rfl⟩
theorem calls_of_ok {P : Program} {f : FuncId} {A : Array Value} {V : Value} {args : List AV} {v : AV} (β : Bs) (hA : (args.map (AV.g β)).toArray = A) (hV : ∀ β, v.g β = V) (h : CallOK P ⟨f, args, [], ⟨v, [], none⟩⟩) (w : World) :
    Calls P f A w fun e w' => e = .returned V ∧ Below w.heap.size w w' := by
  have := h.call β w (fun k e h => by cases h) (fun k e _ _ h => by cases h)
  rw [← hA]
  refine this.mono fun e w' ⟨β', he, hu⟩ => ⟨by rw [he, hV], ?_⟩
  exact ⟨hu.frame.os, hu.frame.tape, hu.frame.output, hu.frame.size, fun k hk => hu.frame.block k hk fun ⟨_, _, hm, _⟩ => by cases hm⟩
theorem CallOK.congr {P : Program} {r q : CallRec} (h : CallOK P q) (e : r = q) : CallOK P r := e ▸ h

/- loops -/
def loopsIn : Code → List Item → List (List Item)
  | .seq x y, k => loopsIn x (.code y :: k) ++ loopsIn y k
  | .cond _ x y, k => loopsIn x k ++ loopsIn y k
  | .block id c, k => loopsIn c (.inBlock id :: k)
  | .loop c, k => (.code c :: .inLoop c :: k) :: loopsIn c (.inLoop c :: k)
  | _, _ => []
def cutAt (fn : Func) (j : Nat) : List Item := (loopsIn (bodyOf fn) []).getD j []
def cutOf (ts ks : List Nat) : Option Run → Option (List Item × List (Option AV) × List (Option Ent) × Bool × List CallRec)
  | some ⟨(Sum.inr (z, σ)), ok, cr⟩ => some (z, ts.map (look σ.T), ks.map (look σ.H), allB ok, cr)
  | _ => none
theorem cutOf_some {ts ks : List Nat} {r : Option Run} {z : List Item} {vs : List (Option AV)} {es : List (Option Ent)} {ok : Bool} {cr : List CallRec} (h : cutOf ts ks r = some (z, vs, es, ok, cr)) :
    ∃ σ oks, r = some ⟨.cut z σ, oks, cr⟩ ∧ allB oks = ok ∧ ts.map (look σ.T) = vs ∧ ks.map (look σ.H) = es := by
  unfold cutOf at h
  split at h
  · rename_i z' σ ok' cr'
    simp only [Option.some.injEq, Prod.mk.injEq] at h
    obtain ⟨rfl, h1, h2, rfl, rfl⟩ := h
    exact ⟨σ, _, rfl, rfl, h1, h2⟩
  · cases h
structure Kn.Low (σ : Kn) : Prop where
  t : ∀ t v, look σ.T t = some v → ∀ k, k ∈ v.ks → k < σ.n
  h : ∀ k e, look σ.H k = some e → k < σ.n ∧ ∀ c, c ∈ e.cells → ∀ j, j ∈ c.ks → j < σ.n
theorem ART.weaken {P : Program} {f : FuncId} {C : Cx} {N : Nat} {todo : List Item} {σ σ' : Kn} {R : Ending → World → Prop} (h : ART P f C N todo σ' R) (hle : Le σ' σ) (hlow : σ'.Low) (hF : ∀ k, C.F k → k < σ'.n) : ART P f C N todo σ R := by
  intro β a w hr
  refine h β a w ⟨hr.size, hr.defers, fun t v hv => ⟨(hr.tmp t v (hle.t t v hv)).1, hlow.t t v hv⟩, fun k e he => ⟨(hlow.h k e he).1, (hr.blk k e (hle.h k e he)).2.1, (hlow.h k e he).2, (hr.blk k e (hle.h k e he)).2.2.2⟩, ?_, hr.frame, fun k hk => ⟨hF k hk, (hr.fix k hk).2⟩⟩
  exact fun k e k' e' he he' => hr.inj k e k' e' (hle.h k e he) (hle.h k' e' he')
theorem look_mem {α : Type} : ∀ {l : List (Nat × α)} {t : Nat} {v : α}, look l t = some v → (t, v) ∈ l
  | [], _, _, h => by cases h
  | (j, x) :: l, t, v, h => by
    rw [look_cons] at h
    split at h
    · rename_i ht; subst ht; injection h with h; subst h; simp
    · exact List.mem_cons_of_mem _ (look_mem h)
theorem map_look {α : Type} {T : List (Nat × α)} {l : List (Nat × α)} (h : (l.map (·.1)).map (look T) = l.map fun x => some x.2) : ∀ t v, look l t = some v → look T t = some v := by
  intro t v hl
  have hm := look_mem hl
  rw [List.map_map] at h
  exact List.map_eq_map_iff.1 h (t, v) hm
theorem run_cut {P : Program} {f : FuncId} {fn : Func} {N : Nat} {C : Cx} {R : Ending → World → Prop} {todo z : List Item} {σ : Kn} {ok : Bool} {cr : List CallRec} (σ' : Kn) (m : Nat) (hs : List Eff) (ds st : List Bool) (hf : P.funcs[f]? = some fn)
    (h : cutOf (σ'.T.map (·.1)) (σ'.H.map (·.1)) (runT P fn N m todo σ hs ds st) = some (z, σ'.T.map (fun x => some x.2), σ'.H.map (fun x => some x.2), ok, cr)) (hok : ok = true) (hcr : ∀ c, c ∈ cr → CallOK P c) (hlow : σ'.Low) (hF : ∀ k, C.F k → k < σ'.n)
    (hz : ART P f C N z σ' R) : ART P f C N todo σ R := by
  obtain ⟨σ1, oks, h1, ho, h2, h3⟩ := cutOf_some h
  refine runT_sound hf m todo σ hs ds st _ h1 (ho.trans hok) hcr ?_
  exact hz.weaken ⟨map_look h2, map_look h3⟩ hlow hF
theorem run_ret {P : Program} {f : FuncId} {fn : Func} {N : Nat} {w : World} {β : Bs} {n : Nat} {todo : List Item} {σ : Kn} {v : AV} {ok : Bool} {cr : List CallRec} (m : Nat) (hs : List Eff) (ds st : List Bool) (hf : P.funcs[f]? = some fn)
    (h : retOf (runT P fn N m todo σ hs ds st) = some (v, ok, cr)) (hok : ok = true) (hcr : ∀ c, c ∈ cr → CallOK P c) (hv : ∀ k, k ∈ v.ks → k < n) : ART P f ⟨w, fun _ => False, β, fun k => k < n⟩ N todo σ (RPure w β v) := by
  obtain ⟨σ1, oks, h1, ho⟩ := retOf_some h
  exact runT_sound hf m todo σ hs ds st _ h1 (ho.trans hok) hcr (end_pure hv)
theorem cr_nil {P : Program} : ∀ c, c ∈ ([] : List CallRec) → CallOK P c := fun _ h => nomatch h
theorem cr_cons {P : Program} {r : CallRec} {l : List CallRec} (h : CallOK P r) (hl : ∀ c, c ∈ l → CallOK P c) : ∀ c, c ∈ r :: l → CallOK P c := fun c hc => by
  rcases List.mem_cons.1 hc with h1 | h1
  · rw [h1]; exact h
  · exact hl c h1
theorem run_ret0 {P : Program} {f : FuncId} {fn : Func} {N : Nat} {w : World} {β : Bs} {n : Nat} {todo : List Item} {σ : Kn} {v : AV} {ok : Bool} {cr : List CallRec} (m : Nat) (hs : List Eff) (ds st : List Bool) (hf : P.funcs[f]? = some fn)
    (hv : v.ks = []) (h : retOf (runT P fn N m todo σ hs ds st) = some (v, ok, cr)) (hok : ok = true) (hcr : ∀ c, c ∈ cr → CallOK P c) : ART P f ⟨w, fun _ => False, β, fun k => k < n⟩ N todo σ (RPure w β v) :=
  run_ret m hs ds st hf h hok hcr fun k hk => (by rw [hv] at hk; cases hk)
def lowK (σ : Kn) : Bool := (σ.T.flatMap fun x => x.2.ks).all (fun k => Nat.blt k σ.n) && (σ.H.map (·.1) ++ σ.H.flatMap fun x => x.2.cells.flatMap AC.ks).all (fun k => Nat.blt k σ.n)
theorem low_of {σ : Kn} (h : lowK σ = true) : σ.Low := by
  simp only [lowK, Bool.and_eq_true, List.all_eq_true] at h
  refine ⟨fun t v hv k hk => ?_, fun k e he => ⟨?_, fun c hc j hj => ?_⟩⟩
  · simpa using h.1 k (List.mem_flatMap.2 ⟨(t, v), look_mem hv, hk⟩)
  · simpa using h.2 k (List.mem_append.2 (Or.inl (List.mem_map.2 ⟨(k, e), look_mem he, rfl⟩)))
  · simpa using h.2 j (List.mem_append.2 (Or.inr (List.mem_flatMap.2 ⟨(k, e), look_mem he, mem_flat hc hj⟩)))
end Go.Proofs.Ytkigmocchaikgaa

/- Values and reckoning with them, as plain functions. -/
namespace Go.Proofs.Ytkigmocchaikgaa

structure V4 where
  v : BitVec 64
  m : BitVec 64
  l : BitVec 64
  h : BitVec 64
theorem V4.ext' {a b : V4} (h1 : a.v = b.v) (h2 : a.m = b.m) (h3 : a.l = b.l) (h4 : a.h = b.h) : a = b := by cases a; cases b; simp_all
def V4.cs (a : V4) : List AC := [.u a.v, .u a.m, .u a.l, .u a.h]
def V4.z : V4 := ⟨zero, zero, zero, zero⟩
def V4.rt (a : V4) : Bool := eqb (band a.v a.m) zero
def V4.ok (a : V4) : Bool := valB a.v a.m a.l a.h
def V4.nok (a : V4) : Bool := normOk a.v a.m a.l a.h
def V4.nrm (a : V4) : V4 := ⟨nV a.v a.m a.l a.h, nM a.m (nLo a.v a.m a.l) (nHi a.v a.m a.h), nLo a.v a.m a.l, nHi a.v a.m a.h⟩
def V4.norm (a : V4) : V4 := if a.nok then a.nrm else V4.z
def V4.has (a : V4) (x : BitVec 64) : Bool := hasV a.v a.m a.l a.h x
def V4.of (x : BitVec 64) : V4 := ⟨x, zero, x, x⟩
def V4.any : V4 := ⟨zero, top, zero, top⟩
def V4.alone (a : V4) : Bool := eqb a.l a.h
def V4.rawJoin (a b : V4) : V4 := ⟨jV a.v a.m b.v b.m, jM a.v a.m b.v b.m, bmin a.l b.l, bmax a.h b.h⟩
def V4.join (a b : V4) : V4 := (a.rawJoin b).nrm
def V4.raw2 (op : Int) (a b : V4) : V4 :=
  ⟨(rk op a.v a.m a.l a.h b.v b.m b.l b.h).1, (rk op a.v a.m a.l a.h b.v b.m b.l b.h).2.1, (rk op a.v a.m a.l a.h b.v b.m b.l b.h).2.2.1, (rk op a.v a.m a.l a.h b.v b.m b.l b.h).2.2.2⟩
def V4.two (op : Int) (a b : V4) : V4 := (V4.raw2 op a b).norm
def lvV (p : Bool) (a : V4) : V4 := if p then a else V4.z
def left2 (may : Bool) (x y : V4) : V4 × V4 × Bool := (lvV (may && (x.nok && y.nok)) x.nrm, lvV (may && (x.nok && y.nok)) y.nrm, may && (x.nok && y.nok))
def V4.meets (a b : V4) : Bool := eqb (bandn (bxor a.v b.v) (bor a.m b.m)) zero
def V4.rawEqual (a b : V4) : V4 := ⟨bor a.v b.v, band a.m b.m, bmax a.l b.l, bmin a.h b.h⟩
def V4.equal (a b : V4) : V4 × V4 × Bool := if a.meets b then left2 true (a.rawEqual b) (a.rawEqual b) else (V4.z, V4.z, false)
def V4.without (a b : V4) : V4 := ⟨a.v, a.m, woL a.l b.l b.h, woH a.l a.h b.l b.h⟩
def V4.other (a b : V4) : V4 × V4 × Bool := left2 (!(a.alone && (b.alone && eqb a.l b.l))) (a.without b) (b.without a)
def V4.less (a b : V4) : V4 × V4 × Bool :=
  if eqb b.h zero || eqb a.l top then (V4.z, V4.z, false)
  else left2 true ⟨a.v, a.m, a.l, bmin a.h (bsub b.h one)⟩ ⟨b.v, b.m, bmax b.l (badd a.l one), b.h⟩
def V4.notLess (a b : V4) : V4 × V4 × Bool := left2 true ⟨a.v, a.m, bmax a.l b.l, a.h⟩ ⟨b.v, b.m, b.l, bmin b.h a.h⟩
def byteTop (n : Int) : BitVec 64 := if n = 8 then top else if n = 4 then 4294967295#64 else if n = 2 then 65535#64 else 255#64
def V4.bytes (n : Int) : V4 := ⟨zero, byteTop n, zero, byteTop n⟩

theorem left2_false (x y : V4) : left2 false x y = (V4.z, V4.z, false) := rfl
theorem bmax_self (x : BitVec 64) : bmax x x = x := by unfold bmax; split <;> rfl
theorem bmin_self (x : BitVec 64) : bmin x x = x := by unfold bmin; split <;> rfl
theorem keys_cs (a : V4) : (AV.ag a.cs).ks = [] := rfl
end Go.Proofs.Ytkigmocchaikgaa

/- Ways of bodies, written by a program (ways.py): what each asks for, and hands back. -/
namespace Go.Proofs.Ytkigmocchaikgaa
open Go.RowKit

theorem refAlone_w0 {a : V4} :
    CallOK Try.prog ⟨90, [AV.ag (V4.cs a)], [], ⟨AV.c (AC.b (eqb (V4.l a) (V4.h a))), [], none⟩⟩ :=
  val_run 2000 [] [] [] Try.func90 rfl rfl rfl rfl (by kernel_rfl) rfl cr_nil
theorem refBoth_w0 {a : V4} {b : V4} {i1 : Bool} {i2 : Bool} (h : (!i1 && true) = true) :
    CallOK Try.prog ⟨99, [AV.ag (V4.cs a), AV.c (AC.b i1), AV.ag (V4.cs b), AV.c (AC.b i2)], [], ⟨AV.tu [AT.ag [AC.u 0#64, AC.u 0#64, AC.u 0#64, AC.u 0#64], AT.ag [AC.u 0#64, AC.u 0#64, AC.u 0#64, AC.u 0#64], AT.c (AC.b false)], [], none⟩⟩ :=
  val_run 2000 [] [true, true] [] Try.func99 rfl rfl rfl rfl (by kernel_rfl) h cr_nil
theorem refBoth_w1 {a : V4} {b : V4} {i1 : Bool} {i2 : Bool} (h : (!!i1 && (!i2 && true)) = true) :
    CallOK Try.prog ⟨99, [AV.ag (V4.cs a), AV.c (AC.b i1), AV.ag (V4.cs b), AV.c (AC.b i2)], [], ⟨AV.tu [AT.ag [AC.u 0#64, AC.u 0#64, AC.u 0#64, AC.u 0#64], AT.ag [AC.u 0#64, AC.u 0#64, AC.u 0#64, AC.u 0#64], AT.c (AC.b false)], [], none⟩⟩ :=
  val_run 2000 [] [false, true] [] Try.func99 rfl rfl rfl rfl (by kernel_rfl) h cr_nil
theorem refBoth_w2 {a : V4} {b : V4} {i1 : Bool} {i2 : Bool} (h : (!!i1 && (!!i2 && true)) = true) :
    CallOK Try.prog ⟨99, [AV.ag (V4.cs a), AV.c (AC.b i1), AV.ag (V4.cs b), AV.c (AC.b i2)], [], ⟨AV.tu [AT.ag [AC.u (V4.v a), AC.u (V4.m a), AC.u (V4.l a), AC.u (V4.h a)], AT.ag [AC.u (V4.v b), AC.u (V4.m b), AC.u (V4.l b), AC.u (V4.h b)], AT.c (AC.b true)], [], none⟩⟩ :=
  val_run 2000 [] [false, false] [] Try.func99 rfl rfl rfl rfl (by kernel_rfl) h cr_nil
theorem refRid_w0 {a : V4} {x : BitVec 64} {al : Bool} (h : (al && (eqb (V4.l a) x && true)) = true) (c0 : CallOK Try.prog (CallRec.mk 90 [AV.ag [AC.u (V4.v a), AC.u (V4.m a), AC.u (V4.l a), AC.u (V4.h a)]] [] (Eff.mk (AV.c (AC.b al)) [] none))) :
    CallOK Try.prog ⟨100, [AV.ag (V4.cs a), AV.c (AC.u x)], [], ⟨AV.tu [AT.ag [AC.u 0#64, AC.u 0#64, AC.u 0#64, AC.u 0#64], AT.c (AC.b false)], [], none⟩⟩ :=
  val_run 2000 [Eff.mk (AV.c (AC.b al)) [] none] [true, true] [] Try.func100 rfl rfl rfl rfl (by kernel_rfl) h (cr_cons c0 cr_nil)
theorem refRid_w1 {a : V4} {n : V4} {x : BitVec 64} {al : Bool} {i : Bool} (h : (al && (!eqb (V4.l a) x && (!eqb (V4.l a) x && (eqb (V4.h a) x && true)))) = true) (c0 : CallOK Try.prog (CallRec.mk 90 [AV.ag [AC.u (V4.v a), AC.u (V4.m a), AC.u (V4.l a), AC.u (V4.h a)]] [] (Eff.mk (AV.c (AC.b al)) [] none))) (c1 : CallOK Try.prog (CallRec.mk 33 [AV.ag [AC.u (V4.v a), AC.u (V4.m a), AC.u (V4.l a), AC.u (bsub (V4.h a) 1#64)]] [] (Eff.mk (AV.tu [AT.ag (V4.cs n), AT.c (AC.b i)]) [] none))) :
    CallOK Try.prog ⟨100, [AV.ag (V4.cs a), AV.c (AC.u x)], [], ⟨AV.tu [AT.ag [AC.u (V4.v n), AC.u (V4.m n), AC.u (V4.l n), AC.u (V4.h n)], AT.c (AC.b i)], [], none⟩⟩ :=
  val_run 2000 [Eff.mk (AV.c (AC.b al)) [] none, Eff.mk (AV.tu [AT.ag (V4.cs n), AT.c (AC.b i)]) [] none] [true, false, false, true] [] Try.func100 rfl rfl rfl rfl (by kernel_rfl) h (cr_cons c0 (cr_cons c1 cr_nil))
theorem refRid_w2 {a : V4} {n : V4} {x : BitVec 64} {al : Bool} {i : Bool} (h : (al && (!eqb (V4.l a) x && (!eqb (V4.l a) x && (!eqb (V4.h a) x && true)))) = true) (c0 : CallOK Try.prog (CallRec.mk 90 [AV.ag [AC.u (V4.v a), AC.u (V4.m a), AC.u (V4.l a), AC.u (V4.h a)]] [] (Eff.mk (AV.c (AC.b al)) [] none))) (c1 : CallOK Try.prog (CallRec.mk 33 [AV.ag [AC.u (V4.v a), AC.u (V4.m a), AC.u (V4.l a), AC.u (V4.h a)]] [] (Eff.mk (AV.tu [AT.ag (V4.cs n), AT.c (AC.b i)]) [] none))) :
    CallOK Try.prog ⟨100, [AV.ag (V4.cs a), AV.c (AC.u x)], [], ⟨AV.tu [AT.ag [AC.u (V4.v n), AC.u (V4.m n), AC.u (V4.l n), AC.u (V4.h n)], AT.c (AC.b i)], [], none⟩⟩ :=
  val_run 2000 [Eff.mk (AV.c (AC.b al)) [] none, Eff.mk (AV.tu [AT.ag (V4.cs n), AT.c (AC.b i)]) [] none] [true, false, false, false] [] Try.func100 rfl rfl rfl rfl (by kernel_rfl) h (cr_cons c0 (cr_cons c1 cr_nil))
theorem refRid_w3 {a : V4} {n : V4} {x : BitVec 64} {al : Bool} {i : Bool} (h : (!al && (eqb (V4.l a) x && true)) = true) (c0 : CallOK Try.prog (CallRec.mk 90 [AV.ag [AC.u (V4.v a), AC.u (V4.m a), AC.u (V4.l a), AC.u (V4.h a)]] [] (Eff.mk (AV.c (AC.b al)) [] none))) (c1 : CallOK Try.prog (CallRec.mk 33 [AV.ag [AC.u (V4.v a), AC.u (V4.m a), AC.u (badd (V4.l a) 1#64), AC.u (V4.h a)]] [] (Eff.mk (AV.tu [AT.ag (V4.cs n), AT.c (AC.b i)]) [] none))) :
    CallOK Try.prog ⟨100, [AV.ag (V4.cs a), AV.c (AC.u x)], [], ⟨AV.tu [AT.ag [AC.u (V4.v n), AC.u (V4.m n), AC.u (V4.l n), AC.u (V4.h n)], AT.c (AC.b i)], [], none⟩⟩ :=
  val_run 2000 [Eff.mk (AV.c (AC.b al)) [] none, Eff.mk (AV.tu [AT.ag (V4.cs n), AT.c (AC.b i)]) [] none] [false, false, true] [] Try.func100 rfl rfl rfl rfl (by kernel_rfl) h (cr_cons c0 (cr_cons c1 cr_nil))
theorem refRid_w4 {a : V4} {n : V4} {x : BitVec 64} {al : Bool} {i : Bool} (h : (!al && (!eqb (V4.l a) x && (eqb (V4.h a) x && true))) = true) (c0 : CallOK Try.prog (CallRec.mk 90 [AV.ag [AC.u (V4.v a), AC.u (V4.m a), AC.u (V4.l a), AC.u (V4.h a)]] [] (Eff.mk (AV.c (AC.b al)) [] none))) (c1 : CallOK Try.prog (CallRec.mk 33 [AV.ag [AC.u (V4.v a), AC.u (V4.m a), AC.u (V4.l a), AC.u (bsub (V4.h a) 1#64)]] [] (Eff.mk (AV.tu [AT.ag (V4.cs n), AT.c (AC.b i)]) [] none))) :
    CallOK Try.prog ⟨100, [AV.ag (V4.cs a), AV.c (AC.u x)], [], ⟨AV.tu [AT.ag [AC.u (V4.v n), AC.u (V4.m n), AC.u (V4.l n), AC.u (V4.h n)], AT.c (AC.b i)], [], none⟩⟩ :=
  val_run 2000 [Eff.mk (AV.c (AC.b al)) [] none, Eff.mk (AV.tu [AT.ag (V4.cs n), AT.c (AC.b i)]) [] none] [false, false, false, true] [] Try.func100 rfl rfl rfl rfl (by kernel_rfl) h (cr_cons c0 (cr_cons c1 cr_nil))
theorem refRid_w5 {a : V4} {n : V4} {x : BitVec 64} {al : Bool} {i : Bool} (h : (!al && (!eqb (V4.l a) x && (!eqb (V4.h a) x && true))) = true) (c0 : CallOK Try.prog (CallRec.mk 90 [AV.ag [AC.u (V4.v a), AC.u (V4.m a), AC.u (V4.l a), AC.u (V4.h a)]] [] (Eff.mk (AV.c (AC.b al)) [] none))) (c1 : CallOK Try.prog (CallRec.mk 33 [AV.ag [AC.u (V4.v a), AC.u (V4.m a), AC.u (V4.l a), AC.u (V4.h a)]] [] (Eff.mk (AV.tu [AT.ag (V4.cs n), AT.c (AC.b i)]) [] none))) :
    CallOK Try.prog ⟨100, [AV.ag (V4.cs a), AV.c (AC.u x)], [], ⟨AV.tu [AT.ag [AC.u (V4.v n), AC.u (V4.m n), AC.u (V4.l n), AC.u (V4.h n)], AT.c (AC.b i)], [], none⟩⟩ :=
  val_run 2000 [Eff.mk (AV.c (AC.b al)) [] none, Eff.mk (AV.tu [AT.ag (V4.cs n), AT.c (AC.b i)]) [] none] [false, false, false, false] [] Try.func100 rfl rfl rfl rfl (by kernel_rfl) h (cr_cons c0 (cr_cons c1 cr_nil))
theorem refEqual_w0 {a : V4} {b : V4} {kv : BitVec 64} {km : BitVec 64} {may : Bool} (h : (!may && true) = true) (c0 : CallOK Try.prog (CallRec.mk 19 [AV.ag [AC.u (V4.v a), AC.u (V4.m a)], AV.ag [AC.u (V4.v b), AC.u (V4.m b)]] [] (Eff.mk (AV.tu [AT.ag [AC.u kv, AC.u km], AT.c (AC.b may)]) [] none))) :
    CallOK Try.prog ⟨55, [AV.ag (V4.cs a), AV.ag (V4.cs b)], [], ⟨AV.tu [AT.ag [AC.u 0#64, AC.u 0#64, AC.u 0#64, AC.u 0#64], AT.ag [AC.u 0#64, AC.u 0#64, AC.u 0#64, AC.u 0#64], AT.c (AC.b false)], [], none⟩⟩ :=
  val_run 2000 [Eff.mk (AV.tu [AT.ag [AC.u kv, AC.u km], AT.c (AC.b may)]) [] none] [true] [] Try.func55 rfl rfl rfl rfl (by kernel_rfl) h (cr_cons c0 cr_nil)
theorem refEqual_w1 {a : V4} {b : V4} {n : V4} {p : V4} {q : V4} {kv : BitVec 64} {km : BitVec 64} {may : Bool} {i : Bool} {r : Bool} (h : (!!may && true) = true) (c0 : CallOK Try.prog (CallRec.mk 19 [AV.ag [AC.u (V4.v a), AC.u (V4.m a)], AV.ag [AC.u (V4.v b), AC.u (V4.m b)]] [] (Eff.mk (AV.tu [AT.ag [AC.u kv, AC.u km], AT.c (AC.b may)]) [] none))) (c1 : CallOK Try.prog (CallRec.mk 33 [AV.ag [AC.u kv, AC.u km, AC.u (bmax (V4.l a) (V4.l b)), AC.u (bmin (V4.h a) (V4.h b))]] [] (Eff.mk (AV.tu [AT.ag (V4.cs n), AT.c (AC.b i)]) [] none))) (c2 : CallOK Try.prog (CallRec.mk 99 [AV.ag [AC.u (V4.v n), AC.u (V4.m n), AC.u (V4.l n), AC.u (V4.h n)], AV.c (AC.b i), AV.ag [AC.u (V4.v n), AC.u (V4.m n), AC.u (V4.l n), AC.u (V4.h n)], AV.c (AC.b i)] [] (Eff.mk (AV.tu [AT.ag (V4.cs p), AT.ag (V4.cs q), AT.c (AC.b r)]) [] none))) :
    CallOK Try.prog ⟨55, [AV.ag (V4.cs a), AV.ag (V4.cs b)], [], ⟨AV.tu [AT.ag [AC.u (V4.v p), AC.u (V4.m p), AC.u (V4.l p), AC.u (V4.h p)], AT.ag [AC.u (V4.v q), AC.u (V4.m q), AC.u (V4.l q), AC.u (V4.h q)], AT.c (AC.b r)], [], none⟩⟩ :=
  val_run 2000 [Eff.mk (AV.tu [AT.ag [AC.u kv, AC.u km], AT.c (AC.b may)]) [] none, Eff.mk (AV.tu [AT.ag (V4.cs n), AT.c (AC.b i)]) [] none, Eff.mk (AV.tu [AT.ag (V4.cs p), AT.ag (V4.cs q), AT.c (AC.b r)]) [] none] [false] [] Try.func55 rfl rfl rfl rfl (by kernel_rfl) h (cr_cons c0 (cr_cons c1 (cr_cons c2 cr_nil)))
theorem refLess_w0 {a : V4} {b : V4} (h : (eqb (V4.h b) 0#64 && true) = true) :
    CallOK Try.prog ⟨57, [AV.ag (V4.cs a), AV.ag (V4.cs b)], [], ⟨AV.tu [AT.ag [AC.u 0#64, AC.u 0#64, AC.u 0#64, AC.u 0#64], AT.ag [AC.u 0#64, AC.u 0#64, AC.u 0#64, AC.u 0#64], AT.c (AC.b false)], [], none⟩⟩ :=
  val_run 2000 [] [true, true] [] Try.func57 rfl rfl rfl rfl (by kernel_rfl) h cr_nil
theorem refLess_w1 {a : V4} {b : V4} (h : (!eqb (V4.h b) 0#64 && (eqb (V4.l a) 18446744073709551615#64 && true)) = true) :
    CallOK Try.prog ⟨57, [AV.ag (V4.cs a), AV.ag (V4.cs b)], [], ⟨AV.tu [AT.ag [AC.u 0#64, AC.u 0#64, AC.u 0#64, AC.u 0#64], AT.ag [AC.u 0#64, AC.u 0#64, AC.u 0#64, AC.u 0#64], AT.c (AC.b false)], [], none⟩⟩ :=
  val_run 2000 [] [false, true] [] Try.func57 rfl rfl rfl rfl (by kernel_rfl) h cr_nil
theorem refLess_w2 {a : V4} {b : V4} {n : V4} {n2 : V4} {p : V4} {q : V4} {i : Bool} {i2 : Bool} {r : Bool} (h : (!eqb (V4.h b) 0#64 && (!eqb (V4.l a) 18446744073709551615#64 && true)) = true) (c0 : CallOK Try.prog (CallRec.mk 33 [AV.ag [AC.u (V4.v a), AC.u (V4.m a), AC.u (V4.l a), AC.u (bmin (V4.h a) (bsub (V4.h b) 1#64))]] [] (Eff.mk (AV.tu [AT.ag (V4.cs n), AT.c (AC.b i)]) [] none))) (c1 : CallOK Try.prog (CallRec.mk 33 [AV.ag [AC.u (V4.v b), AC.u (V4.m b), AC.u (bmax (V4.l b) (badd (V4.l a) 1#64)), AC.u (V4.h b)]] [] (Eff.mk (AV.tu [AT.ag (V4.cs n2), AT.c (AC.b i2)]) [] none))) (c2 : CallOK Try.prog (CallRec.mk 99 [AV.ag [AC.u (V4.v n), AC.u (V4.m n), AC.u (V4.l n), AC.u (V4.h n)], AV.c (AC.b i), AV.ag [AC.u (V4.v n2), AC.u (V4.m n2), AC.u (V4.l n2), AC.u (V4.h n2)], AV.c (AC.b i2)] [] (Eff.mk (AV.tu [AT.ag (V4.cs p), AT.ag (V4.cs q), AT.c (AC.b r)]) [] none))) :
    CallOK Try.prog ⟨57, [AV.ag (V4.cs a), AV.ag (V4.cs b)], [], ⟨AV.tu [AT.ag [AC.u (V4.v p), AC.u (V4.m p), AC.u (V4.l p), AC.u (V4.h p)], AT.ag [AC.u (V4.v q), AC.u (V4.m q), AC.u (V4.l q), AC.u (V4.h q)], AT.c (AC.b r)], [], none⟩⟩ :=
  val_run 2000 [Eff.mk (AV.tu [AT.ag (V4.cs n), AT.c (AC.b i)]) [] none, Eff.mk (AV.tu [AT.ag (V4.cs n2), AT.c (AC.b i2)]) [] none, Eff.mk (AV.tu [AT.ag (V4.cs p), AT.ag (V4.cs q), AT.c (AC.b r)]) [] none] [false, false] [] Try.func57 rfl rfl rfl rfl (by kernel_rfl) h (cr_cons c0 (cr_cons c1 (cr_cons c2 cr_nil)))
theorem refNotLess_w0 {a : V4} {b : V4} {n : V4} {n2 : V4} {p : V4} {q : V4} {i : Bool} {i2 : Bool} {r : Bool} (c0 : CallOK Try.prog (CallRec.mk 33 [AV.ag [AC.u (V4.v a), AC.u (V4.m a), AC.u (bmax (V4.l a) (V4.l b)), AC.u (V4.h a)]] [] (Eff.mk (AV.tu [AT.ag (V4.cs n), AT.c (AC.b i)]) [] none))) (c1 : CallOK Try.prog (CallRec.mk 33 [AV.ag [AC.u (V4.v b), AC.u (V4.m b), AC.u (V4.l b), AC.u (bmin (V4.h b) (V4.h a))]] [] (Eff.mk (AV.tu [AT.ag (V4.cs n2), AT.c (AC.b i2)]) [] none))) (c2 : CallOK Try.prog (CallRec.mk 99 [AV.ag [AC.u (V4.v n), AC.u (V4.m n), AC.u (V4.l n), AC.u (V4.h n)], AV.c (AC.b i), AV.ag [AC.u (V4.v n2), AC.u (V4.m n2), AC.u (V4.l n2), AC.u (V4.h n2)], AV.c (AC.b i2)] [] (Eff.mk (AV.tu [AT.ag (V4.cs p), AT.ag (V4.cs q), AT.c (AC.b r)]) [] none))) :
    CallOK Try.prog ⟨58, [AV.ag (V4.cs a), AV.ag (V4.cs b)], [], ⟨AV.tu [AT.ag [AC.u (V4.v p), AC.u (V4.m p), AC.u (V4.l p), AC.u (V4.h p)], AT.ag [AC.u (V4.v q), AC.u (V4.m q), AC.u (V4.l q), AC.u (V4.h q)], AT.c (AC.b r)], [], none⟩⟩ :=
  val_run 2000 [Eff.mk (AV.tu [AT.ag (V4.cs n), AT.c (AC.b i)]) [] none, Eff.mk (AV.tu [AT.ag (V4.cs n2), AT.c (AC.b i2)]) [] none, Eff.mk (AV.tu [AT.ag (V4.cs p), AT.ag (V4.cs q), AT.c (AC.b r)]) [] none] [] [] Try.func58 rfl rfl rfl rfl (by kernel_rfl) rfl (cr_cons c0 (cr_cons c1 (cr_cons c2 cr_nil)))
theorem refOther_w0 {a : V4} {b : V4} {n : V4} {n2 : V4} {p : V4} {q : V4} {al : Bool} {bl : Bool} {i : Bool} {i2 : Bool} {r : Bool} (h : (bl && (al && true)) = true) (c0 : CallOK Try.prog (CallRec.mk 90 [AV.ag [AC.u (V4.v b), AC.u (V4.m b), AC.u (V4.l b), AC.u (V4.h b)]] [] (Eff.mk (AV.c (AC.b bl)) [] none))) (c1 : CallOK Try.prog (CallRec.mk 100 [AV.ag [AC.u (V4.v a), AC.u (V4.m a), AC.u (V4.l a), AC.u (V4.h a)], AV.c (AC.u (V4.l b))] [] (Eff.mk (AV.tu [AT.ag (V4.cs n), AT.c (AC.b i)]) [] none))) (c2 : CallOK Try.prog (CallRec.mk 90 [AV.ag [AC.u (V4.v a), AC.u (V4.m a), AC.u (V4.l a), AC.u (V4.h a)]] [] (Eff.mk (AV.c (AC.b al)) [] none))) (c3 : CallOK Try.prog (CallRec.mk 100 [AV.ag [AC.u (V4.v b), AC.u (V4.m b), AC.u (V4.l b), AC.u (V4.h b)], AV.c (AC.u (V4.l a))] [] (Eff.mk (AV.tu [AT.ag (V4.cs n2), AT.c (AC.b i2)]) [] none))) (c4 : CallOK Try.prog (CallRec.mk 99 [AV.ag [AC.u (V4.v n), AC.u (V4.m n), AC.u (V4.l n), AC.u (V4.h n)], AV.c (AC.b i), AV.ag [AC.u (V4.v n2), AC.u (V4.m n2), AC.u (V4.l n2), AC.u (V4.h n2)], AV.c (AC.b i2)] [] (Eff.mk (AV.tu [AT.ag (V4.cs p), AT.ag (V4.cs q), AT.c (AC.b r)]) [] none))) :
    CallOK Try.prog ⟨56, [AV.ag (V4.cs a), AV.ag (V4.cs b)], [], ⟨AV.tu [AT.ag [AC.u (V4.v p), AC.u (V4.m p), AC.u (V4.l p), AC.u (V4.h p)], AT.ag [AC.u (V4.v q), AC.u (V4.m q), AC.u (V4.l q), AC.u (V4.h q)], AT.c (AC.b r)], [], none⟩⟩ :=
  val_run 2000 [Eff.mk (AV.c (AC.b bl)) [] none, Eff.mk (AV.tu [AT.ag (V4.cs n), AT.c (AC.b i)]) [] none, Eff.mk (AV.c (AC.b al)) [] none, Eff.mk (AV.tu [AT.ag (V4.cs n2), AT.c (AC.b i2)]) [] none, Eff.mk (AV.tu [AT.ag (V4.cs p), AT.ag (V4.cs q), AT.c (AC.b r)]) [] none] [true, true] [] Try.func56 rfl rfl rfl rfl (by kernel_rfl) h (cr_cons c0 (cr_cons c1 (cr_cons c2 (cr_cons c3 (cr_cons c4 cr_nil)))))
theorem refOtherB_w0 {a : V4} {b : V4} {n : V4} {p : V4} {q : V4} {al : Bool} {bl : Bool} {i : Bool} {r : Bool} (h : (bl && (!al && true)) = true) (c0 : CallOK Try.prog (CallRec.mk 90 [AV.ag [AC.u (V4.v b), AC.u (V4.m b), AC.u (V4.l b), AC.u (V4.h b)]] [] (Eff.mk (AV.c (AC.b bl)) [] none))) (c1 : CallOK Try.prog (CallRec.mk 100 [AV.ag [AC.u (V4.v a), AC.u (V4.m a), AC.u (V4.l a), AC.u (V4.h a)], AV.c (AC.u (V4.l b))] [] (Eff.mk (AV.tu [AT.ag (V4.cs n), AT.c (AC.b i)]) [] none))) (c2 : CallOK Try.prog (CallRec.mk 90 [AV.ag [AC.u (V4.v a), AC.u (V4.m a), AC.u (V4.l a), AC.u (V4.h a)]] [] (Eff.mk (AV.c (AC.b al)) [] none))) (c3 : CallOK Try.prog (CallRec.mk 99 [AV.ag [AC.u (V4.v n), AC.u (V4.m n), AC.u (V4.l n), AC.u (V4.h n)], AV.c (AC.b i), AV.ag [AC.u (V4.v b), AC.u (V4.m b), AC.u (V4.l b), AC.u (V4.h b)], AV.c (AC.b true)] [] (Eff.mk (AV.tu [AT.ag (V4.cs p), AT.ag (V4.cs q), AT.c (AC.b r)]) [] none))) :
    CallOK Try.prog ⟨56, [AV.ag (V4.cs a), AV.ag (V4.cs b)], [], ⟨AV.tu [AT.ag [AC.u (V4.v p), AC.u (V4.m p), AC.u (V4.l p), AC.u (V4.h p)], AT.ag [AC.u (V4.v q), AC.u (V4.m q), AC.u (V4.l q), AC.u (V4.h q)], AT.c (AC.b r)], [], none⟩⟩ :=
  val_run 2000 [Eff.mk (AV.c (AC.b bl)) [] none, Eff.mk (AV.tu [AT.ag (V4.cs n), AT.c (AC.b i)]) [] none, Eff.mk (AV.c (AC.b al)) [] none, Eff.mk (AV.tu [AT.ag (V4.cs p), AT.ag (V4.cs q), AT.c (AC.b r)]) [] none] [true, false] [] Try.func56 rfl rfl rfl rfl (by kernel_rfl) h (cr_cons c0 (cr_cons c1 (cr_cons c2 (cr_cons c3 cr_nil))))
theorem refOtherA_w0 {a : V4} {b : V4} {n2 : V4} {p : V4} {q : V4} {al : Bool} {bl : Bool} {i2 : Bool} {r : Bool} (h : (!bl && (al && true)) = true) (c0 : CallOK Try.prog (CallRec.mk 90 [AV.ag [AC.u (V4.v b), AC.u (V4.m b), AC.u (V4.l b), AC.u (V4.h b)]] [] (Eff.mk (AV.c (AC.b bl)) [] none))) (c1 : CallOK Try.prog (CallRec.mk 90 [AV.ag [AC.u (V4.v a), AC.u (V4.m a), AC.u (V4.l a), AC.u (V4.h a)]] [] (Eff.mk (AV.c (AC.b al)) [] none))) (c2 : CallOK Try.prog (CallRec.mk 100 [AV.ag [AC.u (V4.v b), AC.u (V4.m b), AC.u (V4.l b), AC.u (V4.h b)], AV.c (AC.u (V4.l a))] [] (Eff.mk (AV.tu [AT.ag (V4.cs n2), AT.c (AC.b i2)]) [] none))) (c3 : CallOK Try.prog (CallRec.mk 99 [AV.ag [AC.u (V4.v a), AC.u (V4.m a), AC.u (V4.l a), AC.u (V4.h a)], AV.c (AC.b true), AV.ag [AC.u (V4.v n2), AC.u (V4.m n2), AC.u (V4.l n2), AC.u (V4.h n2)], AV.c (AC.b i2)] [] (Eff.mk (AV.tu [AT.ag (V4.cs p), AT.ag (V4.cs q), AT.c (AC.b r)]) [] none))) :
    CallOK Try.prog ⟨56, [AV.ag (V4.cs a), AV.ag (V4.cs b)], [], ⟨AV.tu [AT.ag [AC.u (V4.v p), AC.u (V4.m p), AC.u (V4.l p), AC.u (V4.h p)], AT.ag [AC.u (V4.v q), AC.u (V4.m q), AC.u (V4.l q), AC.u (V4.h q)], AT.c (AC.b r)], [], none⟩⟩ :=
  val_run 2000 [Eff.mk (AV.c (AC.b bl)) [] none, Eff.mk (AV.c (AC.b al)) [] none, Eff.mk (AV.tu [AT.ag (V4.cs n2), AT.c (AC.b i2)]) [] none, Eff.mk (AV.tu [AT.ag (V4.cs p), AT.ag (V4.cs q), AT.c (AC.b r)]) [] none] [false, true] [] Try.func56 rfl rfl rfl rfl (by kernel_rfl) h (cr_cons c0 (cr_cons c1 (cr_cons c2 (cr_cons c3 cr_nil))))
theorem refOtherN_w0 {a : V4} {b : V4} {p : V4} {q : V4} {al : Bool} {bl : Bool} {r : Bool} (h : (!bl && (!al && true)) = true) (c0 : CallOK Try.prog (CallRec.mk 90 [AV.ag [AC.u (V4.v b), AC.u (V4.m b), AC.u (V4.l b), AC.u (V4.h b)]] [] (Eff.mk (AV.c (AC.b bl)) [] none))) (c1 : CallOK Try.prog (CallRec.mk 90 [AV.ag [AC.u (V4.v a), AC.u (V4.m a), AC.u (V4.l a), AC.u (V4.h a)]] [] (Eff.mk (AV.c (AC.b al)) [] none))) (c2 : CallOK Try.prog (CallRec.mk 99 [AV.ag [AC.u (V4.v a), AC.u (V4.m a), AC.u (V4.l a), AC.u (V4.h a)], AV.c (AC.b true), AV.ag [AC.u (V4.v b), AC.u (V4.m b), AC.u (V4.l b), AC.u (V4.h b)], AV.c (AC.b true)] [] (Eff.mk (AV.tu [AT.ag (V4.cs p), AT.ag (V4.cs q), AT.c (AC.b r)]) [] none))) :
    CallOK Try.prog ⟨56, [AV.ag (V4.cs a), AV.ag (V4.cs b)], [], ⟨AV.tu [AT.ag [AC.u (V4.v p), AC.u (V4.m p), AC.u (V4.l p), AC.u (V4.h p)], AT.ag [AC.u (V4.v q), AC.u (V4.m q), AC.u (V4.l q), AC.u (V4.h q)], AT.c (AC.b r)], [], none⟩⟩ :=
  val_run 2000 [Eff.mk (AV.c (AC.b bl)) [] none, Eff.mk (AV.c (AC.b al)) [] none, Eff.mk (AV.tu [AT.ag (V4.cs p), AT.ag (V4.cs q), AT.c (AC.b r)]) [] none] [false, false] [] Try.func56 rfl rfl rfl rfl (by kernel_rfl) h (cr_cons c0 (cr_cons c1 (cr_cons c2 cr_nil)))
theorem refBytes_w0 {n : Int} {p : V4} (h : (n == 8 && true) = true) (c0 : CallOK Try.prog (CallRec.mk 43 [] [] (Eff.mk (AV.ag (V4.cs p)) [] none))) :
    CallOK Try.prog ⟨49, [AV.c (AC.i n)], [], ⟨AV.ag [AC.u (V4.v p), AC.u (V4.m p), AC.u (V4.l p), AC.u (V4.h p)], [], none⟩⟩ :=
  val_run 2000 [Eff.mk (AV.ag (V4.cs p)) [] none] [true] [] Try.func49 rfl rfl rfl rfl (by kernel_rfl) h (cr_cons c0 cr_nil)
theorem refBytes_w1 {n : Int} (h : (!n == 8 && (decide (0 ≤ IntKind.wrap IntKind.i64 (8 * n)) && decide (IntKind.wrap IntKind.i64 (8 * n) ≤ 64) && true)) = true) :
    CallOK Try.prog ⟨49, [AV.c (AC.i n)], [], ⟨AV.ag [AC.u 0#64, AC.u (bsub (bshl (1#64) (Int.toNat (IntKind.wrap IntKind.i64 (8 * n)))) 1#64), AC.u 0#64, AC.u (bsub (bshl (1#64) (Int.toNat (IntKind.wrap IntKind.i64 (8 * n)))) 1#64)], [], none⟩⟩ :=
  val_run 2000 [] [false] [] Try.func49 rfl rfl rfl rfl (by kernel_rfl) h cr_nil
theorem calcBytes_w0 {n : Int} (h : (n == 1 && (n == 1 && (decide (nv (BitVec.ofInt 64 (IntKind.wrap IntKind.i64 (64 - IntKind.wrap IntKind.i64 (8 * n)))) ≤ 64) && true))) = true) :
    CallOK Try.prog ⟨48, [AV.c (AC.i n)], [], ⟨AV.tu [AT.ag [AC.u 0#64, AC.u (bshr (18446744073709551615#64) (Int.toNat (nv (BitVec.ofInt 64 (IntKind.wrap IntKind.i64 (64 - IntKind.wrap IntKind.i64 (8 * n))))))), AC.u 0#64, AC.u (bshr (18446744073709551615#64) (Int.toNat (nv (BitVec.ofInt 64 (IntKind.wrap IntKind.i64 (64 - IntKind.wrap IntKind.i64 (8 * n)))))))], AT.c (AC.i 0)], [], none⟩⟩ :=
  val_run 2000 [] [true, true] [] Try.func48 rfl rfl rfl rfl (by kernel_rfl) h cr_nil
theorem calcBytes_w1 {n : Int} (h : (!n == 1 && (n == 2 && (n == 2 && (decide (nv (BitVec.ofInt 64 (IntKind.wrap IntKind.i64 (64 - IntKind.wrap IntKind.i64 (8 * n)))) ≤ 64) && true)))) = true) :
    CallOK Try.prog ⟨48, [AV.c (AC.i n)], [], ⟨AV.tu [AT.ag [AC.u 0#64, AC.u (bshr (18446744073709551615#64) (Int.toNat (nv (BitVec.ofInt 64 (IntKind.wrap IntKind.i64 (64 - IntKind.wrap IntKind.i64 (8 * n))))))), AC.u 0#64, AC.u (bshr (18446744073709551615#64) (Int.toNat (nv (BitVec.ofInt 64 (IntKind.wrap IntKind.i64 (64 - IntKind.wrap IntKind.i64 (8 * n)))))))], AT.c (AC.i 0)], [], none⟩⟩ :=
  val_run 2000 [] [false, true, true] [] Try.func48 rfl rfl rfl rfl (by kernel_rfl) h cr_nil
theorem calcBytes_w2 {n : Int} (h : (!n == 1 && (!n == 2 && (n == 4 && (n == 4 && (decide (nv (BitVec.ofInt 64 (IntKind.wrap IntKind.i64 (64 - IntKind.wrap IntKind.i64 (8 * n)))) ≤ 64) && true))))) = true) :
    CallOK Try.prog ⟨48, [AV.c (AC.i n)], [], ⟨AV.tu [AT.ag [AC.u 0#64, AC.u (bshr (18446744073709551615#64) (Int.toNat (nv (BitVec.ofInt 64 (IntKind.wrap IntKind.i64 (64 - IntKind.wrap IntKind.i64 (8 * n))))))), AC.u 0#64, AC.u (bshr (18446744073709551615#64) (Int.toNat (nv (BitVec.ofInt 64 (IntKind.wrap IntKind.i64 (64 - IntKind.wrap IntKind.i64 (8 * n)))))))], AT.c (AC.i 0)], [], none⟩⟩ :=
  val_run 2000 [] [false, false, true, true] [] Try.func48 rfl rfl rfl rfl (by kernel_rfl) h cr_nil
theorem calcBytes_w3 {n : Int} (h : (!n == 1 && (!n == 2 && (!n == 4 && (n == 8 && (decide (nv (BitVec.ofInt 64 (IntKind.wrap IntKind.i64 (64 - IntKind.wrap IntKind.i64 (8 * n)))) ≤ 64) && true))))) = true) :
    CallOK Try.prog ⟨48, [AV.c (AC.i n)], [], ⟨AV.tu [AT.ag [AC.u 0#64, AC.u (bshr (18446744073709551615#64) (Int.toNat (nv (BitVec.ofInt 64 (IntKind.wrap IntKind.i64 (64 - IntKind.wrap IntKind.i64 (8 * n))))))), AC.u 0#64, AC.u (bshr (18446744073709551615#64) (Int.toNat (nv (BitVec.ofInt 64 (IntKind.wrap IntKind.i64 (64 - IntKind.wrap IntKind.i64 (8 * n)))))))], AT.c (AC.i 0)], [], none⟩⟩ :=
  val_run 2000 [] [false, false, false, true] [] Try.func48 rfl rfl rfl rfl (by kernel_rfl) h cr_nil
theorem calcBytes_w4 {n : Int} (h : (!n == 1 && (!n == 2 && (!n == 4 && (!n == 8 && true)))) = true) :
    CallOK Try.prog ⟨48, [AV.c (AC.i n)], [], ⟨AV.tu [AT.ag [AC.u 0#64, AC.u 0#64, AC.u 0#64, AC.u 0#64], AT.c (AC.i 3)], [], none⟩⟩ :=
  val_run 2000 [] [false, false, false, false] [] Try.func48 rfl rfl rfl rfl (by kernel_rfl) h cr_nil
theorem refOver_w0 {x : BitVec 64} {y : BitVec 64} (h : (!eqb y 0#64 && (!eqb y zero && true)) = true) :
    CallOK Try.prog ⟨89, [AV.c (AC.u x), AV.c (AC.u y)], [], ⟨AV.c (AC.b (decide (nv (18446744073709551615#64 / y) < nv x))), [], none⟩⟩ :=
  val_run 2000 [] [true] [] Try.func89 rfl rfl rfl rfl (by kernel_rfl) h cr_nil
theorem refOver_w1 {x : BitVec 64} {y : BitVec 64} (h : (!!eqb y 0#64 && true) = true) :
    CallOK Try.prog ⟨89, [AV.c (AC.u x), AV.c (AC.u y)], [], ⟨AV.c (AC.b false), [], none⟩⟩ :=
  val_run 2000 [] [false] [] Try.func89 rfl rfl rfl rfl (by kernel_rfl) h cr_nil
theorem refTwo2_w0 {a : V4} {b : V4} {p : V4} {kv : BitVec 64} {km : BitVec 64} {i : Bool} (h : (decide (nv (badd (V4.l a) (V4.l b)) < nv (V4.l a)) == decide (nv (badd (V4.h a) (V4.h b)) < nv (V4.h a)) && true) = true) (c0 : CallOK Try.prog (CallRec.mk 29 [AV.c (AC.i 2), AV.ag [AC.u (V4.v a), AC.u (V4.m a)], AV.ag [AC.u (V4.v b), AC.u (V4.m b)]] [] (Eff.mk (AV.ag [AC.u kv, AC.u km]) [] none))) (c1 : CallOK Try.prog (CallRec.mk 33 [AV.ag [AC.u kv, AC.u km, AC.u (badd (V4.l a) (V4.l b)), AC.u (badd (V4.h a) (V4.h b))]] [] (Eff.mk (AV.tu [AT.ag (V4.cs p), AT.c (AC.b i)]) [] none))) :
    CallOK Try.prog ⟨47, [AV.c (AC.i 2), AV.ag (V4.cs a), AV.ag (V4.cs b)], [], ⟨AV.ag [AC.u (V4.v p), AC.u (V4.m p), AC.u (V4.l p), AC.u (V4.h p)], [], none⟩⟩ :=
  val_run 2000 [Eff.mk (AV.ag [AC.u kv, AC.u km]) [] none, Eff.mk (AV.tu [AT.ag (V4.cs p), AT.c (AC.b i)]) [] none] [true, true, true] [] Try.func47 rfl rfl rfl rfl (by kernel_rfl) h (cr_cons c0 (cr_cons c1 cr_nil))
theorem refTwo2_w1 {a : V4} {b : V4} {p : V4} {kv : BitVec 64} {km : BitVec 64} {i : Bool} (h : (!decide (nv (badd (V4.l a) (V4.l b)) < nv (V4.l a)) == decide (nv (badd (V4.h a) (V4.h b)) < nv (V4.h a)) && true) = true) (c0 : CallOK Try.prog (CallRec.mk 29 [AV.c (AC.i 2), AV.ag [AC.u (V4.v a), AC.u (V4.m a)], AV.ag [AC.u (V4.v b), AC.u (V4.m b)]] [] (Eff.mk (AV.ag [AC.u kv, AC.u km]) [] none))) (c1 : CallOK Try.prog (CallRec.mk 33 [AV.ag [AC.u kv, AC.u km, AC.u 0#64, AC.u 18446744073709551615#64]] [] (Eff.mk (AV.tu [AT.ag (V4.cs p), AT.c (AC.b i)]) [] none))) :
    CallOK Try.prog ⟨47, [AV.c (AC.i 2), AV.ag (V4.cs a), AV.ag (V4.cs b)], [], ⟨AV.ag [AC.u (V4.v p), AC.u (V4.m p), AC.u (V4.l p), AC.u (V4.h p)], [], none⟩⟩ :=
  val_run 2000 [Eff.mk (AV.ag [AC.u kv, AC.u km]) [] none, Eff.mk (AV.tu [AT.ag (V4.cs p), AT.c (AC.b i)]) [] none] [true, true, false] [] Try.func47 rfl rfl rfl rfl (by kernel_rfl) h (cr_cons c0 (cr_cons c1 cr_nil))
theorem refTwo3_w0 {a : V4} {b : V4} {p : V4} {kv : BitVec 64} {km : BitVec 64} {i : Bool} (h : (decide (nv (V4.l a) < nv (V4.h b)) == decide (nv (V4.h a) < nv (V4.l b)) && true) = true) (c0 : CallOK Try.prog (CallRec.mk 29 [AV.c (AC.i 3), AV.ag [AC.u (V4.v a), AC.u (V4.m a)], AV.ag [AC.u (V4.v b), AC.u (V4.m b)]] [] (Eff.mk (AV.ag [AC.u kv, AC.u km]) [] none))) (c1 : CallOK Try.prog (CallRec.mk 33 [AV.ag [AC.u kv, AC.u km, AC.u (bsub (V4.l a) (V4.h b)), AC.u (bsub (V4.h a) (V4.l b))]] [] (Eff.mk (AV.tu [AT.ag (V4.cs p), AT.c (AC.b i)]) [] none))) :
    CallOK Try.prog ⟨47, [AV.c (AC.i 3), AV.ag (V4.cs a), AV.ag (V4.cs b)], [], ⟨AV.ag [AC.u (V4.v p), AC.u (V4.m p), AC.u (V4.l p), AC.u (V4.h p)], [], none⟩⟩ :=
  val_run 2000 [Eff.mk (AV.ag [AC.u kv, AC.u km]) [] none, Eff.mk (AV.tu [AT.ag (V4.cs p), AT.c (AC.b i)]) [] none] [true, false, true, true] [] Try.func47 rfl rfl rfl rfl (by kernel_rfl) h (cr_cons c0 (cr_cons c1 cr_nil))
theorem refTwo3_w1 {a : V4} {b : V4} {p : V4} {kv : BitVec 64} {km : BitVec 64} {i : Bool} (h : (!decide (nv (V4.l a) < nv (V4.h b)) == decide (nv (V4.h a) < nv (V4.l b)) && true) = true) (c0 : CallOK Try.prog (CallRec.mk 29 [AV.c (AC.i 3), AV.ag [AC.u (V4.v a), AC.u (V4.m a)], AV.ag [AC.u (V4.v b), AC.u (V4.m b)]] [] (Eff.mk (AV.ag [AC.u kv, AC.u km]) [] none))) (c1 : CallOK Try.prog (CallRec.mk 33 [AV.ag [AC.u kv, AC.u km, AC.u 0#64, AC.u 18446744073709551615#64]] [] (Eff.mk (AV.tu [AT.ag (V4.cs p), AT.c (AC.b i)]) [] none))) :
    CallOK Try.prog ⟨47, [AV.c (AC.i 3), AV.ag (V4.cs a), AV.ag (V4.cs b)], [], ⟨AV.ag [AC.u (V4.v p), AC.u (V4.m p), AC.u (V4.l p), AC.u (V4.h p)], [], none⟩⟩ :=
  val_run 2000 [Eff.mk (AV.ag [AC.u kv, AC.u km]) [] none, Eff.mk (AV.tu [AT.ag (V4.cs p), AT.c (AC.b i)]) [] none] [true, false, true, false] [] Try.func47 rfl rfl rfl rfl (by kernel_rfl) h (cr_cons c0 (cr_cons c1 cr_nil))
theorem refTwo5_w0 {a : V4} {b : V4} {p : V4} {kv : BitVec 64} {km : BitVec 64} {i : Bool} (c0 : CallOK Try.prog (CallRec.mk 29 [AV.c (AC.i 5), AV.ag [AC.u (V4.v a), AC.u (V4.m a)], AV.ag [AC.u (V4.v b), AC.u (V4.m b)]] [] (Eff.mk (AV.ag [AC.u kv, AC.u km]) [] none))) (c1 : CallOK Try.prog (CallRec.mk 33 [AV.ag [AC.u kv, AC.u km, AC.u 0#64, AC.u (bmin (V4.h a) (V4.h b))]] [] (Eff.mk (AV.tu [AT.ag (V4.cs p), AT.c (AC.b i)]) [] none))) :
    CallOK Try.prog ⟨47, [AV.c (AC.i 5), AV.ag (V4.cs a), AV.ag (V4.cs b)], [], ⟨AV.ag [AC.u (V4.v p), AC.u (V4.m p), AC.u (V4.l p), AC.u (V4.h p)], [], none⟩⟩ :=
  val_run 2000 [Eff.mk (AV.ag [AC.u kv, AC.u km]) [] none, Eff.mk (AV.tu [AT.ag (V4.cs p), AT.c (AC.b i)]) [] none] [true, false, false, false, true] [] Try.func47 rfl rfl rfl rfl (by kernel_rfl) rfl (cr_cons c0 (cr_cons c1 cr_nil))
theorem refTwo6_w0 {a : V4} {b : V4} {p : V4} {kv : BitVec 64} {km : BitVec 64} {i : Bool} (c0 : CallOK Try.prog (CallRec.mk 29 [AV.c (AC.i 6), AV.ag [AC.u (V4.v a), AC.u (V4.m a)], AV.ag [AC.u (V4.v b), AC.u (V4.m b)]] [] (Eff.mk (AV.ag [AC.u kv, AC.u km]) [] none))) (c1 : CallOK Try.prog (CallRec.mk 33 [AV.ag [AC.u kv, AC.u km, AC.u (bmax (V4.l a) (V4.l b)), AC.u 18446744073709551615#64]] [] (Eff.mk (AV.tu [AT.ag (V4.cs p), AT.c (AC.b i)]) [] none))) :
    CallOK Try.prog ⟨47, [AV.c (AC.i 6), AV.ag (V4.cs a), AV.ag (V4.cs b)], [], ⟨AV.ag [AC.u (V4.v p), AC.u (V4.m p), AC.u (V4.l p), AC.u (V4.h p)], [], none⟩⟩ :=
  val_run 2000 [Eff.mk (AV.ag [AC.u kv, AC.u km]) [] none, Eff.mk (AV.tu [AT.ag (V4.cs p), AT.c (AC.b i)]) [] none] [true, false, false, false, false, true] [] Try.func47 rfl rfl rfl rfl (by kernel_rfl) rfl (cr_cons c0 (cr_cons c1 cr_nil))
theorem refTwo7_w0 {a : V4} {b : V4} {p : V4} {kv : BitVec 64} {km : BitVec 64} {i : Bool} (c0 : CallOK Try.prog (CallRec.mk 29 [AV.c (AC.i 7), AV.ag [AC.u (V4.v a), AC.u (V4.m a)], AV.ag [AC.u (V4.v b), AC.u (V4.m b)]] [] (Eff.mk (AV.ag [AC.u kv, AC.u km]) [] none))) (c1 : CallOK Try.prog (CallRec.mk 33 [AV.ag [AC.u kv, AC.u km, AC.u 0#64, AC.u 18446744073709551615#64]] [] (Eff.mk (AV.tu [AT.ag (V4.cs p), AT.c (AC.b i)]) [] none))) :
    CallOK Try.prog ⟨47, [AV.c (AC.i 7), AV.ag (V4.cs a), AV.ag (V4.cs b)], [], ⟨AV.ag [AC.u (V4.v p), AC.u (V4.m p), AC.u (V4.l p), AC.u (V4.h p)], [], none⟩⟩ :=
  val_run 2000 [Eff.mk (AV.ag [AC.u kv, AC.u km]) [] none, Eff.mk (AV.tu [AT.ag (V4.cs p), AT.c (AC.b i)]) [] none] [true, false, false, false, false, false, false, false] [] Try.func47 rfl rfl rfl rfl (by kernel_rfl) rfl (cr_cons c0 (cr_cons c1 cr_nil))
theorem refTwo4_w0 {a : V4} {b : V4} {p : V4} {kv : BitVec 64} {km : BitVec 64} {i : Bool} {ov : Bool} (h : (!ov && true) = true) (c0 : CallOK Try.prog (CallRec.mk 29 [AV.c (AC.i 4), AV.ag [AC.u (V4.v a), AC.u (V4.m a)], AV.ag [AC.u (V4.v b), AC.u (V4.m b)]] [] (Eff.mk (AV.ag [AC.u kv, AC.u km]) [] none))) (c1 : CallOK Try.prog (CallRec.mk 89 [AV.c (AC.u (V4.h a)), AV.c (AC.u (V4.h b))] [] (Eff.mk (AV.c (AC.b ov)) [] none))) (c2 : CallOK Try.prog (CallRec.mk 33 [AV.ag [AC.u kv, AC.u km, AC.u (bmul (V4.l a) (V4.l b)), AC.u (bmul (V4.h a) (V4.h b))]] [] (Eff.mk (AV.tu [AT.ag (V4.cs p), AT.c (AC.b i)]) [] none))) :
    CallOK Try.prog ⟨47, [AV.c (AC.i 4), AV.ag (V4.cs a), AV.ag (V4.cs b)], [], ⟨AV.ag [AC.u (V4.v p), AC.u (V4.m p), AC.u (V4.l p), AC.u (V4.h p)], [], none⟩⟩ :=
  val_run 2000 [Eff.mk (AV.ag [AC.u kv, AC.u km]) [] none, Eff.mk (AV.c (AC.b ov)) [] none, Eff.mk (AV.tu [AT.ag (V4.cs p), AT.c (AC.b i)]) [] none] [true, false, false, true, true] [] Try.func47 rfl rfl rfl rfl (by kernel_rfl) h (cr_cons c0 (cr_cons c1 (cr_cons c2 cr_nil)))
theorem refTwo4_w1 {a : V4} {b : V4} {p : V4} {kv : BitVec 64} {km : BitVec 64} {i : Bool} {ov : Bool} (h : (!!ov && true) = true) (c0 : CallOK Try.prog (CallRec.mk 29 [AV.c (AC.i 4), AV.ag [AC.u (V4.v a), AC.u (V4.m a)], AV.ag [AC.u (V4.v b), AC.u (V4.m b)]] [] (Eff.mk (AV.ag [AC.u kv, AC.u km]) [] none))) (c1 : CallOK Try.prog (CallRec.mk 89 [AV.c (AC.u (V4.h a)), AV.c (AC.u (V4.h b))] [] (Eff.mk (AV.c (AC.b ov)) [] none))) (c2 : CallOK Try.prog (CallRec.mk 33 [AV.ag [AC.u kv, AC.u km, AC.u 0#64, AC.u 18446744073709551615#64]] [] (Eff.mk (AV.tu [AT.ag (V4.cs p), AT.c (AC.b i)]) [] none))) :
    CallOK Try.prog ⟨47, [AV.c (AC.i 4), AV.ag (V4.cs a), AV.ag (V4.cs b)], [], ⟨AV.ag [AC.u (V4.v p), AC.u (V4.m p), AC.u (V4.l p), AC.u (V4.h p)], [], none⟩⟩ :=
  val_run 2000 [Eff.mk (AV.ag [AC.u kv, AC.u km]) [] none, Eff.mk (AV.c (AC.b ov)) [] none, Eff.mk (AV.tu [AT.ag (V4.cs p), AT.c (AC.b i)]) [] none] [true, false, false, true, false] [] Try.func47 rfl rfl rfl rfl (by kernel_rfl) h (cr_cons c0 (cr_cons c1 (cr_cons c2 cr_nil)))
theorem refTwo8n_w0 {a : V4} {b : V4} {p : V4} {i : Bool} {al : Bool} (h : (!al && true) = true) (c0 : CallOK Try.prog (CallRec.mk 90 [AV.ag [AC.u (V4.v b), AC.u (V4.m b), AC.u (V4.l b), AC.u (V4.h b)]] [] (Eff.mk (AV.c (AC.b al)) [] none))) (c1 : CallOK Try.prog (CallRec.mk 33 [AV.ag [AC.u 0#64, AC.u 18446744073709551615#64, AC.u 0#64, AC.u 18446744073709551615#64]] [] (Eff.mk (AV.tu [AT.ag (V4.cs p), AT.c (AC.b i)]) [] none))) :
    CallOK Try.prog ⟨47, [AV.c (AC.i 8), AV.ag (V4.cs a), AV.ag (V4.cs b)], [], ⟨AV.ag [AC.u (V4.v p), AC.u (V4.m p), AC.u (V4.l p), AC.u (V4.h p)], [], none⟩⟩ :=
  val_run 2000 [Eff.mk (AV.c (AC.b al)) [] none, Eff.mk (AV.tu [AT.ag (V4.cs p), AT.c (AC.b i)]) [] none] [false, false, false, false, false, false, true, false] [] Try.func47 rfl rfl rfl rfl (by kernel_rfl) h (cr_cons c0 (cr_cons c1 cr_nil))
theorem refTwo8y_w0 {a : V4} {b : V4} {p : V4} {kv : BitVec 64} {km : BitVec 64} {i : Bool} {al : Bool} (h : (al && (decide (0 ≤ IntKind.wrap IntKind.i64 (nv (band (V4.l b) 63#64))) && decide (IntKind.wrap IntKind.i64 (nv (band (V4.l b) 63#64)) ≤ 64) && (decide (0 ≤ IntKind.wrap IntKind.i64 (nv (band (V4.l b) 63#64))) && decide (IntKind.wrap IntKind.i64 (nv (band (V4.l b) 63#64)) ≤ 64) && (eqb (bshr (bshl (V4.h a) (Int.toNat (IntKind.wrap IntKind.i64 (nv (band (V4.l b) 63#64))))) (Int.toNat (IntKind.wrap IntKind.i64 (nv (band (V4.l b) 63#64))))) (V4.h a) && (decide (0 ≤ IntKind.wrap IntKind.i64 (nv (band (V4.l b) 63#64))) && decide (IntKind.wrap IntKind.i64 (nv (band (V4.l b) 63#64)) ≤ 64) && (decide (0 ≤ IntKind.wrap IntKind.i64 (nv (band (V4.l b) 63#64))) && decide (IntKind.wrap IntKind.i64 (nv (band (V4.l b) 63#64)) ≤ 64) && true)))))) = true) (c0 : CallOK Try.prog (CallRec.mk 90 [AV.ag [AC.u (V4.v b), AC.u (V4.m b), AC.u (V4.l b), AC.u (V4.h b)]] [] (Eff.mk (AV.c (AC.b al)) [] none))) (c1 : CallOK Try.prog (CallRec.mk 20 [AV.c (AC.i 8), AV.ag [AC.u (V4.v a), AC.u (V4.m a)], AV.c (AC.i (IntKind.wrap IntKind.i64 (nv (band (V4.l b) 63#64))))] [] (Eff.mk (AV.ag [AC.u kv, AC.u km]) [] none))) (c2 : CallOK Try.prog (CallRec.mk 33 [AV.ag [AC.u kv, AC.u km, AC.u (bshl (V4.l a) (Int.toNat (IntKind.wrap IntKind.i64 (nv (band (V4.l b) 63#64))))), AC.u (bshl (V4.h a) (Int.toNat (IntKind.wrap IntKind.i64 (nv (band (V4.l b) 63#64)))))]] [] (Eff.mk (AV.tu [AT.ag (V4.cs p), AT.c (AC.b i)]) [] none))) :
    CallOK Try.prog ⟨47, [AV.c (AC.i 8), AV.ag (V4.cs a), AV.ag (V4.cs b)], [], ⟨AV.ag [AC.u (V4.v p), AC.u (V4.m p), AC.u (V4.l p), AC.u (V4.h p)], [], none⟩⟩ :=
  val_run 2000 [Eff.mk (AV.c (AC.b al)) [] none, Eff.mk (AV.ag [AC.u kv, AC.u km]) [] none, Eff.mk (AV.tu [AT.ag (V4.cs p), AT.c (AC.b i)]) [] none] [false, false, false, false, false, false, true, true, true] [] Try.func47 rfl rfl rfl rfl (by kernel_rfl) h (cr_cons c0 (cr_cons c1 (cr_cons c2 cr_nil)))
theorem refTwo8y_w1 {a : V4} {b : V4} {p : V4} {kv : BitVec 64} {km : BitVec 64} {i : Bool} {al : Bool} (h : (al && (decide (0 ≤ IntKind.wrap IntKind.i64 (nv (band (V4.l b) 63#64))) && decide (IntKind.wrap IntKind.i64 (nv (band (V4.l b) 63#64)) ≤ 64) && (decide (0 ≤ IntKind.wrap IntKind.i64 (nv (band (V4.l b) 63#64))) && decide (IntKind.wrap IntKind.i64 (nv (band (V4.l b) 63#64)) ≤ 64) && (!eqb (bshr (bshl (V4.h a) (Int.toNat (IntKind.wrap IntKind.i64 (nv (band (V4.l b) 63#64))))) (Int.toNat (IntKind.wrap IntKind.i64 (nv (band (V4.l b) 63#64))))) (V4.h a) && true)))) = true) (c0 : CallOK Try.prog (CallRec.mk 90 [AV.ag [AC.u (V4.v b), AC.u (V4.m b), AC.u (V4.l b), AC.u (V4.h b)]] [] (Eff.mk (AV.c (AC.b al)) [] none))) (c1 : CallOK Try.prog (CallRec.mk 20 [AV.c (AC.i 8), AV.ag [AC.u (V4.v a), AC.u (V4.m a)], AV.c (AC.i (IntKind.wrap IntKind.i64 (nv (band (V4.l b) 63#64))))] [] (Eff.mk (AV.ag [AC.u kv, AC.u km]) [] none))) (c2 : CallOK Try.prog (CallRec.mk 33 [AV.ag [AC.u kv, AC.u km, AC.u 0#64, AC.u 18446744073709551615#64]] [] (Eff.mk (AV.tu [AT.ag (V4.cs p), AT.c (AC.b i)]) [] none))) :
    CallOK Try.prog ⟨47, [AV.c (AC.i 8), AV.ag (V4.cs a), AV.ag (V4.cs b)], [], ⟨AV.ag [AC.u (V4.v p), AC.u (V4.m p), AC.u (V4.l p), AC.u (V4.h p)], [], none⟩⟩ :=
  val_run 2000 [Eff.mk (AV.c (AC.b al)) [] none, Eff.mk (AV.ag [AC.u kv, AC.u km]) [] none, Eff.mk (AV.tu [AT.ag (V4.cs p), AT.c (AC.b i)]) [] none] [false, false, false, false, false, false, true, true, false] [] Try.func47 rfl rfl rfl rfl (by kernel_rfl) h (cr_cons c0 (cr_cons c1 (cr_cons c2 cr_nil)))
theorem refTwo9n_w0 {a : V4} {b : V4} {p : V4} {i : Bool} {al : Bool} (h : (!al && true) = true) (c0 : CallOK Try.prog (CallRec.mk 90 [AV.ag [AC.u (V4.v b), AC.u (V4.m b), AC.u (V4.l b), AC.u (V4.h b)]] [] (Eff.mk (AV.c (AC.b al)) [] none))) (c1 : CallOK Try.prog (CallRec.mk 33 [AV.ag [AC.u 0#64, AC.u 18446744073709551615#64, AC.u 0#64, AC.u (V4.h a)]] [] (Eff.mk (AV.tu [AT.ag (V4.cs p), AT.c (AC.b i)]) [] none))) :
    CallOK Try.prog ⟨47, [AV.c (AC.i 9), AV.ag (V4.cs a), AV.ag (V4.cs b)], [], ⟨AV.ag [AC.u (V4.v p), AC.u (V4.m p), AC.u (V4.l p), AC.u (V4.h p)], [], none⟩⟩ :=
  val_run 2000 [Eff.mk (AV.c (AC.b al)) [] none, Eff.mk (AV.tu [AT.ag (V4.cs p), AT.c (AC.b i)]) [] none] [false, false, false, false, false, false, false, true, false] [] Try.func47 rfl rfl rfl rfl (by kernel_rfl) h (cr_cons c0 (cr_cons c1 cr_nil))
theorem refTwo9y_w0 {a : V4} {b : V4} {p : V4} {kv : BitVec 64} {km : BitVec 64} {i : Bool} {al : Bool} (h : (al && (decide (0 ≤ IntKind.wrap IntKind.i64 (nv (band (V4.l b) 63#64))) && decide (IntKind.wrap IntKind.i64 (nv (band (V4.l b) 63#64)) ≤ 64) && (decide (0 ≤ IntKind.wrap IntKind.i64 (nv (band (V4.l b) 63#64))) && decide (IntKind.wrap IntKind.i64 (nv (band (V4.l b) 63#64)) ≤ 64) && true))) = true) (c0 : CallOK Try.prog (CallRec.mk 90 [AV.ag [AC.u (V4.v b), AC.u (V4.m b), AC.u (V4.l b), AC.u (V4.h b)]] [] (Eff.mk (AV.c (AC.b al)) [] none))) (c1 : CallOK Try.prog (CallRec.mk 20 [AV.c (AC.i 9), AV.ag [AC.u (V4.v a), AC.u (V4.m a)], AV.c (AC.i (IntKind.wrap IntKind.i64 (nv (band (V4.l b) 63#64))))] [] (Eff.mk (AV.ag [AC.u kv, AC.u km]) [] none))) (c2 : CallOK Try.prog (CallRec.mk 33 [AV.ag [AC.u kv, AC.u km, AC.u (bshr (V4.l a) (Int.toNat (IntKind.wrap IntKind.i64 (nv (band (V4.l b) 63#64))))), AC.u (bshr (V4.h a) (Int.toNat (IntKind.wrap IntKind.i64 (nv (band (V4.l b) 63#64)))))]] [] (Eff.mk (AV.tu [AT.ag (V4.cs p), AT.c (AC.b i)]) [] none))) :
    CallOK Try.prog ⟨47, [AV.c (AC.i 9), AV.ag (V4.cs a), AV.ag (V4.cs b)], [], ⟨AV.ag [AC.u (V4.v p), AC.u (V4.m p), AC.u (V4.l p), AC.u (V4.h p)], [], none⟩⟩ :=
  val_run 2000 [Eff.mk (AV.c (AC.b al)) [] none, Eff.mk (AV.ag [AC.u kv, AC.u km]) [] none, Eff.mk (AV.tu [AT.ag (V4.cs p), AT.c (AC.b i)]) [] none] [false, false, false, false, false, false, false, true, true] [] Try.func47 rfl rfl rfl rfl (by kernel_rfl) h (cr_cons c0 (cr_cons c1 (cr_cons c2 cr_nil)))
end Go.Proofs.Ytkigmocchaikgaa
