import Derived.Test.YtkigmocchaikgabGreatFz2
import Derived.Test.YtkigmocchaikgabGreatProg
import Derived.WalkKit
import Derived.WalkSpells
import Derived.WalkLawsBesides
import Derived.Deep.QuietTactic
import Derived.BigQuiet
import Derived.Handy
import Derived.Lib.BitFns
/- A program's cells. -/
namespace Go.Proofs.YtkigmocchaikgabGreat
open Go.RowKit
abbrev i0 : Ins := ⟨0, 0, 0, 0#64, 0⟩
theorem pcell_cons (i : Ins) (L : List Ins) : pcell (i :: L) = i.cs ++ pcell L := rfl
theorem pcell_length : ∀ L : List Ins, (pcell L).length = L.length * 5
 | [] => rfl
 | i :: L => by rw [pcell_cons, List.length_append, pcell_length L]; simp [Ins.cs]; omega
theorem pcell_drop : ∀ (L : List Ins) (k : Nat), (pcell L).drop (k * 5) = pcell (L.drop k)
 | L, 0 => by simp
 | [], k + 1 => by simp [pcell]
 | i :: L, k + 1 => by
  rw [pcell_cons, show (k + 1) * 5 = i.cs.length + k * 5 by simp [Ins.cs]; omega, ← List.drop_drop, List.drop_left, pcell_drop L k]
  rfl
theorem drop_at {L : List Ins} {k : Nat} (h : k < L.length) : L.drop k = L.getD k i0 :: L.drop (k + 1) := by
 rw [List.drop_eq_getElem_cons h, List.getD_eq_getElem?_getD, List.getElem?_eq_getElem h]
 rfl
theorem pcell_at {L : List Ins} {k : Nat} (h : k < L.length) : ((pcell L).drop (k * 5)).take 5 = (L.getD k i0).cs := by
 rw [pcell_drop, drop_at h, pcell_cons]
 rfl
theorem pcell_get {L : List Ins} {k o : Nat} (h : k < L.length) (ho : o < 5) (d : AC) : (pcell L).getD (k * 5 + o) d = (L.getD k i0).cs.getD o d := by
 have h1 : (pcell L)[k * 5 + o]? = (((pcell L).drop (k * 5)).take 5)[o]? := by
  rw [List.getElem?_take, if_pos ho, List.getElem?_drop]
 rw [pcell_at h] at h1
 simp only [List.getD_eq_getElem?_getD] at h1 ⊢
 rw [h1]
theorem pcell_ks : ∀ L : List Ins, (pcell L).flatMap AC.ks = []
 | [] => rfl
 | i :: L => by rw [pcell_cons, List.flatMap_append, pcell_ks L]; rfl
def elt (L : List Ins) (j : Nat) : Ins := L.getD j i0
theorem pcell_elt {L : List Ins} {k : Nat} (h : k < L.length) : ((pcell L).drop (k * 5)).take 5 = (elt L k).cs := pcell_at h
theorem pcell_op {L : List Ins} {k : Nat} (h : k < L.length) (d : AC) : (pcell L).getD (k * 5) d = .i (elt L k).op := pcell_get (o := 0) h (by decide) d
theorem drop_elt {L : List Ins} {k : Nat} (h : k < L.length) : L.drop k = elt L k :: L.drop (k + 1) := drop_at h
abbrev nilSl : AC := AC.v (Value.slice none 0 0) rfl
/- of the six, from the one on that has n left: is there one? -/
def anyFrom (p : Nat → Bool) : Nat → Bool
 | 0 => false
 | n + 1 => p (5 - n) || anyFrom p n
theorem lacks_from (u s : V6 Bool) : lacks u s = anyFrom (fun j => u.get j && !s.get j) 6 := by
 simp only [lacks, anyFrom, V6.get, Bool.or_false, Bool.or_assoc]
 rfl
theorem read_of {P : Program} {f : FuncId} {fn : Func} {args : List AV} {H : List (Nat × Ent)} {n : Nat} {v : AV} (hf : P.funcs[f]? = some fn) (hb : fn.body.isSome = true) (hN : Nat.ble args.length fn.ntmps = true) (hB : Begin args H n) (hv : v.ks = []) (hro : ∀ k en, look H k = some en → en.wr = false)
  (h : ∀ w β, ART P f (cx w β n []) fn.ntmps [.code (bodyOf fn)] (Kn.start args H n) (REff w β ⟨v, [], none⟩)) : CallOK P ⟨f, args, H, ⟨v, [], none⟩⟩ :=
 eff_of [] none hf hb hN hB (fun k hk => (by simp only at hk; rw [hv] at hk; cases hk)) (fun _ _ h => (nomatch h)) (fun _ h => (nomatch h)) (ekeys0 hv n) (fun _ _ hm => (nomatch hm)) (fun k en h1 h2 => (by rw [hro k en h1] at h2; cases h2)) fun w β _ => h w β
abbrev pH (L : List Ins) : List (Nat × Ent) := [(0, ⟨false, pcell L, 0⟩)]
theorem pH_look {L : List Ins} {k : Nat} {e : Ent} (h : look (pH L) k = some e) : k = 0 ∧ e = ⟨false, pcell L, 0⟩ := by
 rw [look_cons] at h
 split at h
 ·rename_i hk; injection h with h; exact ⟨hk, h.symm⟩
 ·cases h
theorem begin_p {L : List Ins} {args : List AV} (h : (keysOf args).all (fun k => Nat.blt k 1) = true) : Begin args (pH L) 1 := by
 refine ⟨fun v hv k hk => ?_, fun k e he => ?_⟩
 ·have h1 : k ∈ keysOf args := List.mem_flatMap.2 ⟨v, hv, hk⟩
  have h2 := List.all_eq_true.1 h k h1
  simpa using h2
 ·obtain ⟨rfl, rfl⟩ := pH_look he
  exact ⟨by decide, fun c hc j hj => (nk_of (pcell_ks L) hc hj).elim⟩
theorem low_p {L : List Ins} {T : List (Nat × AV)} (h : (T.flatMap fun x => x.2.ks).all (fun k => Nat.blt k 1) = true) : Kn.Low ⟨T, pH L, 1⟩ := by
 refine ⟨fun t v hv k hk => ?_, fun k e he => ?_⟩
 ·have h1 : k ∈ T.flatMap fun x => x.2.ks := List.mem_flatMap.2 ⟨(t, v), look_mem hv, hk⟩
  have h2 := List.all_eq_true.1 h k h1
  simpa using h2
 ·obtain ⟨rfl, rfl⟩ := pH_look he
  exact ⟨by show 0 < 1; decide, fun c hc j hj => (nk_of (pcell_ks L) hc hj).elim⟩
theorem ro_p {L : List Ins} (k : Nat) (en : Ent) (h : look (pH L) k = some en) : en.wr = false := by
 obtain ⟨_, rfl⟩ := pH_look h; rfl
theorem jl {j : Nat} {L : List Ins} (h : j < L.length) : decide ((j : Int) < (L.length : Int)) = true := decide_eq_true (by omega)
theorem jn {j : Nat} {L : List Ins} (h : ¬ j < L.length) : decide ((j : Int) < (L.length : Int)) = false := decide_eq_false (by omega)
theorem pble {j : Nat} {L : List Ins} (h : j < L.length) : Nat.ble (0 + Int.toNat (j : Int) * 5 + 5) (pcell L).length = true := by
 rw [pcell_length, Nat.ble_eq]; omega
theorem elt_eff {j : Nat} {L : List Ins} (h : j < L.length) : Eff.mk (AV.ag (List.take 5 (List.drop (0 + Int.toNat (j : Int) * 5) (pcell L)))) [] none = Eff.mk (AV.ag (elt L j).cs) [] none := by
 rw [Nat.zero_add, Int.toNat_natCast, pcell_elt h]
theorem wrapS {j : Nat} (h : j ≤ 64) : IntKind.wrap IntKind.i64 ((j : Int) + 1) = ((j + 1 : Nat) : Int) := by
 rw [IntKind.wrap_i64]; omega
def nkH : List (Nat × Ent) → Prop
 | [] => True
 | x :: l => x.2.cells.flatMap AC.ks = [] ∧ nkH l
theorem nkH_look : ∀ {H : List (Nat × Ent)} {k : Nat} {e : Ent}, nkH H → look H k = some e → e.cells.flatMap AC.ks = []
 | [], _, _, _, h => by cases h
 | (j, x) :: l, k, e, hn, h => by
  rw [look_cons] at h
  split at h
  ·injection h with h; subst h; exact hn.1
  ·exact nkH_look hn.2 h
theorem low_n {T : List (Nat × AV)} {H : List (Nat × Ent)} {n : Nat} (h : (T.flatMap fun x => x.2.ks).all (fun k => Nat.blt k n) = true) (hk : (H.map (·.1)).all (fun k => Nat.blt k n) = true) (hH : nkH H) : Kn.Low ⟨T, H, n⟩ := by
 refine ⟨fun t v hv k hk => ?_, fun k e he => ⟨?_, fun c hc j hj => (nk_of (nkH_look hH he) hc hj).elim⟩⟩
 ·have h1 : k ∈ T.flatMap fun x => x.2.ks := List.mem_flatMap.2 ⟨(t, v), look_mem hv, hk⟩
  have h2 := List.all_eq_true.1 h k h1
  simpa using h2
 ·have h2 := List.all_eq_true.1 hk k (List.mem_map.2 ⟨(k, e), look_mem he, rfl⟩)
  simpa using h2
/- a call that hands back a new block -/
theorem new_of {P : Program} {f : FuncId} {fn : Func} {args : List AV} {K : Nat} {en : Ent} {v : AV} (hf : P.funcs[f]? = some fn) (hb : fn.body.isSome = true) (hN : Nat.ble args.length fn.ntmps = true) (hk : keysOf args = []) (hv : v.ks = [K]) (hc : en.cells.flatMap AC.ks = [])
  (h : ∀ w β, EKeys 0 [] (some K) ⟨v, [], some (K, en)⟩ → ART P f (cx w β 0 []) fn.ntmps [.code (bodyOf fn)] (Kn.start args [] 0) (REff w β ⟨v, [], some (K, en)⟩)) : CallOK P ⟨f, args, [], ⟨v, [], some (K, en)⟩⟩ := by
 have e : EKeys 0 [] (some K) ⟨v, [], some (K, en)⟩ := by
  refine ⟨fun k hk => Or.inr ?_, fun _ _ hm => (nomatch hm), fun k en' h' => ?_, fun _ h => (nomatch h), fun k h => ⟨Nat.zero_le _, rfl⟩⟩
  ·simp only at hk; rw [hv] at hk; rw [List.mem_singleton.1 hk]
  ·injection h' with h'; injection h' with _ h'; subst h'; exact hc
 refine eff_of [] (some K) hf hb hN (begin0 hk) (fun k hk => Or.inr ?_) (fun k en' h' => ?_) (fun k h => ⟨en, ?_⟩) e (fun _ _ hm => (nomatch hm)) (fun _ _ h => (nomatch h)) fun w β _ => h w β e
 ·simp only at hk; rw [hv] at hk; rw [List.mem_singleton.1 hk]
 ·injection h' with h'; injection h' with h' _; rw [h']
 ·injection h with h; subst h; rfl
def swp (a b : Nat) (j : Nat) : Nat := if j = a then b else if j = b then a else j
theorem swp_inj (a b : Nat) : ∀ i j, swp a b i = swp a b j → i = j := by
 intro i j h
 unfold swp at h
 split at h <;> split at h <;> (try split at h) <;> (try split at h) <;> omega
end Go.Proofs.YtkigmocchaikgabGreat
/- What an argument is that is a machine, or a program; a contract that reads it, as the row asks for it. -/
namespace Go.Proofs.YtkigmocchaikgabGreat
open Go.ChangeShapes Go.WideShapes Go.ChangeAt Go.RowKit Go.Joins
theorem isI_of {c : AC} (h : normOkC (.int .i64) c = true) : ∃ n, c = .i n := by
 cases c using AC.tells <;> first | (exact ⟨_, rfl⟩) | (simp [normOkC, AC.isI] at h)
theorem isU_of {c : AC} (h : normOkC (.int .u64) c = true) : ∃ n, c = .u n := by
 cases c using AC.tells <;> first | (exact ⟨_, rfl⟩) | (simp [normOkC, AC.isU] at h)
theorem typed_cons {d : TypeDesc} {ds : List TypeDesc} {l : List AC} (h : typed (d :: ds) l = true) : ∃ c r, l = c :: r ∧ normOkC d c = true ∧ typed ds r = true := by
 cases l with
 | nil => cases h
 | cons c r =>
  simp only [typed, Bool.and_eq_true] at h
  exact ⟨c, r, rfl, h.1, h.2⟩
theorem typed_nil {l : List AC} (h : typed [] l = true) : l = [] := by
 cases l with
 | nil => rfl
 | cons c r => cases h
theorem ins_of {l : List AC} (h : typed [.int .i64, .int .i64, .int .i64, .int .u64, .int .i64] l = true) : ∃ i : Ins, l = i.cs := by
 obtain ⟨c0, r, rfl, h0, h⟩ := typed_cons h
 obtain ⟨c1, r, rfl, h1, h⟩ := typed_cons h
 obtain ⟨c2, r, rfl, h2, h⟩ := typed_cons h
 obtain ⟨c3, r, rfl, h3, h⟩ := typed_cons h
 obtain ⟨c4, r, rfl, h4, h⟩ := typed_cons h
 obtain rfl := typed_nil h
 obtain ⟨a, rfl⟩ := isI_of h0
 obtain ⟨b, rfl⟩ := isI_of h1
 obtain ⟨c, rfl⟩ := isI_of h2
 obtain ⟨d, rfl⟩ := isU_of h3
 obtain ⟨e, rfl⟩ := isI_of h4
 exact ⟨⟨a, b, c, d, e⟩, rfl⟩
theorem Tryz.leafsIns : leafs Tryz.prog 8 24 = some [.int .i64, .int .i64, .int .i64, .int .u64, .int .i64] := by kernel_rfl
theorem Tryz.cellsIns : Tryz.prog.cellsOf 24 = 5 := by kernel_rfl
section
variable {H : Type} {enc : TypeId × Value → H} {W : World} {b0 : Nat} {spare : Nat → Bool} {held : Bool} {v : Value} {d : DataW H} {p : List MemPlace}
/- a program: none, or one that lies in memory from a place on -/
def PAt (W : World) (b o : Nat) (L : List Ins) : Prop := b < W.heap.size ∧ ∀ j c, (pcell L)[j]? = some c → ∀ β, W.cell? ⟨b, o + j, none⟩ = some (AC.g β c)
theorem pcell_app (L M : List Ins) : pcell (L ++ M) = pcell L ++ pcell M := by simp [pcell]
theorem prog_read {b o : Nat} (hb : b < W.heap.size) : ∀ n : Nat, (∀ i, i < n → ∃ ins : Ins, ∀ j, j < 5 → ∀ β, W.cell? ⟨b, o + i * 5 + j, none⟩ = ins.cs[j]?.map (AC.g β)) → ∃ L : List Ins, L.length = n ∧ PAt W b o L
 | 0, _ => ⟨[], rfl, hb, fun j c h => by simp [pcell] at h⟩
 | n + 1, h => by
  obtain ⟨L, hL, _, hC⟩ := prog_read hb n (fun i hi => h i (by omega))
  obtain ⟨ins, hi⟩ := h n (by omega)
  refine ⟨L ++ [ins], by simp [hL], hb, fun j c hj β => ?_⟩
  have e : pcell [ins] = ins.cs := by simp [pcell]
  rw [pcell_app, e] at hj
  have hl := pcell_length L
  rcases Nat.lt_or_ge j (pcell L).length with h1 | h1
  ·rw [List.getElem?_append_left h1] at hj
   exact hC j c hj β
  ·rw [List.getElem?_append_right h1] at hj
   have h5 : j - (pcell L).length < 5 := by
    rcases Nat.lt_or_ge (j - (pcell L).length) 5 with h2 | h2
    ·exact h2
    ·rw [List.getElem?_eq_none (by simpa [Ins.cs] using h2)] at hj; cases hj
   have := hi _ h5 β
   rw [hj] at this
   rw [show o + j = o + n * 5 + (j - (pcell L).length) by omega]
   exact this
set_option maxRecDepth 100000 in
theorem arg_prog (hv : Value.okWide Tryz.prog W .any b0 42 v) (h : DataW.Trod enc Tryz.prog W 0 spare held 42 v d p) : v = .slice none 0 0 ∨ ∃ b o L c, v = .slice (some ⟨b, o, none⟩) L.length c ∧ PAt W b o L := by
 obtain ⟨a, len, cap, rfl⟩ := okWide_slice Tryz.underlying42 hv
 obtain ⟨fuel, hf⟩ := h
 rcases DataW.trod_slice Tryz.underlying42 hf with ⟨h1, _⟩ | ⟨a', len', cap', elems, rest, n, _, h1, _, _, _, _, hle, hel, _, _⟩
 ·left; simpa [Value.cells] using h1
 ·right
  simp [Value.cells] at h1
  obtain ⟨rfl, rfl, rfl⟩ := h1
  have hsp : a'.spot = none ∧ a'.block < W.heap.size := by
   simp only [Value.okWide, Tryz.underlying42, Cell.okWide, Cell.ok] at hv
   obtain ⟨_, _, hh⟩ := hv
   unfold World.has at hh
   obtain ⟨_, h2, row, cells, h3, _⟩ := hh
   refine ⟨h2, ?_⟩
   unfold World.shape? at h3
   rcases Nat.lt_or_ge a'.block W.heap.size with h4 | h4
   ·exact h4
   ·rw [Array.getElem?_eq_none h4] at h3; cases h3
  obtain ⟨b, o, sp⟩ := a'
  obtain ⟨rfl, hb⟩ := hsp
  simp only at hb
  have hadd : ∀ o k, Addr.add ⟨b, o, none⟩ k = ⟨b, o + k, none⟩ := fun o k => by
   unfold Addr.add
   split
   ·rename_i h; subst h; rfl
   ·rfl
  obtain ⟨L, hL, hP⟩ := prog_read (o := o) hb len (fun i hi => by
   have h2 := hel i hi
   rw [List.getElem?_eq_getElem (by omega), Tryz.cellsIns] at h2
   obtain ⟨cs, h3, h4⟩ := Option.bind_eq_some_iff.1 h2
   obtain ⟨l, h5, _, h6⟩ := trod_leaf 8 _ _ Tryz.leafsIns Tryz.cellsIns.symm _ ⟨n, _, h4⟩
   obtain ⟨ins, rfl⟩ := ins_of h5
   refine ⟨ins, fun j hj β => ?_⟩
   unfold World.cells? at h3
   rw [if_pos (Nat.zero_le _)] at h3
   have h7 := mapM_some_get h3 j j (by simp [hj])
   rw [hadd, hadd] at h7
   rw [h7, h6 β, List.getElem?_map])
  exact ⟨b, o, L, cap, by rw [hL], hP⟩
end
theorem calls_read {P : Program} {f : FuncId} {A : Array Value} {args : List AV} {L : List Ins} {W : World} {b o c : Nat} (hP : PAt W b o L) (hA : (args.map (AV.g (fun _ => (b, o, c)))).toArray = A) (h : CallOK P ⟨f, args, pH L, ⟨.c (.b true), [], none⟩⟩) :
  Calls P f A W fun e w' => e = .returned (.bool true) ∧ Below W.heap.size W w' := by
 have := h.call (fun _ => (b, o, c)) W (fun k e he => ?_) (fun k e _ _ he _ _ hw => ?_)
 ·rw [← hA]
  refine this.mono fun e w' ⟨β', he, hu⟩ => ⟨by rw [he]; rfl, ?_⟩
  exact ⟨hu.frame.os, hu.frame.tape, hu.frame.output, hu.frame.size, fun k hk => hu.frame.block k hk fun ⟨_, _, hm, _⟩ => by cases hm⟩
 ·obtain ⟨rfl, rfl⟩ := pH_look he
  exact ⟨hP.1, fun j c hj => hP.2 j c hj _, (fun h => by cases h), fun h => absurd rfl h⟩
 ·rw [ro_p k e he] at hw; cases hw
end Go.Proofs.YtkigmocchaikgabGreat
/- Sums and differences of what is known of two numbers: carries; plain facts. -/
namespace Go.Proofs.YtkigmocchaikgabGreat
/- what is carried into bit i of x + y -/
def cy (x y : BitVec 64) (i : Nat) : Bool := BitVec.carry i x y false
theorem cy_zero (x y : BitVec 64) : cy x y 0 = false := by unfold cy; rw [BitVec.carry_zero]
theorem cy_succ (x y : BitVec 64) (i : Nat) : cy x y (i + 1) = ((bit x i && bit y i) || (cy x y i && (bit x i || bit y i))) := by
 unfold cy bit
 rw [BitVec.carry_succ]
 unfold Bool.atLeastTwo
 cases x.getLsbD i <;> cases y.getLsbD i <;> cases BitVec.carry i x y false <;> rfl
theorem bit_add (x y : BitVec 64) (i : Nat) (hi : i < 64) : bit (badd x y) i = (bit x i ^^ bit y i ^^ cy x y i) := by
 unfold bit badd cy
 rw [BitVec.getLsbD_add hi]
 cases x.getLsbD i <;> cases y.getLsbD i <;> cases BitVec.carry i x y false <;> rfl
theorem cy_mono (x y x' y' : BitVec 64) (hx : ∀ j, bit x j = true → bit x' j = true) (hy : ∀ j, bit y j = true → bit y' j = true) (i : Nat) : cy x y i = true → cy x' y' i = true := by
 induction i with
 | zero => intro h; rw [cy_zero] at h; cases h
 | succ i ih =>
  rw [cy_succ, cy_succ]
  have h1 := hx i; have h2 := hy i
  revert ih h1 h2
  cases bit x i <;> cases bit y i <;> cases cy x y i <;> cases bit x' i <;> cases bit y' i <;> cases cy x' y' i <;> simp
/- x is one of the numbers of (v, m) -/
theorem has_iff (v m x : BitVec 64) : eqb (bandn x m) v = true ↔ ∀ j, j < 64 → (bit x j && !bit m j) = bit v j := by
 rw [eqb_iff]
 constructor
 ·intro h j hj; rw [← bit_andn _ _ _ hj, h]
 ·intro h; apply ext64; intro j hj; rw [bit_andn _ _ _ hj]; exact h j hj
/- disjoint bits: their sum is their or -/
theorem add_or {v m : BitVec 64} (hr : ∀ j, (bit v j && bit m j) = false) : badd v m = bor v m := by
 have hc : ∀ i, cy v m i = false := by
  intro i
  induction i with
  | zero => exact cy_zero _ _
  | succ i ih =>
   rw [cy_succ, ih]
   have := hr i
   revert this
   cases bit v i <;> cases bit m i <;> simp
 apply ext64; intro j hj
 rw [bit_add _ _ _ hj, hc j, bit_or]
 have := hr j
 revert this
 cases bit v j <;> cases bit m j <;> simp
theorem add_swap (a b c d : BitVec 64) : badd (badd (badd a b) c) d = badd (badd a c) (badd b d) := by
 unfold badd
 rw [BitVec.add_assoc, BitVec.add_assoc, BitVec.add_assoc]
 congr 1
 rw [← BitVec.add_assoc, ← BitVec.add_assoc, BitVec.add_comm b c]
/- the mask of a sum, bit by bit: unknown, or carried in by the greatest and not by the least -/
theorem addM_bit {av am bv bm : BitVec 64} (ha : ∀ j, (bit av j && bit am j) = false) (hb : ∀ j, (bit bv j && bit bm j) = false) (j : Nat) (hj : j < 64) :
  bit (bor (bor (bxor (badd av bv) (badd (badd (badd av bv) am) bm)) am) bm) j = (bit am j || bit bm j || (!cy av bv j && cy (bor av am) (bor bv bm) j)) := by
 rw [bit_or, bit_or, bit_xor, add_swap, add_or ha, add_or hb, bit_add _ _ _ hj, bit_add _ _ _ hj, bit_or, bit_or]
 have hm := cy_mono av bv (bor av am) (bor bv bm) (fun i h => by rw [bit_or, h]; rfl) (fun i h => by rw [bit_or, h]; rfl) j
 have h1 := ha j; have h2 := hb j
 revert hm h1 h2
 cases bit av j <;> cases bit am j <;> cases bit bv j <;> cases bit bm j <;> cases cy av bv j <;> cases cy (bor av am) (bor bv bm) j <;> simp
/- what x and y are, their sum's bits are where the mask says known -/
theorem add_sound {av am bv bm x y : BitVec 64} (ha : ∀ j, (bit av j && bit am j) = false) (hb : ∀ j, (bit bv j && bit bm j) = false)
  (hx : ∀ j, j < 64 → (bit x j && !bit am j) = bit av j) (hy : ∀ j, j < 64 → (bit y j && !bit bm j) = bit bv j) (M : BitVec 64)
  (hM : M = bor (bor (bxor (badd av bv) (badd (badd (badd av bv) am) bm)) am) bm) : ∀ j, j < 64 → (bit (badd x y) j && !bit M j) = bit (bandn (badd av bv) M) j := by
 intro j hj
 rw [bit_andn _ _ _ hj, hM, addM_bit ha hb j hj, bit_add _ _ _ hj, bit_add _ _ _ hj]
 have lx : ∀ i, bit av i = true → bit x i = true := fun i h => by
  by_cases hi : i < 64
  ·have := hx i hi; rw [h] at this; revert this; cases bit x i <;> simp
  ·rw [bit_big _ _ (by omega)] at h; cases h
 have ly : ∀ i, bit bv i = true → bit y i = true := fun i h => by
  by_cases hi : i < 64
  ·have := hy i hi; rw [h] at this; revert this; cases bit y i <;> simp
  ·rw [bit_big _ _ (by omega)] at h; cases h
 have ux : ∀ i, bit x i = true → bit (bor av am) i = true := fun i h => by
  by_cases hi : i < 64
  ·have := hx i hi; rw [bit_or]; rw [h] at this; revert this; cases bit av i <;> cases bit am i <;> simp
  ·rw [bit_big _ _ (by omega)] at h; cases h
 have uy : ∀ i, bit y i = true → bit (bor bv bm) i = true := fun i h => by
  by_cases hi : i < 64
  ·have := hy i hi; rw [bit_or]; rw [h] at this; revert this; cases bit bv i <;> cases bit bm i <;> simp
  ·rw [bit_big _ _ (by omega)] at h; cases h
 have m1 := cy_mono av bv x y lx ly j
 have m2 := cy_mono x y (bor av am) (bor bv bm) ux uy j
 have h1 := hx j hj; have h2 := hy j hj
 revert m1 m2 h1 h2
 cases bit x j <;> cases bit y j <;> cases bit av j <;> cases bit am j <;> cases bit bv j <;> cases bit bm j <;> cases cy av bv j <;> cases cy x y j <;> cases cy (bor av am) (bor bv bm) j <;> simp
/- differences by sums: x - y is not (not x + y) -/
theorem sub_not (x y : BitVec 64) : bsub x y = bnot (badd (bnot x) y) := by
 unfold bsub bnot badd
 apply BitVec.eq_of_toNat_eq
 rw [BitVec.toNat_sub, BitVec.toNat_not, BitVec.toNat_add, BitVec.toNat_not]
 have := x.isLt; have := y.isLt
 omega
/- what is borrowed from bit i of x - y -/
def bw (x y : BitVec 64) (i : Nat) : Bool := cy (bnot x) y i
theorem bit_sub (x y : BitVec 64) (i : Nat) (hi : i < 64) : bit (bsub x y) i = (bit x i ^^ bit y i ^^ bw x y i) := by
 rw [sub_not, bit_not _ _ hi, bit_add _ _ _ hi, bit_not _ _ hi]
 unfold bw
 cases bit x i <;> cases bit y i <;> cases cy (bnot x) y i <;> rfl
theorem bw_zero (x y : BitVec 64) : bw x y 0 = false := cy_zero _ _
theorem bw_succ (x y : BitVec 64) (i : Nat) (hi : i < 64) : bw x y (i + 1) = ((!bit x i && bit y i) || (bw x y i && (!bit x i || bit y i))) := by
 unfold bw; rw [cy_succ, bit_not _ _ hi]
theorem bw_mono (x y x' y' : BitVec 64) (hx : ∀ j, bit x' j = true → bit x j = true) (hy : ∀ j, bit y j = true → bit y' j = true) (i : Nat) : bw x y i = true → bw x' y' i = true := by
 unfold bw
 refine cy_mono _ _ _ _ (fun j h => ?_) hy i
 by_cases hj : j < 64
 ·rw [bit_not _ _ hj] at h ⊢
  have := hx j
  revert this h
  cases bit x j <;> cases bit x' j <;> simp
 ·rw [bit_big _ _ (by omega)] at h; cases h
theorem sub_add (a b c : BitVec 64) : badd (bsub a b) c = bsub (badd a c) b := by
 unfold badd bsub
 apply BitVec.eq_of_toNat_eq
 simp only [BitVec.toNat_add, BitVec.toNat_sub]
 have := a.isLt; have := b.isLt; have := c.isLt
 omega
theorem sub_sub (a b c : BitVec 64) : bsub (bsub a b) c = bsub a (badd b c) := by
 unfold badd bsub
 apply BitVec.eq_of_toNat_eq
 simp only [BitVec.toNat_add, BitVec.toNat_sub]
 have := a.isLt; have := b.isLt; have := c.isLt
 omega
theorem subM_bit {av am bv bm : BitVec 64} (ha : ∀ j, (bit av j && bit am j) = false) (hb : ∀ j, (bit bv j && bit bm j) = false) (j : Nat) (hj : j < 64) :
  bit (bor (bor (bxor (badd (bsub av bv) am) (bsub (bsub av bv) bm)) am) bm) j = (bit am j || bit bm j || (!bw (bor av am) bv j && bw av (bor bv bm) j)) := by
 rw [bit_or, bit_or, bit_xor, sub_add, sub_sub, add_or ha, add_or hb, bit_sub _ _ _ hj, bit_sub _ _ _ hj, bit_or, bit_or]
 have hm := bw_mono (bor av am) bv av (bor bv bm) (fun i h => by rw [bit_or, h]; rfl) (fun i h => by rw [bit_or, h]; rfl) j
 have h1 := ha j; have h2 := hb j
 revert hm h1 h2
 cases bit av j <;> cases bit am j <;> cases bit bv j <;> cases bit bm j <;> cases bw (bor av am) bv j <;> cases bw av (bor bv bm) j <;> simp
/- bounds of what a pair has -/
theorem lo_of {v m x : BitVec 64} (hx : ∀ j, j < 64 → (bit x j && !bit m j) = bit v j) (i : Nat) (h : bit v i = true) : bit x i = true := by
 by_cases hi : i < 64
 ·have := hx i hi; rw [h] at this; revert this; cases bit x i <;> simp
 ·rw [bit_big _ _ (by omega)] at h; cases h
theorem hi_of {v m x : BitVec 64} (hx : ∀ j, j < 64 → (bit x j && !bit m j) = bit v j) (i : Nat) (h : bit x i = true) : bit (bor v m) i = true := by
 by_cases hi : i < 64
 ·have := hx i hi; rw [bit_or]; rw [h] at this; revert this; cases bit v i <;> cases bit m i <;> simp
 ·rw [bit_big _ _ (by omega)] at h; cases h
theorem sub_sound {av am bv bm x y : BitVec 64} (ha : ∀ j, (bit av j && bit am j) = false) (hb : ∀ j, (bit bv j && bit bm j) = false)
  (hx : ∀ j, j < 64 → (bit x j && !bit am j) = bit av j) (hy : ∀ j, j < 64 → (bit y j && !bit bm j) = bit bv j) (M : BitVec 64)
  (hM : M = bor (bor (bxor (badd (bsub av bv) am) (bsub (bsub av bv) bm)) am) bm) : ∀ j, j < 64 → (bit (bsub x y) j && !bit M j) = bit (bandn (bsub av bv) M) j := by
 intro j hj
 rw [bit_andn _ _ _ hj, hM, subM_bit ha hb j hj, bit_sub _ _ _ hj, bit_sub _ _ _ hj]
 have m1 := bw_mono (bor av am) bv x y (hi_of hx) (lo_of hy) j
 have m2 := bw_mono x y av (bor bv bm) (lo_of hx) (hi_of hy) j
 have m3 := bw_mono (bor av am) bv av bv (fun i h => by rw [bit_or, h]; rfl) (fun i h => h) j
 have m4 := bw_mono av bv av (bor bv bm) (fun i h => h) (fun i h => by rw [bit_or, h]; rfl) j
 have h1 := hx j hj; have h2 := hy j hj
 revert m1 m2 m3 m4 h1 h2
 cases bit x j <;> cases bit y j <;> cases bit av j <;> cases bit am j <;> cases bit bv j <;> cases bit bm j <;> cases bw (bor av am) bv j <;> cases bw x y j <;> cases bw av bv j <;> cases bw av (bor bv bm) j <;> simp
end Go.Proofs.YtkigmocchaikgabGreat
/- The contracts of the reference's bits and of package bits: what each call hands back, and that nothing old has turned. -/
namespace Go.Proofs.YtkigmocchaikgabGreat
open Go.RowKit
section
attribute [local go_sem] w_and w_or w_xor w_andNot w_and1 w_and63 w_add w_sub w_mul w_sub1 w_add1 w_shl w_shl1 w_shr c_beq c_bne c_beq0 c_bne0 c_beq1 c_bne1 wrap_nv
theorem bk {W w1 : World} (B : Nat) (hb : Below W.heap.size W w1) (h : B ≤ W.heap.size) :
  (∀ b o, b < B → w1.cell? ⟨b, o, none⟩ = W.cell? ⟨b, o, none⟩) ∧ (∀ b o, b < B → w1.frozen? ⟨b, o, none⟩ = W.frozen? ⟨b, o, none⟩) ∧ B ≤ w1.heap.size :=
 ⟨fun b o k => hb.cell (p := ⟨b, o, none⟩) (Nat.lt_of_lt_of_le k h), fun b o k => hb.frozen (p := ⟨b, o, none⟩) (Nat.lt_of_lt_of_le k h), Nat.le_trans h hb.size⟩
theorem bl {W w1 : World} {B : Nat} (hb : Below B W w1) :
  (∀ b o, b < B → w1.cell? ⟨b, o, none⟩ = W.cell? ⟨b, o, none⟩) ∧ (∀ b o, b < B → w1.frozen? ⟨b, o, none⟩ = W.frozen? ⟨b, o, none⟩) :=
 ⟨fun b o k => hb.cell (p := ⟨b, o, none⟩) k, fun b o k => hb.frozen (p := ⟨b, o, none⟩) k⟩
theorem set2_0 {w : World} {b : Nat} {u x y : Value} (h : w.cell? ⟨b, 0, none⟩ = some u) : ((w.setCell ⟨b, 0, none⟩ x).setCell ⟨b, 1, none⟩ y).cell? ⟨b, 0, none⟩ = some x := by
 rw [World.cell?_setCell_other _ _ _ _ (by simp), World.cell?_setCell_same _ _ _ h]
theorem set2_1 {w : World} {b : Nat} {u x y : Value} (h : w.cell? ⟨b, 1, none⟩ = some u) : ((w.setCell ⟨b, 0, none⟩ x).setCell ⟨b, 1, none⟩ y).cell? ⟨b, 1, none⟩ = some y := by
 have : (w.setCell ⟨b, 0, none⟩ x).cell? ⟨b, 1, none⟩ = some u := by rw [World.cell?_setCell_other _ _ _ _ (by simp), h]
 rw [World.cell?_setCell_same _ _ _ this]
theorem set2_below {w W : World} {B b : Nat} {x y : Value} (h : Below B w W) (hb : B ≤ b) : Below B w ((W.setCell ⟨b, 0, none⟩ x).setCell ⟨b, 1, none⟩ y) := (h.setCell hb x).setCell hb y
/- three worlds on: a pair that is stored, as the loop's relation wants it -/
theorem out_rel {W wr w3 : World} {B : Nat} {x y x' y' : BitVec 64} (hbel : Below B W wr) (hb : Below wr.heap.size wr w3) (hsz : B + 1 ≤ wr.heap.size)
  {u0 u1 : Value} (h0 : wr.cell? ⟨B, 0, none⟩ = some u0) (h1 : wr.cell? ⟨B, 1, none⟩ = some u1) (hf : ∀ o, wr.frozen? ⟨B, o, none⟩ = false) (ex : x = x') (ey : y = y') :
  Below B W ((w3.setCell ⟨B, 0, none⟩ (.int .u64 (nv x))).setCell ⟨B, 1, none⟩ (.int .u64 (nv y)))
  ∧ ((w3.setCell ⟨B, 0, none⟩ (.int .u64 (nv x))).setCell ⟨B, 1, none⟩ (.int .u64 (nv y))).cell? ⟨B, 0, none⟩ = some (U x')
  ∧ ((w3.setCell ⟨B, 0, none⟩ (.int .u64 (nv x))).setCell ⟨B, 1, none⟩ (.int .u64 (nv y))).cell? ⟨B, 1, none⟩ = some (U y')
  ∧ (∀ o, ((w3.setCell ⟨B, 0, none⟩ (.int .u64 (nv x))).setCell ⟨B, 1, none⟩ (.int .u64 (nv y))).frozen? ⟨B, o, none⟩ = false)
  ∧ B + 1 ≤ ((w3.setCell ⟨B, 0, none⟩ (.int .u64 (nv x))).setCell ⟨B, 1, none⟩ (.int .u64 (nv y))).heap.size := by
 subst ex; subst ey
 obtain ⟨hc, hfr, hs⟩ := bk (B + 1) hb hsz
 refine ⟨set2_below (hbel.trans (hb.mono (by omega))) (Nat.le_refl _), set2_0 ((hc B 0 (by omega)).trans h0), set2_1 ((hc B 1 (by omega)).trans h1), fun o => ?_, ?_⟩
 ·simp only [World.frozen?_setCell]; exact (hfr B o (by omega)).trans (hf o)
 ·simp only [World.size_setCell]; exact hs
theorem keep_rel {W wr w3 : World} {B : Nat} {x y x' y' : BitVec 64} (hbel : Below B W wr) (hb : Below wr.heap.size wr w3) (hsz : B + 1 ≤ wr.heap.size)
  (h0 : wr.cell? ⟨B, 0, none⟩ = some (U x)) (h1 : wr.cell? ⟨B, 1, none⟩ = some (U y)) (hf : ∀ o, wr.frozen? ⟨B, o, none⟩ = false) (ex : x = x') (ey : y = y') :
  Below B W w3 ∧ w3.cell? ⟨B, 0, none⟩ = some (U x') ∧ w3.cell? ⟨B, 1, none⟩ = some (U y') ∧ (∀ o, w3.frozen? ⟨B, o, none⟩ = false) ∧ B + 1 ≤ w3.heap.size := by
 subst ex; subst ey
 obtain ⟨hc, hfr, hs⟩ := bk (B + 1) hb hsz
 exact ⟨hbel.trans (hb.mono (by omega)), (hc B 0 (by omega)).trans h0, (hc B 1 (by omega)).trans h1, fun o => (hfr B o (by omega)).trans (hf o), hs⟩
set_option maxHeartbeats 400000 in
theorem without_any (x y : BitVec 64) (w : World) :
  Calls Tryz.prog 100 #[U x, U y] w fun e w' => e = .returned (Bt (bandn x y) y) ∧ Below w.heap.size w w' := by
 go_enter Tryz.func100, Tryz.ntmps100
 go_wp2
 exact bodyPost_ret (v := Bt (bandn x y) y) (by simp [results, Tryz.results100, go_sem]) rfl ⟨rfl, (by repeat (first | exact Below.refl _ _ | assumption | refine below_drewN ?_ _ | refine Below.drew ?_ | refine Below.alloc ?_ (by first | exact Nat.le_refl _ | (simp; done) | (simp; omega) | omega) _ | refine Below.setCell ?_ (by first | exact Nat.le_refl _ | (simp; done) | (simp; omega) | omega) _ | refine Below.trans ?_ (Below.mono (by assumption) (by first | exact Nat.le_refl _ | (simp; done) | (simp; omega) | omega))))⟩
set_option maxHeartbeats 400000 in
theorem up_any (v m : BitVec 64) (i : Nat) (hi : i < 64) (w : World) :
  Calls Tryz.prog 146 #[Bt v m, .int .u64 i] w fun e w' => e = .returned (Bt (bshl v i) (bshl m i)) ∧ Below w.heap.size w w' := by
 go_enter Tryz.func146, Tryz.ntmps146
 go_wp2
 exact bodyPost_ret (v := Bt (bshl v i) (bshl m i)) (by simp [results, Tryz.results146, go_sem]) rfl ⟨rfl, (by repeat (first | exact Below.refl _ _ | assumption | refine below_drewN ?_ _ | refine Below.drew ?_ | refine Below.alloc ?_ (by first | exact Nat.le_refl _ | (simp; done) | (simp; omega) | omega) _ | refine Below.setCell ?_ (by first | exact Nat.le_refl _ | (simp; done) | (simp; omega) | omega) _ | refine Below.trans ?_ (Below.mono (by assumption) (by first | exact Nat.le_refl _ | (simp; done) | (simp; omega) | omega))))⟩
set_option maxHeartbeats 400000 in
theorem may0 (v m : BitVec 64) (i : Nat) (hi : i < 64) (w : World) :
  Calls Tryz.prog 119 #[Bt v m, N i] w fun e w' => e = .returned (.tuple #[.bool (!bit v i), .bool (bit v i || bit m i)]) ∧ Below w.heap.size w w' := by
 have h1 := bit_and v i hi
 have h3 := bit_and m i hi
 cases hv : bit v i
 all_goals
  rw [hv] at h1
  clear hv
  go_enter Tryz.func119, Tryz.ntmps119
  go_wp2
  go_quiet (fail)
  go_wp2
  go_ret2
  exact ⟨rfl, (by repeat (first | exact Below.refl _ _ | assumption | refine below_drewN ?_ _ | refine Below.drew ?_ | refine Below.alloc ?_ (by first | exact Nat.le_refl _ | (simp; done) | (simp; omega) | omega) _ | refine Below.setCell ?_ (by first | exact Nat.le_refl _ | (simp; done) | (simp; omega) | omega) _ | refine Below.trans ?_ (Below.mono (by assumption) (by first | exact Nat.le_refl _ | (simp; done) | (simp; omega) | omega))))⟩
theorem may_eq (v m : BitVec 64) (i : Nat) : ∃ z o, Hid (z = mz v i) ∧ Hid (o = mo v m i) := ⟨_, _, rfl, rfl⟩
theorem may_any {v m : BitVec 64} {i : Nat} (hi : i < 64) {z o : Bool} (hz : Hid (z = mz v i)) (ho : Hid (o = mo v m i)) (w : World) :
  Calls Tryz.prog 119 #[Bt v m, N i] w fun e w' => e = .returned (.tuple #[.bool z, .bool o]) ∧ Below w.heap.size w w' := by
 rw [hz.out, ho.out]; exact may0 v m i hi w
set_option maxHeartbeats 400000 in
theorem put_any (v m : BitVec 64) (i : Nat) (hi : i < 64) (z o : Bool) (w : World) :
  Calls Tryz.prog 120 #[Bt v m, N i, .bool z, .bool o] w fun e w' => e = .returned (Bt (putV v i z o) (putM m i z o)) ∧ Below w.heap.size w w' := by
 cases z <;> cases o
 all_goals
  go_enter Tryz.func120, Tryz.ntmps120
  go_wp2
  refine bodyPost_ret (v := _) (by simp [results, Tryz.results120, go_sem, putV, putM]) rfl ⟨rfl, (by repeat (first | exact Below.refl _ _ | assumption | refine below_drewN ?_ _ | refine Below.drew ?_ | refine Below.alloc ?_ (by first | exact Nat.le_refl _ | (simp; done) | (simp; omega) | omega) _ | refine Below.setCell ?_ (by first | exact Nat.le_refl _ | (simp; done) | (simp; omega) | omega) _ | refine Below.trans ?_ (Below.mono (by assumption) (by first | exact Nat.le_refl _ | (simp; done) | (simp; omega) | omega))))⟩
set_option maxHeartbeats 400000 in
theorem right_any (v m : BitVec 64) (w : World) :
  Calls Tryz.prog 77 #[Bt v m] w fun e w' => e = .returned (.bool (eqb (band v m) zero)) ∧ Below w.heap.size w w' := by
 go_enter Tryz.func77, Tryz.ntmps77
 go_wp2
 go_ret
 exact ⟨rfl, (by repeat (first | exact Below.refl _ _ | assumption | refine below_drewN ?_ _ | refine Below.drew ?_ | refine Below.alloc ?_ (by first | exact Nat.le_refl _ | (simp; done) | (simp; omega) | omega) _ | refine Below.setCell ?_ (by first | exact Nat.le_refl _ | (simp; done) | (simp; omega) | omega) _ | refine Below.trans ?_ (Below.mono (by assumption) (by first | exact Nat.le_refl _ | (simp; done) | (simp; omega) | omega))))⟩
theorem right_is {v m : BitVec 64} {b : Bool} (h : eqb (band v m) zero = b) (w : World) :
  Calls Tryz.prog 77 #[Bt v m] w fun e w' => e = .returned (.bool b) ∧ Below w.heap.size w w' := h ▸ right_any v m w
set_option maxHeartbeats 400000 in
theorem within_any (n l h : Int) (w : World) :
  Calls Tryz.prog 29 #[N n, N l, N h] w fun e w' => e = .returned (.bool (decide (l ≤ n ∧ n ≤ h))) ∧ w = w' := by
 by_cases h1 : l ≤ n
 ·by_cases h2 : n ≤ h
  all_goals
   go_enter Tryz.func29, Tryz.ntmps29
   go_wp2
   go_ret
   refine ⟨?_, rfl⟩
   simp [h1, h2] <;> omega
 ·go_enter Tryz.func29, Tryz.ntmps29
  go_wp2
  go_ret
  refine ⟨?_, rfl⟩
  simp <;> omega
theorem within_yes {n l h : Int} (hd : l ≤ n ∧ n ≤ h) (w : World) : Calls Tryz.prog 29 #[N n, N l, N h] w fun e w' => e = .returned (.bool true) ∧ w = w' := by
 have := within_any n l h w
 rwa [decide_eq_true hd] at this
theorem within_no {n l h : Int} (hd : ¬ (l ≤ n ∧ n ≤ h)) (w : World) : Calls Tryz.prog 29 #[N n, N l, N h] w fun e w' => e = .returned (.bool false) ∧ w = w' := by
 have := within_any n l h w
 rwa [decide_eq_false hd] at this
end
section
attribute [local go_sem] w_and w_or w_xor w_andNot w_and1 w_and63 w_add w_sub w_mul w_sub1 w_add1 w_shl w_shl1 w_shr c_beq c_bne c_beq0 c_bne0 c_beq1 c_bne1 wrap_nv
def hasB (v m x : BitVec 64) : Bool := eqb (band v m) zero && eqb (bandn x m) v
set_option maxHeartbeats 400000 in
theorem bitsHave_any (v m x : BitVec 64) (w : World) :
  Calls Tryz.prog 134 #[Bt v m, U x] w fun e w' => e = .returned (.bool (hasB v m x)) ∧ Below w.heap.size w w' := by
 have Hh : Hid (hasB v m x = (eqb (band v m) zero && eqb (bandn x m) v)) := rfl
 cases hr : eqb (band v m) zero
 all_goals
  rw [hr] at Hh
  have Hr : Hid (eqb (band v m) zero = _) := hr
  clear hr
  go_enter Tryz.func134, Tryz.ntmps134
  go_wp2_with fail
  refine (right_is Hr.out _).mono ?_
  rintro e w1 ⟨rfl, hb1⟩
  obtain ⟨hc1, hf1, hs1⟩ := bk (w.heap.size + 1) hb1 (by simp)
  go_wp2_with fail
  go_ret
  rw [Hh.out]
  exact ⟨rfl, (by repeat (first | exact Below.refl _ _ | assumption | refine below_drewN ?_ _ | refine Below.drew ?_ | refine Below.alloc ?_ (by first | exact Nat.le_refl _ | (simp; done) | (simp; omega) | omega) _ | refine Below.setCell ?_ (by first | exact Nat.le_refl _ | (simp; done) | (simp; omega) | omega) _ | refine Below.trans ?_ (Below.mono (by assumption) (by first | exact Nat.le_refl _ | (simp; done) | (simp; omega) | omega))))⟩
end
section
attribute [local go_sem] w_and w_or w_xor w_andNot w_and1 w_and63 w_add w_sub w_mul w_sub1 w_add1 w_shl w_shl1 w_shr c_beq c_bne c_beq0 c_bne0 c_beq1 c_bne1 wrap_nv
set_option maxHeartbeats 400000 in
theorem check1_ok (v m : BitVec 64) (b c : Nat) (w : World) (_hbw : b < w.heap.size) (h0 : w.cell? ⟨b, 0, none⟩ = some (U v)) (h1 : w.cell? ⟨b, 1, none⟩ = some (U m)) (hr : eqb (band v m) zero = true) :
  Calls Tryz.prog 98 #[.slice (some ⟨b, 0, none⟩) 1 c] w fun e w' => e = .returned (N 0) ∧ Below w.heap.size w w' := by
 go_enter Tryz.func98, Tryz.ntmps98
 go_wp2
 go_rounds 2
 go_ret
 exact ⟨rfl, (by repeat (first | exact Below.refl _ _ | assumption | refine below_drewN ?_ _ | refine Below.drew ?_ | refine Below.alloc ?_ (by first | exact Nat.le_refl _ | (simp; done) | (simp; omega) | omega) _ | refine Below.setCell ?_ (by first | exact Nat.le_refl _ | (simp; done) | (simp; omega) | omega) _ | refine Below.trans ?_ (Below.mono (by assumption) (by first | exact Nat.le_refl _ | (simp; done) | (simp; omega) | omega))))⟩
set_option maxHeartbeats 400000 in
theorem check1_no (v m : BitVec 64) (b c : Nat) (w : World) (_hbw : b < w.heap.size) (h0 : w.cell? ⟨b, 0, none⟩ = some (U v)) (h1 : w.cell? ⟨b, 1, none⟩ = some (U m)) (hr : eqb (band v m) zero = false) :
  Calls Tryz.prog 98 #[.slice (some ⟨b, 0, none⟩) 1 c] w fun e w' => e = .returned (N 1) ∧ Below w.heap.size w w' := by
 go_enter Tryz.func98, Tryz.ntmps98
 go_wp2
 go_rounds 1
 go_ret
 exact ⟨rfl, (by repeat (first | exact Below.refl _ _ | assumption | refine below_drewN ?_ _ | refine Below.drew ?_ | refine Below.alloc ?_ (by first | exact Nat.le_refl _ | (simp; done) | (simp; omega) | omega) _ | refine Below.setCell ?_ (by first | exact Nat.le_refl _ | (simp; done) | (simp; omega) | omega) _ | refine Below.trans ?_ (Below.mono (by assumption) (by first | exact Nat.le_refl _ | (simp; done) | (simp; omega) | omega))))⟩
set_option maxHeartbeats 400000 in
theorem check2_ok (v m v' m' : BitVec 64) (b c : Nat) (w : World) (hbw : b < w.heap.size) (h0 : w.cell? ⟨b, 0, none⟩ = some (U v)) (h1 : w.cell? ⟨b, 1, none⟩ = some (U m)) (h2 : w.cell? ⟨b, 2, none⟩ = some (U v')) (h3 : w.cell? ⟨b, 3, none⟩ = some (U m'))
  (hr : eqb (band v m) zero = true) (hr' : eqb (band v' m') zero = true) :
  Calls Tryz.prog 98 #[.slice (some ⟨b, 0, none⟩) 2 c] w fun e w' => e = .returned (N 0) ∧ Below w.heap.size w w' := by
 go_enter Tryz.func98, Tryz.ntmps98
 go_wp2
 refine wp_loop_rounds 3 ?_
 rw [rounds_succ]; go_wp2
 rw [rounds_succ]; go_wp2
 rw [rounds_succ]; go_wp2
 go_ret
 exact ⟨rfl, (by repeat (first | exact Below.refl _ _ | assumption | refine below_drewN ?_ _ | refine Below.drew ?_ | refine Below.alloc ?_ (by first | exact Nat.le_refl _ | (simp; done) | (simp; omega) | omega) _ | refine Below.setCell ?_ (by first | exact Nat.le_refl _ | (simp; done) | (simp; omega) | omega) _ | refine Below.trans ?_ (Below.mono (by assumption) (by first | exact Nat.le_refl _ | (simp; done) | (simp; omega) | omega))))⟩
set_option maxHeartbeats 400000 in
theorem check2_no (v m v' m' : BitVec 64) (b c : Nat) (w : World) (hbw : b < w.heap.size) (h0 : w.cell? ⟨b, 0, none⟩ = some (U v)) (h1 : w.cell? ⟨b, 1, none⟩ = some (U m)) (h2 : w.cell? ⟨b, 2, none⟩ = some (U v')) (h3 : w.cell? ⟨b, 3, none⟩ = some (U m'))
  (hr : (eqb (band v m) zero && eqb (band v' m') zero) = false) :
  Calls Tryz.prog 98 #[.slice (some ⟨b, 0, none⟩) 2 c] w fun e w' => e = .returned (N 1) ∧ Below w.heap.size w w' := by
 cases hv : eqb (band v m) zero
 ·clear hr
  go_enter Tryz.func98, Tryz.ntmps98
  go_wp2
  refine wp_loop_rounds 3 ?_
  rw [rounds_succ]; go_wp2
  go_ret
  exact ⟨rfl, (by repeat (first | exact Below.refl _ _ | assumption | refine below_drewN ?_ _ | refine Below.drew ?_ | refine Below.alloc ?_ (by first | exact Nat.le_refl _ | (simp; done) | (simp; omega) | omega) _ | refine Below.setCell ?_ (by first | exact Nat.le_refl _ | (simp; done) | (simp; omega) | omega) _ | refine Below.trans ?_ (Below.mono (by assumption) (by first | exact Nat.le_refl _ | (simp; done) | (simp; omega) | omega))))⟩
 ·have hr' : eqb (band v' m') zero = false := by rw [hv] at hr; simpa using hr
  clear hr
  go_enter Tryz.func98, Tryz.ntmps98
  go_wp2
  refine wp_loop_rounds 3 ?_
  rw [rounds_succ]; go_wp2
  rw [rounds_succ]; go_wp2
  go_ret
  exact ⟨rfl, (by repeat (first | exact Below.refl _ _ | assumption | refine below_drewN ?_ _ | refine Below.drew ?_ | refine Below.alloc ?_ (by first | exact Nat.le_refl _ | (simp; done) | (simp; omega) | omega) _ | refine Below.setCell ?_ (by first | exact Nat.le_refl _ | (simp; done) | (simp; omega) | omega) _ | refine Below.trans ?_ (Below.mono (by assumption) (by first | exact Nat.le_refl _ | (simp; done) | (simp; omega) | omega))))⟩
/- what 'Check' says -/
def er (b : Bool) : Int := if b then 0 else 1
theorem er_t : er true = 0 := rfl
theorem er_f : er false = 1 := rfl
theorem check1_is {v m : BitVec 64} {r : Bool} (hr : Hid (eqb (band v m) zero = r)) {b c : Nat} {w : World} (hbw : b < w.heap.size) (h0 : w.cell? ⟨b, 0, none⟩ = some (U v)) (h1 : w.cell? ⟨b, 1, none⟩ = some (U m)) :
  Calls Tryz.prog 98 #[.slice (some ⟨b, 0, none⟩) 1 c] w fun e w' => e = .returned (N (er r)) ∧ Below w.heap.size w w' := by
 cases r
 ·exact check1_no v m b c w hbw h0 h1 hr.out
 ·exact check1_ok v m b c w hbw h0 h1 hr.out
theorem check2_is {v m v' m' : BitVec 64} {r : Bool} (hr : Hid ((eqb (band v m) zero && eqb (band v' m') zero) = r)) {b c : Nat} {w : World} (hbw : b < w.heap.size) (h0 : w.cell? ⟨b, 0, none⟩ = some (U v)) (h1 : w.cell? ⟨b, 1, none⟩ = some (U m)) (h2 : w.cell? ⟨b, 2, none⟩ = some (U v')) (h3 : w.cell? ⟨b, 3, none⟩ = some (U m')) :
  Calls Tryz.prog 98 #[.slice (some ⟨b, 0, none⟩) 2 c] w fun e w' => e = .returned (N (er r)) ∧ Below w.heap.size w w' := by
 cases r
 ·exact check2_no v m v' m' b c w hbw h0 h1 h2 h3 hr.out
 ·have h := hr.out
  rw [Bool.and_eq_true] at h
  exact check2_ok v m v' m' b c w hbw h0 h1 h2 h3 h.1 h.2
set_option maxHeartbeats 400000 in
theorem check_any {v m : BitVec 64} {r : Bool} (hr : Hid (eqb (band v m) zero = r)) (w : World) :
  Calls Tryz.prog 131 #[Bt v m] w fun e w' => e = .returned (N (er r)) ∧ Below w.heap.size w w' := by
 go_enter Tryz.func131, Tryz.ntmps131
 go_wp2_with fail
 refine (check1_is hr (by simp) (by simp [go_sem]) (by simp [go_sem])).mono ?_
 rintro e w1 ⟨rfl, hb1⟩
 go_wp2_with fail
 go_ret
 exact ⟨rfl, (by repeat (first | exact Below.refl _ _ | assumption | refine below_drewN ?_ _ | refine Below.drew ?_ | refine Below.alloc ?_ (by first | exact Nat.le_refl _ | (simp; done) | (simp; omega) | omega) _ | refine Below.setCell ?_ (by first | exact Nat.le_refl _ | (simp; done) | (simp; omega) | omega) _ | refine Below.trans ?_ (Below.mono (by assumption) (by first | exact Nat.le_refl _ | (simp; done) | (simp; omega) | omega))))⟩
set_option maxHeartbeats 400000 in
theorem has_any (v m x : BitVec 64) (w : World) :
  Calls Tryz.prog 62 #[Bt v m, U x] w fun e w' => e = .returned (.bool (hasB v m x)) ∧ Below w.heap.size w w' := by
 have Hh : Hid (hasB v m x = (eqb (band v m) zero && eqb (bandn x m) v)) := rfl
 cases hr : eqb (band v m) zero
 all_goals
  rw [hr] at Hh
  have Hr : Hid (eqb (band v m) zero = _) := hr
  clear hr
  go_enter Tryz.func62, Tryz.ntmps62
  go_wp2_with fail
  refine (check1_is Hr (by simp) (by simp [go_sem]) (by simp [go_sem])).mono ?_
  rintro e w1 ⟨rfl, hb1⟩
  obtain ⟨hc1, hf1, hs1⟩ := bk (w.heap.size + 1) hb1 (by simp)
  first | rw [er_t] | rw [er_f]
  go_wp2_with fail
  go_ret
  rw [Hh.out]
  exact ⟨rfl, (by repeat (first | exact Below.refl _ _ | assumption | refine below_drewN ?_ _ | refine Below.drew ?_ | refine Below.alloc ?_ (by first | exact Nat.le_refl _ | (simp; done) | (simp; omega) | omega) _ | refine Below.setCell ?_ (by first | exact Nat.le_refl _ | (simp; done) | (simp; omega) | omega) _ | refine Below.trans ?_ (Below.mono (by assumption) (by first | exact Nat.le_refl _ | (simp; done) | (simp; omega) | omega))))⟩
def insB (av am bv bm : BitVec 64) : Bool := (eqb (band av am) zero && eqb (band bv bm) zero) && (eqb (bandn am bm) zero && eqb (bandn av bm) bv)
set_option maxHeartbeats 400000 in
theorem inside_any (av am bv bm : BitVec 64) (w : World) :
  Calls Tryz.prog 64 #[Bt av am, Bt bv bm] w fun e w' => e = .returned (.bool (insB av am bv bm)) ∧ Below w.heap.size w w' := by
 have Hh : Hid (insB av am bv bm = ((eqb (band av am) zero && eqb (band bv bm) zero) && (eqb (bandn am bm) zero && eqb (bandn av bm) bv))) := rfl
 cases hr : (eqb (band av am) zero && eqb (band bv bm) zero)
 ·rw [hr] at Hh
  have Hr : Hid _ := hr
  clear hr
  go_enter Tryz.func64, Tryz.ntmps64
  go_wp2_with fail
  refine (check2_is Hr (by simp) (by simp [go_sem]) (by simp [go_sem]) (by simp [go_sem]) (by simp [go_sem])).mono ?_
  rintro e w1 ⟨rfl, hb1⟩
  obtain ⟨hc1, hf1, hs1⟩ := bk (w.heap.size + 1 + 1) hb1 (by simp)
  first | rw [er_t] | rw [er_f]
  go_wp2_with fail
  go_ret
  rw [Hh.out]
  exact ⟨rfl, (by repeat (first | exact Below.refl _ _ | assumption | refine below_drewN ?_ _ | refine Below.drew ?_ | refine Below.alloc ?_ (by first | exact Nat.le_refl _ | (simp; done) | (simp; omega) | omega) _ | refine Below.setCell ?_ (by first | exact Nat.le_refl _ | (simp; done) | (simp; omega) | omega) _ | refine Below.trans ?_ (Below.mono (by assumption) (by first | exact Nat.le_refl _ | (simp; done) | (simp; omega) | omega))))⟩
 ·rw [hr] at Hh
  have Hr : Hid _ := hr
  clear hr
  cases hm : eqb (bandn am bm) zero
  all_goals
   rw [hm] at Hh
   go_enter Tryz.func64, Tryz.ntmps64
   go_wp2_with fail
   refine (check2_is Hr (by simp) (by simp [go_sem]) (by simp [go_sem]) (by simp [go_sem]) (by simp [go_sem])).mono ?_
   rintro e w1 ⟨rfl, hb1⟩
   obtain ⟨hc1, hf1, hs1⟩ := bk (w.heap.size + 1 + 1) hb1 (by simp)
   first | rw [er_t] | rw [er_f]
   go_wp2_with fail
   go_ret
   rw [Hh.out]
   exact ⟨rfl, (by repeat (first | exact Below.refl _ _ | assumption | refine below_drewN ?_ _ | refine Below.drew ?_ | refine Below.alloc ?_ (by first | exact Nat.le_refl _ | (simp; done) | (simp; omega) | omega) _ | refine Below.setCell ?_ (by first | exact Nat.le_refl _ | (simp; done) | (simp; omega) | omega) _ | refine Below.trans ?_ (Below.mono (by assumption) (by first | exact Nat.le_refl _ | (simp; done) | (simp; omega) | omega))))⟩
def jM (av am bv bm : BitVec 64) : BitVec 64 := bor (bor am bm) (bxor av bv)
set_option maxHeartbeats 400000 in
theorem join_ok {av am bv bm : BitVec 64} (hr : Hid ((eqb (band av am) zero && eqb (band bv bm) zero) = true)) (w : World) :
  Calls Tryz.prog 117 #[Bt av am, Bt bv bm] w fun e w' => e = .returned (.tuple #[Bt (bandn av (jM av am bv bm)) (jM av am bv bm), N 0]) ∧ Below w.heap.size w w' := by
 go_enter Tryz.func117, Tryz.ntmps117
 go_wp2_with fail
 refine (check2_is hr (by simp) (by simp [go_sem]) (by simp [go_sem]) (by simp [go_sem]) (by simp [go_sem])).mono ?_
 rintro e w1 ⟨rfl, hb1⟩
 obtain ⟨hc1, hf1, hs1⟩ := bk (w.heap.size + 1 + 1 + 1) hb1 (by simp)
 first | rw [er_t] | rw [er_f]
 go_wp2_with fail
 refine (without_any _ _ _).mono ?_
 rintro e w2 ⟨rfl, hb2⟩
 obtain ⟨hc2, hf2, hs2⟩ := bk (w.heap.size + 1 + 1 + 1) hb2 (by omega)
 go_wp2_with fail
 exact bodyPost_ret (v := .tuple #[Bt (bandn av (jM av am bv bm)) (jM av am bv bm), N 0]) (by simp [results, Tryz.results117, go_sem, hc1, hc2, jM]) rfl ⟨rfl, (by repeat (first | exact Below.refl _ _ | assumption | refine below_drewN ?_ _ | refine Below.drew ?_ | refine Below.alloc ?_ (by first | exact Nat.le_refl _ | (simp; done) | (simp; omega) | omega) _ | refine Below.setCell ?_ (by first | exact Nat.le_refl _ | (simp; done) | (simp; omega) | omega) _ | refine Below.trans ?_ (Below.mono (by assumption) (by first | exact Nat.le_refl _ | (simp; done) | (simp; omega) | omega))))⟩
set_option maxHeartbeats 400000 in
theorem meet_no {av am bv bm : BitVec 64} (hr : Hid ((eqb (band av am) zero && eqb (band bv bm) zero) = true)) (hm : eqb (bandn (bxor av bv) (bor am bm)) zero = false) (w : World) :
  Calls Tryz.prog 107 #[Bt av am, Bt bv bm] w fun e w' => e = .returned (.tuple #[Bt zero zero, .bool false, N 0]) ∧ Below w.heap.size w w' := by
 go_enter Tryz.func107, Tryz.ntmps107
 go_wp2_with fail
 refine (check2_is hr (by simp) (by simp [go_sem]) (by simp [go_sem]) (by simp [go_sem]) (by simp [go_sem])).mono ?_
 rintro e w1 ⟨rfl, hb1⟩
 obtain ⟨hc1, hf1, hs1⟩ := bk (w.heap.size + 1 + 1 + 1) hb1 (by simp)
 first | rw [er_t] | rw [er_f]
 go_wp2_with fail
 exact bodyPost_ret (v := .tuple #[Bt zero zero, .bool false, N 0]) (by simp [results, Tryz.results107, go_sem, hc1, nv_zero]) rfl ⟨rfl, (by repeat (first | exact Below.refl _ _ | assumption | refine below_drewN ?_ _ | refine Below.drew ?_ | refine Below.alloc ?_ (by first | exact Nat.le_refl _ | (simp; done) | (simp; omega) | omega) _ | refine Below.setCell ?_ (by first | exact Nat.le_refl _ | (simp; done) | (simp; omega) | omega) _ | refine Below.trans ?_ (Below.mono (by assumption) (by first | exact Nat.le_refl _ | (simp; done) | (simp; omega) | omega))))⟩
set_option maxHeartbeats 400000 in
theorem meet_ok {av am bv bm : BitVec 64} (hr : Hid ((eqb (band av am) zero && eqb (band bv bm) zero) = true)) (hm : eqb (bandn (bxor av bv) (bor am bm)) zero = true) (w : World) :
  Calls Tryz.prog 107 #[Bt av am, Bt bv bm] w fun e w' => e = .returned (.tuple #[Bt (bor av bv) (band am bm), .bool true, N 0]) ∧ Below w.heap.size w w' := by
 go_enter Tryz.func107, Tryz.ntmps107
 go_wp2_with fail
 refine (check2_is hr (by simp) (by simp [go_sem]) (by simp [go_sem]) (by simp [go_sem]) (by simp [go_sem])).mono ?_
 rintro e w1 ⟨rfl, hb1⟩
 obtain ⟨hc1, hf1, hs1⟩ := bk (w.heap.size + 1 + 1 + 1) hb1 (by simp)
 first | rw [er_t] | rw [er_f]
 go_wp2_with fail
 exact bodyPost_ret (v := .tuple #[Bt (bor av bv) (band am bm), .bool true, N 0]) (by simp [results, Tryz.results107, go_sem, hc1]) rfl ⟨rfl, (by repeat (first | exact Below.refl _ _ | assumption | refine below_drewN ?_ _ | refine Below.drew ?_ | refine Below.alloc ?_ (by first | exact Nat.le_refl _ | (simp; done) | (simp; omega) | omega) _ | refine Below.setCell ?_ (by first | exact Nat.le_refl _ | (simp; done) | (simp; omega) | omega) _ | refine Below.trans ?_ (Below.mono (by assumption) (by first | exact Nat.le_refl _ | (simp; done) | (simp; omega) | omega))))⟩
end
theorem tab_get (n : Nat) (h : n < Lib.len8tab.size) : ((Lib.len8tab[n]'h).toNat : Int) = Lib.bitLen n := by
 have hn : n < 256 := by have := Lib.len8tab_size; omega
 have e := Lib.len8_eq ⟨n, hn⟩
 simp only [Lib.len8, Int.toNat_natCast] at e
 rw [← e, getElem?_pos Lib.len8tab n h]; rfl
/- a byte b of x that lies s bits up, the highest that is not 0 -/
theorem len_at1 (x : Int) (s d : Nat) (b : Int) (hx0 : 0 ≤ x)  (hd : d = 2 ^ s) (hb : b = x / d) : b.toNat = x.toNat / 2 ^ s := by
 rw [hb, ← hd]
 obtain ⟨X, rfl⟩ := Int.eq_ofNat_of_zero_le hx0
 rw [← Int.natCast_ediv, Int.toNat_natCast, Int.toNat_natCast]
theorem len_at2 (x : Int) (s d : Nat) (b : Int) (hx0 : 0 ≤ x) (hx : x ≤ 18446744073709551615) (hd : d = 2 ^ s)
  (hbn : b.toNat = x.toNat / 2 ^ s) (hlow : s = 0 ∨ (d : Int) ≤ x) : Lib.bitLen x.toNat = s + Lib.bitLen b.toNat := by
 rcases hlow with h0 | h1
 ·rw [hbn, h0, Nat.pow_zero, Nat.div_one, Nat.zero_add]
 ·rw [hbn]
  exact Lib.bitLen_shift s x.toNat (by rw [← hd]; omega) (by omega)
theorem len_at3 (s q : Nat) (hs : s ≤ 56) (l8 : q ≤ 8) : wrap64 (s + wrap64 q) = ((s + q : Nat) : Int) := by
 unfold wrap64
 omega
theorem len_at (x : Int) (s d : Nat) (b t : Int) (hx0 : 0 ≤ x) (hx : x ≤ 18446744073709551615) (hd : d = 2 ^ s) (hs : s ≤ 56)
  (hb : b = x / d) (hb0 : 0 ≤ b) (hb8 : b ≤ 255) (hlow : s = 0 ∨ (d : Int) ≤ x) (ht : t = (Lib.bitLen b.toNat : Int)) : wrap64 (s + wrap64 t) = (Lib.bitLen x.toNat : Int) := by
 rw [ht, len_at3 s _ hs (Lib.bitLen_le8' b hb0 hb8), len_at2 x s d b hx0 hx hd (len_at1 x s d b hx0 hd hb) hlow]
set_option maxRecDepth 100000 in
set_option maxHeartbeats 4000000 in
theorem len64_any (x : Int) (w : World) (h0 : 0 ≤ x) (h1 : x ≤ 18446744073709551615) :
  Calls Tryz.prog 99 #[.int .u64 x] w fun e w' => e = .returned (N (Lib.bitLen x.toNat)) ∧ w = w' := by
 have hsz := Lib.len8tab_size
 go_enter Tryz.func99, Tryz.ntmps99
 go_wp2
 all_goals go_ret
 all_goals refine ⟨congrArg Ending.returned (congrArg (Value.int IntKind.i64) ?_), rfl⟩
 ·exact len_at x 56 72057594037927936 _ _ h0 h1 (by decide) (by omega) (by omega) (by omega) (by omega) (by omega) (tab_get _ _)
 ·exact len_at x 48 281474976710656 _ _ h0 h1 (by decide) (by omega) (by omega) (by omega) (by omega) (by omega) (tab_get _ _)
 ·exact len_at x 40 1099511627776 _ _ h0 h1 (by decide) (by omega) (by omega) (by omega) (by omega) (by omega) (tab_get _ _)
 ·exact len_at x 32 4294967296 _ _ h0 h1 (by decide) (by omega) (by omega) (by omega) (by omega) (by omega) (tab_get _ _)
 ·exact len_at x 24 16777216 _ _ h0 h1 (by decide) (by omega) (by omega) (by omega) (by omega) (by omega) (tab_get _ _)
 ·exact len_at x 16 65536 _ _ h0 h1 (by decide) (by omega) (by omega) (by omega) (by omega) (by omega) (tab_get _ _)
 ·exact len_at x 8 256 _ _ h0 h1 (by decide) (by omega) (by omega) (by omega) (by omega) (by omega) (tab_get _ _)
 ·have := len_at x 0 1 x _ h0 h1 (by decide) (by omega) (by omega) (by omega) (by omega) (by omega) (tab_get x.toNat (by omega))
  simpa using this
section
attribute [local go_sem] w_and w_or w_xor w_andNot w_and1 w_and63 w_add w_sub w_mul w_sub1 w_add1 w_shl w_shl1 w_shr c_beq c_bne c_beq0 c_bne0 c_beq1 c_bne1 wrap_nv
def blen (x : BitVec 64) : Nat := Lib.bitLen (nv x).toNat
def lowMask (n : Nat) : BitVec 64 := bsub (bshl one n) one
theorem blen_le (x : BitVec 64) : blen x ≤ 64 := by
 unfold blen nv
 have := x.isLt
 exact Lib.bitLen_le _ 64 (Nat.le_refl _) (by rw [Int.toNat_natCast]; exact this)
theorem len_u (x : BitVec 64) (w : World) : Calls Tryz.prog 99 #[U x] w fun e w' => e = .returned (N (blen x)) ∧ w = w' :=
 len64_any (nv x) w (nv_nonneg x) (by have := nv_lt x; omega)
set_option maxHeartbeats 400000 in
theorem span_no {l h : BitVec 64} (hl : nv h < nv l) (w : World) :
  Calls Tryz.prog 63 #[U l, U h] w fun e w' => e = .returned (.tuple #[Bt zero zero, N 3]) ∧ Below w.heap.size w w' := by
 go_enter Tryz.func63, Tryz.ntmps63
 go_wp2_with fail
 exact bodyPost_ret (v := .tuple #[Bt zero zero, N 3]) (by simp [results, Tryz.results63, go_sem, nv_zero]) rfl ⟨rfl, (by repeat (first | exact Below.refl _ _ | assumption | refine below_drewN ?_ _ | refine Below.drew ?_ | refine Below.alloc ?_ (by first | exact Nat.le_refl _ | (simp; done) | (simp; omega) | omega) _ | refine Below.setCell ?_ (by first | exact Nat.le_refl _ | (simp; done) | (simp; omega) | omega) _ | refine Below.trans ?_ (Below.mono (by assumption) (by first | exact Nat.le_refl _ | (simp; done) | (simp; omega) | omega))))⟩
def sM (l h : BitVec 64) : BitVec 64 := lowMask (blen (bxor l h))
set_option maxHeartbeats 400000 in
theorem span_ok {l h : BitVec 64} (hl : nv l ≤ nv h) (w : World) :
  Calls Tryz.prog 63 #[U l, U h] w fun e w' => e = .returned (.tuple #[Bt (bandn l (sM l h)) (sM l h), N 0]) ∧ Below w.heap.size w w' := by
 have hL := blen_le (bxor l h)
 have Hs : Hid (sM l h = lowMask (blen (bxor l h))) := rfl
 have hc := len_u (bxor l h)
 have Hc : Hid _ := hc
 clear hc
 generalize hx : blen (bxor l h) = L at hL Hs Hc
 clear hx
 go_enter Tryz.func63, Tryz.ntmps63
 go_wp2_with fail
 refine (Hc.out _).mono ?_
 rintro e w1 ⟨rfl, rfl⟩
 go_wp2_with fail
 refine (without_any _ _ _).mono ?_
 rintro e w2 ⟨rfl, hb2⟩
 obtain ⟨hc2, hf2, hs2⟩ := bk (w.heap.size + 1) hb2 (by simp)
 go_wp2_with fail
 rw [Hs.out]
 exact bodyPost_ret (v := .tuple #[Bt (bandn l (lowMask L)) (lowMask L), N 0]) (by simp [results, Tryz.results63, go_sem, hc2, lowMask]) rfl ⟨rfl, (by repeat (first | exact Below.refl _ _ | assumption | refine below_drewN ?_ _ | refine Below.drew ?_ | refine Below.alloc ?_ (by first | exact Nat.le_refl _ | (simp; done) | (simp; omega) | omega) _ | refine Below.setCell ?_ (by first | exact Nat.le_refl _ | (simp; done) | (simp; omega) | omega) _ | refine Below.trans ?_ (Below.mono (by assumption) (by first | exact Nat.le_refl _ | (simp; done) | (simp; omega) | omega))))⟩
/- add, sub, and, or -/
def addM (av am bv bm : BitVec 64) : BitVec 64 := bor (bor (bxor (badd av bv) (badd (badd (badd av bv) am) bm)) am) bm
set_option maxHeartbeats 400000 in
theorem add_any (av am bv bm : BitVec 64) (w : World) :
  Calls Tryz.prog 138 #[Bt av am, Bt bv bm] w fun e w' => e = .returned (Bt (bandn (badd av bv) (addM av am bv bm)) (addM av am bv bm)) ∧ Below w.heap.size w w' := by
 go_enter Tryz.func138, Tryz.ntmps138
 go_wp2_with fail
 refine (without_any _ _ _).mono ?_
 rintro e w2 ⟨rfl, hb2⟩
 obtain ⟨hc2, hf2, hs2⟩ := bk (w.heap.size + 1 + 1 + 1) hb2 (by simp)
 go_wp2_with fail
 exact bodyPost_ret (v := Bt (bandn (badd av bv) (addM av am bv bm)) (addM av am bv bm)) (by simp [results, Tryz.results138, go_sem, hc2, addM]) rfl ⟨rfl, (by repeat (first | exact Below.refl _ _ | assumption | refine below_drewN ?_ _ | refine Below.drew ?_ | refine Below.alloc ?_ (by first | exact Nat.le_refl _ | (simp; done) | (simp; omega) | omega) _ | refine Below.setCell ?_ (by first | exact Nat.le_refl _ | (simp; done) | (simp; omega) | omega) _ | refine Below.trans ?_ (Below.mono (by assumption) (by first | exact Nat.le_refl _ | (simp; done) | (simp; omega) | omega))))⟩
def subM (av am bv bm : BitVec 64) : BitVec 64 := bor (bor (bxor (badd (bsub av bv) am) (bsub (bsub av bv) bm)) am) bm
set_option maxHeartbeats 400000 in
theorem sub_any (av am bv bm : BitVec 64) (w : World) :
  Calls Tryz.prog 139 #[Bt av am, Bt bv bm] w fun e w' => e = .returned (Bt (bandn (bsub av bv) (subM av am bv bm)) (subM av am bv bm)) ∧ Below w.heap.size w w' := by
 go_enter Tryz.func139, Tryz.ntmps139
 go_wp2_with fail
 refine (without_any _ _ _).mono ?_
 rintro e w2 ⟨rfl, hb2⟩
 obtain ⟨hc2, hf2, hs2⟩ := bk (w.heap.size + 1 + 1 + 1) hb2 (by simp)
 go_wp2_with fail
 exact bodyPost_ret (v := Bt (bandn (bsub av bv) (subM av am bv bm)) (subM av am bv bm)) (by simp [results, Tryz.results139, go_sem, hc2, subM]) rfl ⟨rfl, (by repeat (first | exact Below.refl _ _ | assumption | refine below_drewN ?_ _ | refine Below.drew ?_ | refine Below.alloc ?_ (by first | exact Nat.le_refl _ | (simp; done) | (simp; omega) | omega) _ | refine Below.setCell ?_ (by first | exact Nat.le_refl _ | (simp; done) | (simp; omega) | omega) _ | refine Below.trans ?_ (Below.mono (by assumption) (by first | exact Nat.le_refl _ | (simp; done) | (simp; omega) | omega))))⟩
set_option maxHeartbeats 400000 in
theorem and_any (av am bv bm : BitVec 64) (w : World) :
  Calls Tryz.prog 141 #[Bt av am, Bt bv bm] w fun e w' => e = .returned (Bt (band av bv) (bandn (band (bor av am) (bor bv bm)) (band av bv))) ∧ Below w.heap.size w w' := by
 go_enter Tryz.func141, Tryz.ntmps141
 go_wp2
 exact bodyPost_ret (v := Bt (band av bv) (bandn (band (bor av am) (bor bv bm)) (band av bv))) (by simp [results, Tryz.results141, go_sem]) rfl ⟨rfl, (by repeat (first | exact Below.refl _ _ | assumption | refine below_drewN ?_ _ | refine Below.drew ?_ | refine Below.alloc ?_ (by first | exact Nat.le_refl _ | (simp; done) | (simp; omega) | omega) _ | refine Below.setCell ?_ (by first | exact Nat.le_refl _ | (simp; done) | (simp; omega) | omega) _ | refine Below.trans ?_ (Below.mono (by assumption) (by first | exact Nat.le_refl _ | (simp; done) | (simp; omega) | omega))))⟩
set_option maxHeartbeats 400000 in
theorem or_any (av am bv bm : BitVec 64) (w : World) :
  Calls Tryz.prog 142 #[Bt av am, Bt bv bm] w fun e w' => e = .returned (Bt (bor av bv) (bandn (bor am bm) (bor av bv))) ∧ Below w.heap.size w w' := by
 go_enter Tryz.func142, Tryz.ntmps142
 go_wp2
 exact bodyPost_ret (v := Bt (bor av bv) (bandn (bor am bm) (bor av bv))) (by simp [results, Tryz.results142, go_sem]) rfl ⟨rfl, (by repeat (first | exact Below.refl _ _ | assumption | refine below_drewN ?_ _ | refine Below.drew ?_ | refine Below.alloc ?_ (by first | exact Nat.le_refl _ | (simp; done) | (simp; omega) | omega) _ | refine Below.setCell ?_ (by first | exact Nat.le_refl _ | (simp; done) | (simp; omega) | omega) _ | refine Below.trans ?_ (Below.mono (by assumption) (by first | exact Nat.le_refl _ | (simp; done) | (simp; omega) | omega))))⟩
end
section
attribute [local go_sem] w_and w_or w_xor w_andNot w_and1 w_and63 w_add w_sub w_mul w_sub1 w_add1 w_shl w_shl1 w_shr c_beq c_bne c_beq0 c_bne0 c_beq1 c_bne1 wrap_nv
def addP (a b : BitVec 64 × BitVec 64) : BitVec 64 × BitVec 64 := (bandn (badd a.1 b.1) (addM a.1 a.2 b.1 b.2), addM a.1 a.2 b.1 b.2)
def mulS (av am bv bm : BitVec 64) : Nat → BitVec 64 × BitVec 64
 | 0 => (zero, zero)
 | k + 1 => if bit av k then addP (mulS av am bv bm k) (bshl bv k, bshl bm k)
  else if bit am k then addP (mulS av am bv bm k) (zero, bor (bshl bv k) (bshl bm k)) else mulS av am bv bm k
set_option maxHeartbeats 1000000 in
theorem mul_any (av am bv bm : BitVec 64) (w : World) :
  Calls Tryz.prog 140 #[Bt av am, Bt bv bm] w fun e w' => e = .returned (Bt (mulS av am bv bm 64).1 (mulS av am bv bm 64).2) ∧ Below w.heap.size w w' := by
 go_enter Tryz.func140, Tryz.ntmps140
 go_wp2
 go_loopw [6] (fun i wr => ∃ k : Nat, k ≤ 64 ∧ i = .int .u64 k
   ∧ Below (w.heap.size + 1 + 1 + 1) (((w.alloc (.cells #[U av, U am] 27)).alloc (.cells #[U bv, U bm] 27)).alloc (.cells #[.int .u64 0, .int .u64 0] 27)) wr
   ∧ wr.cell? ⟨w.heap.size + 1 + 1 + 1, 0, none⟩ = some (U (mulS av am bv bm k).1) ∧ wr.cell? ⟨w.heap.size + 1 + 1 + 1, 1, none⟩ = some (U (mulS av am bv bm k).2)
   ∧ (∀ o, wr.frozen? ⟨w.heap.size + 1 + 1 + 1, o, none⟩ = false)
   ∧ w.heap.size + 1 + 1 + 1 + 1 ≤ wr.heap.size) (fun i _ => 64 - (intOf i).toNat)
 case atStart =>
  exact ⟨0, by omega, rfl, (by repeat (first | exact Below.refl _ _ | assumption | refine below_drewN ?_ _ | refine Below.drew ?_ | refine Below.alloc ?_ (by first | exact Nat.le_refl _ | (simp; done) | (simp; omega) | omega) _ | refine Below.setCell ?_ (by first | exact Nat.le_refl _ | (simp; done) | (simp; omega) | omega) _ | refine Below.trans ?_ (Below.mono (by assumption) (by first | exact Nat.le_refl _ | (simp; done) | (simp; omega) | omega)))), by simp [mulS, nv_zero, go_sem], by simp [mulS, nv_zero, go_sem], by simp [go_sem], by simp⟩
 case round =>
  obtain ⟨k, hk, rfl, hbel, ho0, ho1, hfo, hsz⟩ := hrel
  obtain ⟨hc, hf⟩ := bl hbel
  by_cases hlt : k < 64
  ·have hA := shr_and1 av k
   have hM := shr_and1 am k
   have Hs : Hid (mulS av am bv bm (k + 1) = if bit av k then addP (mulS av am bv bm k) (bshl bv k, bshl bm k)
    else if bit am k then addP (mulS av am bv bm k) (zero, bor (bshl bv k) (bshl bm k)) else mulS av am bv bm k) := rfl
   generalize mulS av am bv bm k = S at ho0 ho1 Hs
   obtain ⟨sv, sm⟩ := S
   simp only at ho0 ho1
   obtain ⟨bA, hbA⟩ : ∃ b, b = bit av k := ⟨_, rfl⟩
   obtain ⟨bM, hbM⟩ : ∃ b, b = bit am k := ⟨_, rfl⟩
   rw [← hbA] at hA Hs
   rw [← hbM] at hM Hs
   clear hbA hbM
   go_wp2_with fail
   refine (up_any _ _ k hlt _).mono ?_
   rintro e w1 ⟨rfl, hb1⟩
   obtain ⟨hc1, hf1, hs1⟩ := bk _ hb1 hsz
   have hlt1 : w.heap.size + 1 + 1 + 1 < w1.heap.size := by omega
   have hlt2 : w.heap.size + 1 + 1 < w1.heap.size := by omega
   have hlt3 : w.heap.size + 1 < w1.heap.size := by omega
   have hlt4 : w.heap.size < w1.heap.size := by omega
   cases bA
   ·cases bM
    ·go_wp2_with fail
     exact ⟨⟨k + 1, by omega, by go_num, keep_rel hbel (hb1.trans (((Below.refl _ _).alloc (Nat.le_refl _) _).mono hb1.size)) hsz ho0 ho1 hfo (by rw [Hs.out]; rfl) (by rw [Hs.out]; rfl)⟩, by simp [intOf]; omega⟩
    ·go_wp2_with fail
     refine (add_any sv sm zero (bor (bshl bv k) (bshl bm k)) _).mono ?_
     rintro e w2 ⟨rfl, hb2⟩
     obtain ⟨hc2, hf2, hs2⟩ := bk (w.heap.size + 1 + 1 + 1 + 1) hb2 (by simp; omega)
     go_wp2_with fail
     exact ⟨⟨k + 1, by omega, by go_num, out_rel hbel (hb1.trans ((((Below.refl _ _).alloc (Nat.le_refl _) _).trans (hb2.mono (by simp))).mono hb1.size)) hsz ho0 ho1 hfo (by rw [Hs.out]; rfl) (by rw [Hs.out]; rfl)⟩, by simp [intOf]; omega⟩
   ·go_wp2_with fail
    refine (add_any _ _ _ _ _).mono ?_
    rintro e w2 ⟨rfl, hb2⟩
    obtain ⟨hc2, hf2, hs2⟩ := bk (w.heap.size + 1 + 1 + 1 + 1) hb2 (by simp; omega)
    go_wp2_with fail
    exact ⟨⟨k + 1, by omega, by go_num, out_rel hbel (hb1.trans ((((Below.refl _ _).alloc (Nat.le_refl _) _).trans (hb2.mono (by simp))).mono hb1.size)) hsz ho0 ho1 hfo (by rw [Hs.out]; rfl) (by rw [Hs.out]; rfl)⟩, by simp [intOf]; omega⟩
  ·have hk64 : k = 64 := by omega
   subst hk64
   go_wp2_with fail
   exact bodyPost_ret (v := Bt (mulS av am bv bm 64).1 (mulS av am bv bm 64).2) (by simp [results, Tryz.results140, go_sem, hc]) rfl ⟨rfl, (by repeat (first | exact Below.refl _ _ | assumption | refine below_drewN ?_ _ | refine Below.drew ?_ | refine Below.alloc ?_ (by first | exact Nat.le_refl _ | (simp; done) | (simp; omega) | omega) _ | refine Below.setCell ?_ (by first | exact Nat.le_refl _ | (simp; done) | (simp; omega) | omega) _ | refine Below.trans ?_ (Below.mono (by assumption) (by first | exact Nat.le_refl _ | (simp; done) | (simp; omega) | omega))))⟩
/- what package bits reckons of two pairs -/
def twoP (op : Int) (av am bv bm : BitVec 64) : BitVec 64 × BitVec 64 :=
 if op = 2 then (bandn (badd av bv) (addM av am bv bm), addM av am bv bm)
 else if op = 3 then (bandn (bsub av bv) (subM av am bv bm), subM av am bv bm)
 else if op = 4 then mulS av am bv bm 64
 else if op = 5 then (band av bv, bandn (band (bor av am) (bor bv bm)) (band av bv))
 else if op = 6 then (bor av bv, bandn (bor am bm) (bor av bv))
 else (bandn (bxor av bv) (bor am bm), bor am bm)
theorem op_cases {op : Int} (h : 2 ≤ op ∧ op ≤ 7) : op = 2 ∨ op = 3 ∨ op = 4 ∨ op = 5 ∨ op = 6 ∨ op = 7 := by omega
set_option maxHeartbeats 400000 in
theorem two_ok {op : Int} {av am bv bm : BitVec 64} (hr : Hid ((eqb (band av am) zero && eqb (band bv bm) zero) = true)) (hop : 2 ≤ op ∧ op ≤ 7) (w : World) :
  Calls Tryz.prog 129 #[N op, Bt av am, Bt bv bm] w fun e w' => e = .returned (.tuple #[Bt (twoP op av am bv bm).1 (twoP op av am bv bm).2, N 0]) ∧ Below w.heap.size w w' := by
 rcases op_cases hop with rfl | rfl | rfl | rfl | rfl | rfl
 all_goals
  clear hop
  go_enter Tryz.func129, Tryz.ntmps129
  go_wp2_with fail
  refine (check2_is hr (by simp) (by simp [go_sem]) (by simp [go_sem]) (by simp [go_sem]) (by simp [go_sem])).mono ?_
  rintro e w1 ⟨rfl, hb1⟩
  obtain ⟨hc1, hf1, hs1⟩ := bk (w.heap.size + 1 + 1 + 1) hb1 (by simp)
  first | rw [er_t] | rw [er_f]
  go_wp2_with fail
  first
   | refine (add_any _ _ _ _ _).mono ?_
   | refine (sub_any _ _ _ _ _).mono ?_
   | refine (mul_any _ _ _ _ _).mono ?_
   | refine (and_any _ _ _ _ _).mono ?_
   | refine (or_any _ _ _ _ _).mono ?_
   | refine (without_any _ _ _).mono ?_
  rintro e w2 ⟨rfl, hb2⟩
  obtain ⟨hc2, hf2, hs2⟩ := bk (w.heap.size + 1 + 1 + 1) hb2 hs1
  go_wp2_with fail
  exact bodyPost_ret (v := .tuple #[Bt (twoP _ av am bv bm).1 (twoP _ av am bv bm).2, N 0]) (by simp [results, Tryz.results129, go_sem, hc1, hc2, twoP]) rfl ⟨rfl, (by repeat (first | exact Below.refl _ _ | assumption | refine below_drewN ?_ _ | refine Below.drew ?_ | refine Below.alloc ?_ (by first | exact Nat.le_refl _ | (simp; done) | (simp; omega) | omega) _ | refine Below.setCell ?_ (by first | exact Nat.le_refl _ | (simp; done) | (simp; omega) | omega) _ | refine Below.trans ?_ (Below.mono (by assumption) (by first | exact Nat.le_refl _ | (simp; done) | (simp; omega) | omega))))⟩
end
end Go.Proofs.YtkigmocchaikgabGreat
/- What the one has and the other has, reckoned together, the answer has: plain facts. -/
namespace Go.Proofs.YtkigmocchaikgabGreat
/- x is one of the numbers of (v, m), bit by bit -/
def InB (v m x : BitVec 64) : Prop := ∀ j, j < 64 → (bit x j && !bit m j) = bit v j
def RtB (v m : BitVec 64) : Prop := ∀ j, (bit v j && bit m j) = false
theorem addP_sound {a b : BitVec 64 × BitVec 64} {x y : BitVec 64} (ha : RtB a.1 a.2) (hb : RtB b.1 b.2) (hx : InB a.1 a.2 x) (hy : InB b.1 b.2 y) : InB (addP a b).1 (addP a b).2 (badd x y) :=
 add_sound ha hb hx hy _ rfl
theorem addP_rt (a b : BitVec 64 × BitVec 64) : RtB (addP a b).1 (addP a b).2 := by
 intro j
 by_cases hj : j < 64
 ·simp only [addP]; rw [bit_andn _ _ _ hj]; cases bit (badd a.1 b.1) j <;> cases bit (addM a.1 a.2 b.1 b.2) j <;> rfl
 ·rw [bit_big _ _ (by omega)]; rfl
theorem mulS_rt (av am bv bm : BitVec 64) (k : Nat) : RtB (mulS av am bv bm k).1 (mulS av am bv bm k).2 := by
 induction k with
 | zero => intro j; simp only [mulS]; rw [bit_zero]; rfl
 | succ k ih =>
  simp only [mulS]
  by_cases h1 : bit av k = true
  ·rw [if_pos h1]; exact addP_rt _ _
  ·rw [if_neg h1]
   by_cases h2 : bit am k = true
   ·rw [if_pos h2]; exact addP_rt _ _
   ·rw [if_neg h2]; exact ih
/- the product, summed up bit by bit -/
def psum (x y : BitVec 64) : Nat → BitVec 64
 | 0 => zero
 | k + 1 => if bit x k then badd (psum x y k) (bshl y k) else psum x y k
theorem psum_rec (x y : BitVec 64) (k : Nat) : psum x y (k + 1) = BitVec.mulRec y x k := by
 induction k with
 | zero =>
  simp only [psum]
  rw [BitVec.mulRec_zero_eq]
  unfold bit
  cases x.getLsbD 0 <;> simp [badd, bshl, zero]
 | succ k ih =>
  rw [psum, ih, BitVec.mulRec_succ_eq]
  unfold bit badd bshl
  cases x.getLsbD (k + 1) <;> simp
theorem psum_mul (x y : BitVec 64) : psum x y 64 = bmul x y := by
 rw [psum_rec x y 63, BitVec.mulRec_eq_mul_signExtend_setWidth]
 unfold bmul
 simp [BitVec.mul_comm]
theorem shl_in {v m y : BitVec 64} (h : InB v m y) (k : Nat) : InB (bshl v k) (bshl m k) (bshl y k) := by
 intro j hj
 rw [bit_shl _ _ _ hj, bit_shl _ _ _ hj, bit_shl _ _ _ hj]
 by_cases hk : k ≤ j
 ·have := h (j - k) (by omega)
  revert this
  cases bit y (j - k) <;> cases bit m (j - k) <;> cases bit v (j - k) <;> simp [hk]
 ·simp [hk]
theorem shl_rt {v m : BitVec 64} (h : RtB v m) (k : Nat) : RtB (bshl v k) (bshl m k) := by
 intro j
 by_cases hj : j < 64
 ·rw [bit_shl _ _ _ hj, bit_shl _ _ _ hj]
  have := h (j - k)
  revert this
  cases decide (k ≤ j) <;> cases bit v (j - k) <;> cases bit m (j - k) <;> simp
 ·rw [bit_big _ _ (by omega)]; rfl
theorem zero_rt (m : BitVec 64) : RtB zero m := by intro j; rw [bit_zero]; rfl
theorem badd_zero (x : BitVec 64) : badd x zero = x := by unfold badd zero; simp
theorem mulS_sound {av am bv bm x y : BitVec 64} (hb : RtB bv bm) (hx : InB av am x) (hy : InB bv bm y) (k : Nat) (hk : k ≤ 64) : InB (mulS av am bv bm k).1 (mulS av am bv bm k).2 (psum x y k) := by
 induction k with
 | zero => intro j hj; simp only [mulS, psum]; rw [bit_zero]; rfl
 | succ k ih =>
  have ih := ih (by omega)
  have h := hx k (by omega)
  simp only [mulS, psum]
  by_cases h1 : bit av k = true
  ·have hxk : bit x k = true := by rw [h1] at h; revert h; cases bit x k <;> simp
   rw [if_pos h1, if_pos hxk]
   exact addP_sound (mulS_rt _ _ _ _ _) (shl_rt hb k) ih (shl_in hy k)
  ·rw [if_neg h1]
   by_cases h2 : bit am k = true
   ·rw [if_pos h2]
    have hp : ∀ z, (∀ j, j < 64 → bit z j = true → bit (bor (bshl bv k) (bshl bm k)) j = true) → InB zero (bor (bshl bv k) (bshl bm k)) z := by
     intro z hz j hj
     have := hz j hj
     rw [bit_zero]
     revert this
     cases bit z j <;> cases bit (bor (bshl bv k) (bshl bm k)) j <;> simp
    by_cases hxk : bit x k = true
    ·rw [if_pos hxk]
     exact addP_sound (mulS_rt _ _ _ _ _) (zero_rt _) ih (hp _ (fun j _ h => hi_of (shl_in hy k) j h))
    ·rw [if_neg hxk]
     have := addP_sound (b := (zero, bor (bshl bv k) (bshl bm k))) (mulS_rt av am bv bm k) (zero_rt _) ih (hp zero (fun j _ h => by rw [bit_zero] at h; cases h))
     rw [badd_zero] at this
     exact this
   ·rw [if_neg h2]
    have hxk : ¬ bit x k = true := by
     intro hx1; rw [hx1] at h
     revert h h1 h2
     cases bit av k <;> cases bit am k <;> simp
    rw [if_neg hxk]
    exact ih
/- x op y, of the six operations -/
theorem two_sound {op : Int} {av am bv bm x y : BitVec 64} (hop : 2 ≤ op ∧ op ≤ 7) (ha : RtB av am) (hb : RtB bv bm) (hx : InB av am x) (hy : InB bv bm y) :
  InB (twoP op av am bv bm).1 (twoP op av am bv bm).2 (numB op x y) := by
 rcases op_cases hop with rfl | rfl | rfl | rfl | rfl | rfl
 ·exact add_sound ha hb hx hy _ rfl
 ·exact sub_sound ha hb hx hy _ rfl
 ·show InB (mulS av am bv bm 64).1 (mulS av am bv bm 64).2 (bmul x y)
  rw [← psum_mul]
  exact mulS_sound hb hx hy 64 (Nat.le_refl _)
 ·intro j hj
  show (bit (band x y) j && !bit (bandn (band (bor av am) (bor bv bm)) (band av bv)) j) = bit (band av bv) j
  rw [bit_andn _ _ _ hj, bit_and', bit_and', bit_and', bit_or, bit_or]
  have h1 := hx j hj; have h2 := hy j hj; have h3 := ha j; have h4 := hb j
  revert h1 h2 h3 h4
  cases bit x j <;> cases bit y j <;> cases bit av j <;> cases bit am j <;> cases bit bv j <;> cases bit bm j <;> simp
 ·intro j hj
  show (bit (bor x y) j && !bit (bandn (bor am bm) (bor av bv)) j) = bit (bor av bv) j
  rw [bit_andn _ _ _ hj, bit_or, bit_or, bit_or]
  have h1 := hx j hj; have h2 := hy j hj; have h3 := ha j; have h4 := hb j
  revert h1 h2 h3 h4
  cases bit x j <;> cases bit y j <;> cases bit av j <;> cases bit am j <;> cases bit bv j <;> cases bit bm j <;> simp
 ·intro j hj
  show (bit (bxor x y) j && !bit (bor am bm) j) = bit (bandn (bxor av bv) (bor am bm)) j
  rw [bit_andn _ _ _ hj, bit_or, bit_xor, bit_xor]
  have h1 := hx j hj; have h2 := hy j hj; have h3 := ha j; have h4 := hb j
  revert h1 h2 h3 h4
  cases bit x j <;> cases bit y j <;> cases bit av j <;> cases bit am j <;> cases bit bv j <;> cases bit bm j <;> simp
theorem two_rt {op : Int} {av am bv bm : BitVec 64} (hop : 2 ≤ op ∧ op ≤ 7) : RtB (twoP op av am bv bm).1 (twoP op av am bv bm).2 := by
 have hn : ∀ p q : BitVec 64, RtB (bandn p q) q := by
  intro p q j
  by_cases hj : j < 64
  ·rw [bit_andn _ _ _ hj]; cases bit p j <;> cases bit q j <;> rfl
  ·rw [bit_big _ _ (by omega)]; rfl
 have hn' : ∀ p q : BitVec 64, RtB q (bandn p q) := by
  intro p q j
  by_cases hj : j < 64
  ·rw [bit_andn _ _ _ hj]; cases bit p j <;> cases bit q j <;> rfl
  ·rw [bit_big _ _ (by omega)]; rfl
 rcases op_cases hop with rfl | rfl | rfl | rfl | rfl | rfl
 ·exact hn _ _
 ·exact hn _ _
 ·exact mulS_rt _ _ _ _ _
 ·exact hn' _ _
 ·exact hn' _ _
 ·exact hn _ _
theorem rightP {av am bv bm : BitVec 64} (hr : (eqb (band av am) zero && eqb (band bv bm) zero) = true) : (∀ j, (bit av j && bit am j) = false) ∧ (∀ j, (bit bv j && bit bm j) = false) := by
 rw [Bool.and_eq_true] at hr
 exact ⟨(right_iff _ _).1 hr.1, (right_iff _ _).1 hr.2⟩
theorem join_eq {av am bv bm : BitVec 64} (hr : (eqb (band av am) zero && eqb (band bv bm) zero) = true) :
  joinV av am bv bm 64 = bandn av (jM av am bv bm) ∧ joinM av am bv bm 64 = jM av am bv bm := by
 obtain ⟨ha, hb⟩ := rightP hr
 constructor
 ·apply acc_eq; intro j hj
  have h1 := ha j; have h2 := hb j
  simp only [mo, mz, jM, bit_andn _ _ _ hj, bit_or, bit_xor]
  revert h1 h2
  cases bit av j <;> cases bit am j <;> cases bit bv j <;> cases bit bm j <;> simp
 ·apply acc_eq; intro j hj
  have h1 := ha j; have h2 := hb j
  simp only [mo, mz, jM, bit_or, bit_xor]
  revert h1 h2
  cases bit av j <;> cases bit am j <;> cases bit bv j <;> cases bit bm j <;> simp
theorem meet_eq {av am bv bm : BitVec 64} (hr : (eqb (band av am) zero && eqb (band bv bm) zero) = true) (hm : eqb (bandn (bxor av bv) (bor am bm)) zero = true) :
  (∀ j, j < 64 → meetOk av am bv bm j = true) ∧ meetV av am bv bm 64 = bor av bv ∧ meetM av am bv bm 64 = band am bm := by
 obtain ⟨ha, hb⟩ := rightP hr
 rw [eqb_zero_iff] at hm
 refine ⟨?_, ?_, ?_⟩
 ·intro j hj
  have h1 := ha j; have h2 := hb j; have h3 := hm j hj
  rw [bit_andn _ _ _ hj, bit_xor, bit_or] at h3
  simp only [meetOk, mo, mz]
  revert h1 h2 h3
  cases bit av j <;> cases bit am j <;> cases bit bv j <;> cases bit bm j <;> simp
 ·apply acc_eq; intro j hj
  have h1 := ha j; have h2 := hb j; have h3 := hm j hj
  rw [bit_andn _ _ _ hj, bit_xor, bit_or] at h3
  simp only [mo, mz, bit_or]
  revert h1 h2 h3
  cases bit av j <;> cases bit am j <;> cases bit bv j <;> cases bit bm j <;> simp
 ·apply acc_eq; intro j hj
  have h1 := ha j; have h2 := hb j; have h3 := hm j hj
  rw [bit_andn _ _ _ hj, bit_xor, bit_or] at h3
  simp only [mo, mz, bit_and']
  revert h1 h2 h3
  cases bit av j <;> cases bit am j <;> cases bit bv j <;> cases bit bm j <;> simp
theorem meet_ne {av am bv bm : BitVec 64} (hm : eqb (bandn (bxor av bv) (bor am bm)) zero = false) :
  ∃ j, j < 64 ∧ meetOk av am bv bm j = false ∧ ∀ i, i < j → meetOk av am bv bm i = true := by
 rcases first_no (meetOk av am bv bm) 64 with h | h
 ·exfalso
  have : eqb (bandn (bxor av bv) (bor am bm)) zero = true := by
   rw [eqb_zero_iff]; intro j hj
   have h1 := h j hj
   rw [bit_andn _ _ _ hj, bit_xor, bit_or]
   simp only [meetOk, mo, mz] at h1
   revert h1
   cases bit av j <;> cases bit am j <;> cases bit bv j <;> cases bit bm j <;> simp
  rw [this] at hm; cases hm
 ·exact h
theorem sh_up_eq {v m : BitVec 64} (hr : eqb (band v m) zero = true) (n : Nat) : shV true v m n 64 = bshl v n ∧ shM true v m n 64 = bshl m n := by
 have ha := (right_iff _ _).1 hr
 have key : ∀ j, j < 64 → (sho true v m n j = (decide (n ≤ j) && (bit v (j - n) || bit m (j - n)))) ∧ (shz true v n j = (!decide (n ≤ j) || !bit v (j - n))) := by
  intro j hj
  by_cases h : n ≤ j
  ·have e := sh_in true v m n j (j - n) (by simp [shFrom]; omega) (by omega)
   rw [← e.1, ← e.2]; simp [h, mz, mo]
  ·have e := sh_out true v m n j (by simp [shFrom]; omega)
   rw [← e.1, ← e.2]; simp [h]
 constructor
 ·apply acc_eq; intro j hj
  rw [(key j hj).1, (key j hj).2, bit_shl _ _ _ hj]
  have h1 := ha (j - n)
  revert h1
  cases decide (n ≤ j) <;> cases bit v (j - n) <;> cases bit m (j - n) <;> simp
 ·apply acc_eq; intro j hj
  rw [(key j hj).1, (key j hj).2, bit_shl _ _ _ hj]
  have h1 := ha (j - n)
  revert h1
  cases decide (n ≤ j) <;> cases bit v (j - n) <;> cases bit m (j - n) <;> simp
theorem sh_down_eq {v m : BitVec 64} (hr : eqb (band v m) zero = true) (n : Nat) : shV false v m n 64 = bshr v n ∧ shM false v m n 64 = bshr m n := by
 have ha := (right_iff _ _).1 hr
 have key : ∀ j, j < 64 → (sho false v m n j = (bit v (n + j) || bit m (n + j))) ∧ (shz false v n j = !bit v (n + j)) := by
  intro j hj
  by_cases h : n + j < 64
  ·have e := sh_in false v m n j (n + j) (by simp [shFrom]; omega) h
   rw [← e.1, ← e.2]; simp [mz, mo]
  ·have e := sh_out false v m n j (by simp [shFrom]; omega)
   rw [← e.1, ← e.2, bit_big v _ (by omega), bit_big m _ (by omega)]; simp
 constructor
 ·apply acc_eq; intro j hj
  rw [(key j hj).1, (key j hj).2, bit_shr]
  have h1 := ha (n + j)
  revert h1
  cases bit v (n + j) <;> cases bit m (n + j) <;> simp
 ·apply acc_eq; intro j hj
  rw [(key j hj).1, (key j hj).2, bit_shr]
  have h1 := ha (n + j)
  revert h1
  cases bit v (n + j) <;> cases bit m (n + j) <;> simp
/- how many bits a number wants -/
theorem aux_lt : ∀ (f x : Nat), x < 2 ^ f → x < 2 ^ Lib.bitLenAux f x
 | 0, x, h => by simpa [Lib.bitLenAux] using h
 | f + 1, x, h => by
  simp only [Lib.bitLenAux]
  split
  ·subst_vars; simp
  ·have := aux_lt f (x / 2) (by rw [Nat.pow_succ] at h; omega)
   rw [Nat.add_comm 1, Nat.pow_succ]
   omega
theorem blen_iff (x : BitVec 64) (k : Nat) (hk : k ≤ 64) : blen x ≤ k ↔ x.toNat < 2 ^ k := by
 have e : (nv x).toNat = x.toNat := by unfold nv; rw [Int.toNat_natCast]
 unfold blen
 rw [e]
 constructor
 ·intro h
  exact Nat.lt_of_lt_of_le (aux_lt 64 x.toNat x.isLt) (Nat.pow_le_pow_right (by decide) h)
 ·intro h
  exact Lib.bitLen_le _ k hk h
theorem lt_iff_bits (x : BitVec 64) (k : Nat) : x.toNat < 2 ^ k ↔ ∀ j, k ≤ j → bit x j = false := by
 constructor
 ·intro h j hj
  unfold bit BitVec.getLsbD
  exact Nat.testBit_lt_two_pow (Nat.lt_of_lt_of_le h (Nat.pow_le_pow_right (by decide) hj))
 ·intro h
  exact Nat.lt_pow_two_of_testBit _ fun j hj => h j hj
theorem blen_bits (x : BitVec 64) (k : Nat) (hk : k ≤ 64) : blen x ≤ k ↔ ∀ j, k ≤ j → bit x j = false := by
 rw [blen_iff x k hk, lt_iff_bits]
theorem lowMask_bit (n j : Nat) (hn : n ≤ 64) (_hj : j < 64) : bit (lowMask n) j = decide (j < n) := by
 have h : (lowMask n).toNat = 2 ^ n - 1 := by
  unfold lowMask bsub bshl one
  by_cases e : n = 64
  ·subst e; decide
  ·have hlt : 2 ^ n < 2 ^ 64 := Nat.pow_lt_pow_right (by decide) (by omega)
   have h1 : 1 ≤ 2 ^ n := Nat.one_le_two_pow
   have e1 : (1#64 <<< n).toNat = 2 ^ n := by
    rw [BitVec.toNat_shiftLeft, Nat.shiftLeft_eq]; rw [show (1#64).toNat = 1 from rfl, Nat.one_mul]; exact Nat.mod_eq_of_lt hlt
   rw [BitVec.toNat_sub, e1]
   simp only [BitVec.toNat_ofNat]
   omega
 unfold bit BitVec.getLsbD
 rw [h, Nat.testBit_two_pow_sub_one]
theorem sameB_iff (l h : BitVec 64) (c : Nat) (hc : c ≤ 64) : sameB l h c = true ↔ ∀ j, 64 - c ≤ j → bit (bxor l h) j = false := by
 induction c with
 | zero => simp only [sameB, true_iff]; intro j hj; exact bit_big _ _ (by omega)
 | succ c ih =>
  have ih := ih (by omega)
  simp only [sameB, Bool.and_eq_true, ih, beq_iff_eq]
  constructor
  ·rintro ⟨h1, h2⟩ j hj
   by_cases e : j = 63 - c
   ·subst e; rw [bit_xor, h2]; simp
   ·exact h1 j (by omega)
  ·intro h1
   refine ⟨fun j hj => h1 j (by omega), ?_⟩
   have := h1 (63 - c) (by omega)
   rw [bit_xor] at this
   revert this
   cases bit l (63 - c) <;> cases bit h (63 - c) <;> simp
theorem span_eq (l h : BitVec 64) : spanV l h 64 = bandn l (sM l h) ∧ spanM l h 64 = sM l h := by
 have key : ∀ j, j < 64 → bit (sM l h) j = !sameB l h (64 - j) := by
  intro j hj
  unfold sM
  rw [lowMask_bit _ _ (blen_le _) hj]
  have h1 := sameB_iff l h (64 - j) (by omega)
  rw [show 64 - (64 - j) = j by omega, ← blen_bits _ j (by omega)] at h1
  cases hs : sameB l h (64 - j)
  ·rw [hs] at h1; simp at h1; simp [h1]
  ·rw [hs] at h1; simp at h1; simp; omega
 constructor
 ·apply accd_eq; intro j hj
  rw [bit_andn _ _ _ hj, key j hj]
  simp only [spo, spz]
  cases sameB l h (64 - j) <;> cases bit l j <;> simp
 ·apply accd_eq; intro j hj
  rw [key j hj]
  simp only [spo, spz]
  cases sameB l h (64 - j) <;> cases bit l j <;> simp
theorem rt_iff (v m : BitVec 64) : eqb (band v m) zero = true ↔ RtB v m := right_iff v m
theorem hasB_iff (v m x : BitVec 64) : hasB v m x = true ↔ RtB v m ∧ InB v m x := by
 unfold hasB
 rw [Bool.and_eq_true, rt_iff, has_iff]; rfl
theorem sound_two {op : Int} {av am bv bm x y : BitVec 64} (hop : 2 ≤ op ∧ op ≤ 7) (hx : hasB av am x = true) (hy : hasB bv bm y = true) :
  hasB (twoP op av am bv bm).1 (twoP op av am bv bm).2 (numB op x y) = true := by
 rw [hasB_iff] at hx hy ⊢
 exact ⟨two_rt hop, two_sound hop hx.1 hy.1 hx.2 hy.2⟩
theorem sound_join {av am bv bm x : BitVec 64} (ha : RtB av am) (hb : RtB bv bm) (hx : (hasB av am x || hasB bv bm x) = true) : hasB (bandn av (jM av am bv bm)) (jM av am bv bm) x = true := by
 rw [Bool.or_eq_true, hasB_iff, hasB_iff] at hx
 rw [hasB_iff]
 refine ⟨fun j => ?_, fun j hj => ?_⟩
 ·by_cases hj : j < 64
  ·rw [bit_andn _ _ _ hj]; cases bit av j <;> cases bit (jM av am bv bm) j <;> rfl
  ·rw [bit_big _ _ (by omega)]; rfl
 ·rw [bit_andn _ _ _ hj]
  unfold jM
  rw [bit_or, bit_or, bit_xor]
  have h3 := ha j; have h4 := hb j
  rcases hx with ⟨_, h⟩ | ⟨_, h⟩
  all_goals
   have h1 := h j hj
   revert h1 h3 h4
   cases bit x j <;> cases bit av j <;> cases bit am j <;> cases bit bv j <;> cases bit bm j <;> simp
theorem sound_meet {av am bv bm x : BitVec 64} (ha : RtB av am) (hb : RtB bv bm) :
  (hasB av am x && hasB bv bm x) = (eqb (bandn (bxor av bv) (bor am bm)) zero && hasB (bor av bv) (band am bm) x) := by
 rw [Bool.eq_iff_iff, Bool.and_eq_true, Bool.and_eq_true, hasB_iff, hasB_iff, hasB_iff]
 have key : eqb (bandn (bxor av bv) (bor am bm)) zero = true ↔ ∀ j, j < 64 → ((bit av j ^^ bit bv j) && !(bit am j || bit bm j)) = false := by
  unfold eqb
  rw [beq_iff_eq]
  constructor
  ·intro h j hj
   rw [← bit_xor, ← bit_or, ← bit_andn _ _ _ hj, h, bit_zero]
  ·intro h
   apply BitVec.eq_of_getLsbD_eq
   intro j hj
   have := h j hj
   rw [← bit_xor, ← bit_or, ← bit_andn _ _ _ hj] at this
   unfold bit at this
   rw [this]
   exact (bit_zero j).symm
 rw [key]
 constructor
 ·rintro ⟨⟨_, h1⟩, ⟨_, h2⟩⟩
  refine ⟨fun j hj => ?_, fun j => ?_, fun j hj => ?_⟩
  ·have a1 := h1 j hj; have a2 := h2 j hj
   revert a1 a2
   cases bit x j <;> cases bit av j <;> cases bit am j <;> cases bit bv j <;> cases bit bm j <;> simp
  ·rw [bit_or, bit_and']
   have h3 := ha j; have h4 := hb j
   revert h3 h4
   cases bit av j <;> cases bit am j <;> cases bit bv j <;> cases bit bm j <;> simp
  ·rw [bit_or, bit_and']
   have a1 := h1 j hj; have a2 := h2 j hj; have h3 := ha j; have h4 := hb j
   revert a1 a2 h3 h4
   cases bit x j <;> cases bit av j <;> cases bit am j <;> cases bit bv j <;> cases bit bm j <;> simp
 ·rintro ⟨h0, _, h1⟩
  refine ⟨⟨ha, fun j hj => ?_⟩, ⟨hb, fun j hj => ?_⟩⟩
  all_goals
   have a0 := h0 j hj; have a1 := h1 j hj; have h3 := ha j; have h4 := hb j
   rw [bit_or, bit_and'] at a1
   revert a0 a1 h3 h4
   cases bit x j <;> cases bit av j <;> cases bit am j <;> cases bit bv j <;> cases bit bm j <;> simp
theorem ins_iff (av am bv bm : BitVec 64) : insB av am bv bm = true ↔ RtB av am ∧ RtB bv bm ∧ ∀ j, j < 64 → (bit am j && !bit bm j) = false ∧ (bit av j && !bit bm j) = bit bv j := by
 unfold insB
 have : eqb (bandn am bm) zero = true ↔ ∀ j, j < 64 → (bit am j && !bit bm j) = false := by
  rw [has_iff]
  constructor
  ·intro h j hj; rw [h j hj, bit_zero]
  ·intro h j hj; rw [h j hj, bit_zero]
 rw [Bool.and_eq_true, Bool.and_eq_true, Bool.and_eq_true, rt_iff, rt_iff, this, has_iff, and_assoc]
 exact ⟨fun ⟨h1, h2, h3, h4⟩ => ⟨h1, h2, fun j hj => ⟨h3 j hj, h4 j hj⟩⟩, fun ⟨h1, h2, h3⟩ => ⟨h1, h2, fun j hj => (h3 j hj).1, fun j hj => (h3 j hj).2⟩⟩
theorem sound_inside {av am bv bm x : BitVec 64} (hi : insB av am bv bm = true) (hx : hasB av am x = true) : hasB bv bm x = true := by
 rw [ins_iff] at hi
 rw [hasB_iff] at hx ⊢
 refine ⟨hi.2.1, fun j hj => ?_⟩
 have h1 := hi.2.2 j hj; have h2 := hx.2 j hj
 revert h1 h2
 cases bit x j <;> cases bit av j <;> cases bit am j <;> cases bit bv j <;> cases bit bm j <;> simp
theorem sound_shl {v m x : BitVec 64} (hx : hasB v m x = true) (n : Nat) : hasB (bshl v n) (bshl m n) (bshl x n) = true := by
 rw [hasB_iff] at hx ⊢
 exact ⟨shl_rt hx.1 n, shl_in hx.2 n⟩
theorem sound_shr {v m x : BitVec 64} (hx : hasB v m x = true) (n : Nat) : hasB (bshr v n) (bshr m n) (bshr x n) = true := by
 rw [hasB_iff] at hx ⊢
 refine ⟨fun j => ?_, fun j hj => ?_⟩
 ·rw [bit_shr, bit_shr]; exact hx.1 _
 ·rw [bit_shr, bit_shr, bit_shr]
  by_cases h : n + j < 64
  ·exact hx.2 _ h
  ·rw [bit_big x _ (by omega), bit_big v _ (by omega)]; rfl
def bneg (x : BitVec 64) : BitVec 64 := - x
theorem w_neg (x : BitVec 64) : IntKind.u64.wrap (- nv x) = nv (bneg x) := by
 rw [wrap_ofInt, BitVec.ofInt_neg, ofInt_nv]; rfl
theorem nv_not (x : BitVec 64) : nv (bnot x) = 18446744073709551615 - nv x := by
 unfold nv bnot
 rw [BitVec.toNat_not]
 have := x.isLt
 omega
theorem w_not (x : BitVec 64) : bits .xor .u64 IntKind.u64.max (nv x) = nv (bnot x) := by
 rw [show IntKind.u64.max = nv top by rw [nv_top]; rfl, w_xor]
 refine congrArg nv ?_
 apply BitVec.eq_of_getLsbD_eq
 intro j hj
 show bit (bxor top x) j = bit (bnot x) j
 rw [bit_xor, bit_not _ _ hj, bit_top _ hj]; cases bit x j <;> rfl
theorem bext {x y : BitVec 64} (h : ∀ j, j < 64 → bit x j = bit y j) : x = y :=
 BitVec.eq_of_getLsbD_eq h
theorem neg_not (x : BitVec 64) : bneg x = bnot (bsub x one) := by
 rw [sub_not]
 unfold bneg bnot badd one
 rw [BitVec.not_not, BitVec.neg_eq_not_add]
/- which is less: by the highest bit in which they differ -/
theorem lt_of_bits {a b : BitVec 64} (h : Nat) (ha : bit a h = false) (hb : bit b h = true) (hj : ∀ j, h < j → j < 64 → bit a j = bit b j) : nv a < nv b := by
 unfold nv
 have hall : ∀ j, h < j → a.toNat.testBit j = b.toNat.testBit j := by
  intro j hhj
  by_cases e : j < 64
  ·exact hj j hhj e
  ·have h1 := bit_big a j (by omega)
   have h2 := bit_big b j (by omega)
   unfold bit BitVec.getLsbD at h1 h2
   rw [h1, h2]
 have e : a.toNat / 2 ^ (h + 1) = b.toNat / 2 ^ (h + 1) := Nat.eq_of_testBit_eq fun i => by
  rw [Nat.testBit_div_two_pow, Nat.testBit_div_two_pow]; exact hall _ (by omega)
 rw [Nat.pow_succ, ← Nat.div_div_eq_div_mul, ← Nat.div_div_eq_div_mul] at e
 have ea : a.toNat / 2 ^ h % 2 ≠ 1 := by
  unfold bit BitVec.getLsbD at ha
  rw [Nat.testBit_eq_decide_div_mod_eq, decide_eq_false_iff_not] at ha; exact ha
 have eb : b.toNat / 2 ^ h % 2 = 1 := by
  unfold bit BitVec.getLsbD at hb
  rw [Nat.testBit_eq_decide_div_mod_eq, decide_eq_true_eq] at hb; exact hb
 have : a.toNat < b.toNat := by
  rcases Nat.lt_or_ge a.toNat b.toNat with g | g
  ·exact g
  ·exfalso
   have := Nat.div_le_div_right (c := 2 ^ h) g
   omega
 omega
theorem high_bit {x : BitVec 64} (hx : eqb x zero = false) : ∃ h, h < 64 ∧ blen x = h + 1 ∧ bit x h = true ∧ ∀ j, h < j → bit x j = false := by
 have hle := blen_le x
 have h0 : blen x ≠ 0 := by
  intro e
  have := (blen_bits x 0 (by omega)).1 (by omega)
  have h1 : eqb x zero = true := (eqb_zero_iff x).2 fun j _ => this j (by omega)
  rw [h1] at hx; cases hx
 refine ⟨blen x - 1, by omega, by omega, ?_, fun j hj => (blen_bits x (blen x) hle).1 (Nat.le_refl _) j (by omega)⟩
 cases hb : bit x (blen x - 1)
 ·exfalso
  have := (blen_bits x (blen x - 1) (by omega)).2 fun j hj => by
   by_cases e : j = blen x - 1
   ·rw [e, hb]
   ·exact (blen_bits x (blen x) hle).1 (Nat.le_refl _) j (by omega)
  omega
 ·rfl
theorem bits_of_lt {a b : BitVec 64} (hlt : nv a < nv b) : ∃ h, h < 64 ∧ bit a h = false ∧ bit b h = true ∧ ∀ j, h < j → j < 64 → bit a j = bit b j := by
 have hne : eqb (bxor a b) zero = false := by
  cases e : eqb (bxor a b) zero
  ·rfl
  ·exfalso
   have : a = b := bext fun j hj => by
    have := (eqb_zero_iff _).1 e j hj
    rw [bit_xor] at this
    revert this
    cases bit a j <;> cases bit b j <;> simp
   rw [this] at hlt; omega
 obtain ⟨h, h1, _, h3, h4⟩ := high_bit hne
 rw [bit_xor] at h3
 have h5 : ∀ j, h < j → j < 64 → bit a j = bit b j := by
  intro j hj _
  have := h4 j hj
  rw [bit_xor] at this
  revert this
  cases bit a j <;> cases bit b j <;> simp
 cases ha : bit a h
 ·rw [ha] at h3
  exact ⟨h, h1, ha, by revert h3; cases bit b h <;> simp, h5⟩
 ·exfalso
  rw [ha] at h3
  have hb : bit b h = false := by revert h3; cases bit b h <;> simp
  have := lt_of_bits h hb ha fun j hj hj2 => (h5 j hj hj2).symm
  omega
/- the lowest bit that is 1 -/
theorem low_bw {x : BitVec 64} {k : Nat} (hk : k < 64) (h1 : bit x k = true) (h0 : ∀ j, j < k → bit x j = false) (i : Nat) (hi : i ≤ 64) : bw x one i = decide (1 ≤ i ∧ i ≤ k) := by
 induction i with
 | zero => rw [bw_zero]; simp
 | succ i ih =>
  rw [bw_succ _ _ _ (by omega), ih (by omega)]
  have ho : bit one i = decide (i = 0) := by
   have := bit_one_shl 0 i (by omega)
   rw [show bshl one 0 = one by unfold bshl; simp] at this
   exact this
  rw [ho]
  by_cases e : i = 0
  ·subst e
   by_cases ek : k = 0
   ·subst ek; rw [h1]; simp
   ·rw [h0 0 (by omega)]; simp; omega
  ·rcases Nat.lt_trichotomy i k with h | h | h
   ·have e1 : 1 ≤ i ∧ i ≤ k := by omega
    have e2 : 1 ≤ i + 1 ∧ i + 1 ≤ k := by omega
    rw [h0 i h, decide_eq_true e1, decide_eq_true e2, decide_eq_false e]; rfl
   ·subst h
    have e2 : ¬ (1 ≤ i + 1 ∧ i + 1 ≤ i) := by omega
    rw [h1, decide_eq_false e2, decide_eq_false e]; simp
   ·have e1 : ¬ (1 ≤ i ∧ i ≤ k) := by omega
    have e2 : ¬ (1 ≤ i + 1 ∧ i + 1 ≤ k) := by omega
    rw [decide_eq_false e1, decide_eq_false e2, decide_eq_false e]; simp
theorem low_one {x : BitVec 64} {k : Nat} (hk : k < 64) (h1 : bit x k = true) (h0 : ∀ j, j < k → bit x j = false) : band x (bneg x) = bshl one k := by
 apply bext
 intro j hj
 rw [bit_and', neg_not, bit_not _ _ hj, bit_sub _ _ _ hj, low_bw hk h1 h0 j (by omega), bit_one_shl _ _ hk]
 have ho : bit one j = decide (j = 0) := by
  have := bit_one_shl 0 j (by omega)
  rw [show bshl one 0 = one by unfold bshl; simp] at this
  exact this
 rw [ho]
 rcases Nat.lt_trichotomy j k with h | h | h
 ·rw [h0 j h]; simp; omega
 ·subst h; rw [h1]
  by_cases e : j = 0
  ·subst e; simp
  ·simp [e]; omega
 ·have e1 : ¬ (1 ≤ j ∧ j ≤ k) := by omega
  have e2 : ¬ j = 0 := by omega
  have e3 : ¬ j = k := by omega
  simp [e1, e2, e3]
/- the reference's trials -/
def candL (v x : BitVec 64) (i : Nat) : BitVec 64 := bor (bor (bshl (bshr x i) i) (bshl one i)) (band v (lowMask i))
def okL (v m x : BitVec 64) (i : Nat) : Bool := !bit x i && hasB v m (candL v x i)
theorem cand_bit (v x : BitVec 64) (i j : Nat) (hi : i < 64) (hj : j < 64) : bit (candL v x i) j = if j < i then bit v j else if j = i then true else bit x j := by
 unfold candL
 rw [bit_or, bit_or, bit_and', bit_shl _ _ _ hj, bit_shr, bit_one_shl _ _ hi, lowMask_bit _ _ (by omega) hj]
 rcases Nat.lt_trichotomy j i with h | h | h
 ·have h1 : ¬ i ≤ j := by omega
  have h2 : ¬ j = i := by omega
  simp [h, h1, h2]
 ·subst h; simp
 ·have h1 : i ≤ j := by omega
  have h2 : ¬ j = i := by omega
  have h3 : ¬ j < i := by omega
  rw [show i + (j - i) = j by omega]
  simp [h1, h2, h3]
theorem okL_iff {v m : BitVec 64} (hr : RtB v m) (x : BitVec 64) (i : Nat) (hi : i < 64) : okL v m x i = true ↔ bit x i = false ∧ (bit v i || bit m i) = true ∧ ∀ j, i < j → j < 64 → (bit x j && !bit m j) = bit v j := by
 unfold okL
 rw [Bool.and_eq_true, hasB_iff]
 constructor
 ·rintro ⟨h1, _, h2⟩
  refine ⟨by simpa using h1, ?_, fun j hj hj2 => ?_⟩
  ·have := h2 i hi
   rw [cand_bit _ _ _ _ hi hi] at this
   have h3 := hr i
   revert this h3
   cases bit v i <;> cases bit m i <;> simp
  ·have := h2 j hj2
   rw [cand_bit _ _ _ _ hi hj2, if_neg (by omega), if_neg (by omega)] at this
   exact this
 ·rintro ⟨h1, h2, h3⟩
  refine ⟨by simp [h1], hr, fun j hj => ?_⟩
  rw [cand_bit _ _ _ _ hi hj]
  have h4 := hr j
  rcases Nat.lt_trichotomy j i with h | h | h
  ·rw [if_pos h]
   revert h4
   cases bit v j <;> cases bit m j <;> simp
  ·subst h
   rw [if_neg (by omega), if_pos rfl]
   revert h2 h4
   cases bit v j <;> cases bit m j <;> simp
  ·rw [if_neg (by omega), if_neg (by omega)]
   exact h3 j h hj
/- package val's way -/
def wrongB (v m x : BitVec 64) : BitVec 64 := bandn (bxor x v) m
def restB (v m x : BitVec 64) : BitVec 64 := lowMask (blen (wrongB v m x))
def freeB (v m x : BitVec 64) : BitVec 64 := bandn (bandn m x) (restB v m x)
def lowB (x : BitVec 64) : BitVec 64 := band x (bneg x)
def leastV (v m x : BitVec 64) : BitVec 64 × Bool :=
 if eqb (wrongB v m x) zero then (x, true)
 else if nv (band x (restB v m x)) < nv (band v (restB v m x)) then (bor (bandn x (restB v m x)) (band v (restB v m x)), true)
 else if eqb (freeB v m x) zero then (zero, false)
 else (bor (bor (bandn x (bsub (lowB (freeB v m x)) one)) (lowB (freeB v m x))) (band v (bsub (lowB (freeB v m x)) one)), true)
theorem wrong_has {v m : BitVec 64} (hr : RtB v m) (x : BitVec 64) : eqb (wrongB v m x) zero = hasB v m x := by
 rw [Bool.eq_iff_iff, eqb_zero_iff, hasB_iff]
 constructor
 ·intro h
  refine ⟨hr, fun j hj => ?_⟩
  have h1 := h j hj
  unfold wrongB at h1
  rw [bit_andn _ _ _ hj, bit_xor] at h1
  have h2 := hr j
  revert h1 h2
  cases bit x j <;> cases bit v j <;> cases bit m j <;> simp
 ·rintro ⟨_, h⟩ j hj
  have h1 := h j hj
  unfold wrongB
  rw [bit_andn _ _ _ hj, bit_xor]
  have h2 := hr j
  revert h1 h2
  cases bit x j <;> cases bit v j <;> cases bit m j <;> simp
def LeastIs (v m x : BitVec 64) (r : BitVec 64 × Bool) (d : BitVec 64) : Prop :=
 (hasB v m x = true ∧ r = (x, true))
 ∨ (hasB v m x = false ∧ ∃ k, k < 64 ∧ okL v m x k = true ∧ (∀ j, j < k → okL v m x j = false) ∧ r = (candL v x k, true))
 ∨ (hasB v m x = false ∧ (∀ j, j < 64 → okL v m x j = false) ∧ r = (d, false))
theorem least_is {v m : BitVec 64} (hr : RtB v m) (x : BitVec 64) : LeastIs v m x (leastV v m x) zero := by
 unfold LeastIs leastV
 cases hw : eqb (wrongB v m x) zero
 ·have hh : hasB v m x = false := by rw [← wrong_has hr, hw]
  refine Or.inr ?_
  obtain ⟨h, h64, hbl, hb1, hb0⟩ := high_bit hw
  have e1 := hb1
  unfold wrongB at e1
  rw [bit_andn _ _ _ h64, bit_xor] at e1
  have e0 : ∀ j, h < j → j < 64 → (bit x j && !bit m j) = bit v j := by
   intro j hj hj2
   have := hb0 j hj
   unfold wrongB at this
   rw [bit_andn _ _ _ hj2, bit_xor] at this
   have h2 := hr j
   revert this h2
   cases bit x j <;> cases bit v j <;> cases bit m j <;> simp
  have hbelow : ∀ j, j < h → okL v m x j = false := by
   intro j hj
   cases ho : okL v m x j
   ·rfl
   ·exfalso
    have := ((okL_iff hr x j (by omega)).1 ho).2.2 h hj h64
    revert this e1
    cases bit x h <;> cases bit v h <;> cases bit m h <;> simp
  have hrest : ∀ j, j < 64 → bit (restB v m x) j = decide (j ≤ h) := by
   intro j hj
   unfold restB
   rw [hbl, lowMask_bit _ _ (by omega) hj]
   simp [Nat.lt_succ_iff]
  cases hv : bit v h
  ·-- x has a 1 there
   have hx : bit x h = true := by
    rw [hv] at e1; revert e1; cases bit x h <;> simp
   have hnl : ¬ nv (band x (restB v m x)) < nv (band v (restB v m x)) := by
    have : nv (band v (restB v m x)) < nv (band x (restB v m x)) := by
     refine lt_of_bits h ?_ ?_ fun j hj hj2 => ?_
     ·rw [bit_and', hv]; rfl
     ·rw [bit_and', hx, hrest h h64]; simp
     ·rw [bit_and', bit_and', hrest j hj2]
      have : ¬ j ≤ h := by omega
      simp [this]
    omega
   have hoh : okL v m x h = false := by
    cases ho : okL v m x h
    ·rfl
    ·have := ((okL_iff hr x h h64).1 ho).1
     rw [hx] at this; cases this
   have hfree : ∀ j, j < 64 → bit (freeB v m x) j = ((bit m j && !bit x j) && !decide (j ≤ h)) := by
    intro j hj
    unfold freeB
    rw [bit_andn _ _ _ hj, bit_andn _ _ _ hj, hrest j hj]
   have hok : ∀ j, h < j → j < 64 → okL v m x j = bit (freeB v m x) j := by
    intro j hj hj2
    rw [Bool.eq_iff_iff, okL_iff hr x j hj2, hfree j hj2]
    have h1 : ¬ j ≤ h := by omega
    simp only [h1, decide_false, Bool.not_false, Bool.and_true, Bool.and_eq_true, Bool.not_eq_true']
    have h3 := e0 j hj hj2
    constructor
    ·rintro ⟨g1, g2, _⟩
     refine ⟨?_, g1⟩
     rw [g1] at h3
     revert g2 h3
     cases bit v j <;> cases bit m j <;> simp
    ·rintro ⟨g1, g2⟩
     refine ⟨g2, by rw [g1]; simp, fun i hi hi2 => e0 i (by omega) hi2⟩
   rw [if_neg (by simp), if_neg hnl]
   cases hf : eqb (freeB v m x) zero
   ·rw [if_neg (by simp)]
    refine Or.inl ⟨hh, ?_⟩
    rcases first_no (fun j => !bit (freeB v m x) j) 64 with hall | ⟨k, hk, hkf, hkb⟩
    ·exfalso
     have : eqb (freeB v m x) zero = true := (eqb_zero_iff _).2 fun j hj => by simpa using hall j hj
     rw [this] at hf; cases hf
    ·have hk1 : bit (freeB v m x) k = true := by simpa using hkf
     have hk0 : ∀ j, j < k → bit (freeB v m x) j = false := fun j hj => by simpa using hkb j hj
     have hkh : h < k := by
      have := hk1
      rw [hfree k hk] at this
      by_cases e : k ≤ h
      ·simp [e] at this
      ·omega
     refine ⟨k, hk, by rw [hok k hkh hk]; exact hk1, fun j hj => ?_, ?_⟩
     ·rcases Nat.lt_trichotomy j h with g | g | g
      ·exact hbelow j g
      ·rw [g]; exact hoh
      ·rw [hok j g (by omega)]; exact hk0 j hj
     ·have hone : lowB (freeB v m x) = bshl one k := low_one hk hk1 hk0
      rw [hone]
      have hxk : bit x k = false := by
       have := hk1
       rw [hfree k hk] at this
       revert this
       cases bit m k <;> cases bit x k <;> simp
      congr 1
      apply bext
      intro j hj
      rw [cand_bit _ _ _ _ hk hj, bit_or, bit_or, bit_and', bit_andn _ _ _ hj, bit_one_shl _ _ hk]
      have hl := lowMask_bit k j (by omega) hj
      unfold lowMask at hl
      rw [hl]
      rcases Nat.lt_trichotomy j k with g | g | g
      ·have g2 : ¬ j = k := by omega
       simp [g, g2]
      ·subst g; simp
      ·have g2 : ¬ j = k := by omega
       have g3 : ¬ j < k := by omega
       simp [g2, g3]
   ·rw [if_pos rfl]
    refine Or.inr ⟨hh, fun j hj => ?_, rfl⟩
    rcases Nat.lt_trichotomy j h with g | g | g
    ·exact hbelow j g
    ·rw [g]; exact hoh
    ·rw [hok j g hj]; exact (eqb_zero_iff _).1 hf j hj
  ·-- x has a 0 there
   have hx : bit x h = false := by
    rw [hv] at e1; revert e1; cases bit x h <;> simp
   have hl : nv (band x (restB v m x)) < nv (band v (restB v m x)) := by
    refine lt_of_bits h ?_ ?_ fun j hj hj2 => ?_
    ·rw [bit_and', hx]; rfl
    ·rw [bit_and', hv, hrest h h64]; simp
    ·rw [bit_and', bit_and', hrest j hj2]
     have : ¬ j ≤ h := by omega
     simp [this]
   rw [if_neg (by simp), if_pos hl]
   refine Or.inl ⟨hh, h, h64, (okL_iff hr x h h64).2 ⟨hx, by rw [hv]; rfl, e0⟩, hbelow, ?_⟩
   congr 1
   apply bext
   intro j hj
   rw [cand_bit _ _ _ _ h64 hj, bit_or, bit_andn _ _ _ hj, bit_and', hrest j hj]
   rcases Nat.lt_trichotomy j h with g | g | g
   ·have g2 : j ≤ h := by omega
    simp [g, g2]
   ·subst g; simp [hv]
   ·have g2 : ¬ j ≤ h := by omega
    have g3 : ¬ j = h := by omega
    have g4 : ¬ j < h := by omega
    simp [g2, g3, g4]
 ·exact Or.inl ⟨by rw [← wrong_has hr, hw], by simp⟩
/- the greatest -/
def candG (v m x : BitVec 64) (i : Nat) : BitVec 64 := bor (bshl (bshr x (i + 1)) (i + 1)) (band (bor v m) (lowMask i))
def okG (v m x : BitVec 64) (i : Nat) : Bool := bit x i && hasB v m (candG v m x i)
def turn (v m : BitVec 64) : BitVec 64 := bnot (bor v m)
theorem turn_rt (v m : BitVec 64) : RtB (turn v m) m := by
 intro j
 by_cases hj : j < 64
 ·unfold turn; rw [bit_not _ _ hj, bit_or]; cases bit v j <;> cases bit m j <;> rfl
 ·rw [bit_big _ _ (by omega)]; rfl
theorem not_not (x : BitVec 64) : bnot (bnot x) = x := by unfold bnot; exact BitVec.not_not
theorem turn_has {v m : BitVec 64} (hr : RtB v m) (x : BitVec 64) : hasB (turn v m) m (bnot x) = hasB v m x := by
 rw [Bool.eq_iff_iff, hasB_iff, hasB_iff]
 constructor
 ·rintro ⟨_, h⟩
  refine ⟨hr, fun j hj => ?_⟩
  have h1 := h j hj
  unfold turn at h1
  rw [bit_not _ _ hj, bit_not _ _ hj, bit_or] at h1
  have h2 := hr j
  revert h1 h2
  cases bit x j <;> cases bit v j <;> cases bit m j <;> simp
 ·rintro ⟨_, h⟩
  refine ⟨turn_rt v m, fun j hj => ?_⟩
  have h1 := h j hj
  unfold turn
  rw [bit_not _ _ hj, bit_not _ _ hj, bit_or]
  have h2 := hr j
  revert h1 h2
  cases bit x j <;> cases bit v j <;> cases bit m j <;> simp
theorem candG_eq (v m x : BitVec 64) (i : Nat) (hi : i < 64) : candG v m x i = bnot (candL (turn v m) (bnot x) i) := by
 apply bext
 intro j hj
 rw [bit_not _ _ hj, cand_bit _ _ _ _ hi hj]
 unfold candG turn
 rw [bit_or, bit_and', bit_or, bit_shl _ _ _ hj, bit_shr, lowMask_bit _ _ (by omega) hj, bit_not _ _ hj, bit_not _ _ hj, bit_or]
 rcases Nat.lt_trichotomy j i with h | h | h
 ·have h1 : ¬ i + 1 ≤ j := by omega
  simp [h, h1]
 ·subst h
  have h1 : ¬ j + 1 ≤ j := by omega
  simp [h1]
 ·have h1 : i + 1 ≤ j := by omega
  have h2 : ¬ j = i := by omega
  have h3 : ¬ j < i := by omega
  rw [show i + 1 + (j - (i + 1)) = j by omega]
  simp [h1, h2, h3]
theorem okG_eq {v m : BitVec 64} (hr : RtB v m) (x : BitVec 64) (i : Nat) (hi : i < 64) : okG v m x i = okL (turn v m) m (bnot x) i := by
 unfold okG okL
 rw [bit_not _ _ hi, Bool.not_not, candG_eq _ _ _ _ hi]
 have := turn_has hr (bnot (candL (turn v m) (bnot x) i))
 rw [not_not] at this
 rw [← this]
def greatV (v m x : BitVec 64) : BitVec 64 × Bool := if (leastV (turn v m) m (bnot x)).2 then (bnot (leastV (turn v m) m (bnot x)).1, true) else (zero, false)
def GreatIs (v m x : BitVec 64) (r : BitVec 64 × Bool) (d : BitVec 64) : Prop :=
 (hasB v m x = true ∧ r = (x, true))
 ∨ (hasB v m x = false ∧ ∃ k, k < 64 ∧ okG v m x k = true ∧ (∀ j, j < k → okG v m x j = false) ∧ r = (candG v m x k, true))
 ∨ (hasB v m x = false ∧ (∀ j, j < 64 → okG v m x j = false) ∧ r = (d, false))
theorem great_is {v m : BitVec 64} (hr : RtB v m) (x : BitVec 64) : GreatIs v m x (greatV v m x) zero := by
 have h := least_is (turn_rt v m) (bnot x)
 unfold LeastIs at h
 rw [turn_has hr] at h
 unfold GreatIs greatV
 rcases h with ⟨h1, h2⟩ | ⟨h1, k, hk, h2, h3, h4⟩ | ⟨h1, h2, h3⟩
 ·exact Or.inl ⟨h1, by rw [h2]; simp [not_not]⟩
 ·refine Or.inr (Or.inl ⟨h1, k, hk, by rw [okG_eq hr _ _ hk]; exact h2, fun j hj => by rw [okG_eq hr _ _ (by omega)]; exact h3 j hj, ?_⟩)
  rw [h4, candG_eq _ _ _ _ hk]; simp
 ·refine Or.inr (Or.inr ⟨h1, fun j hj => by rw [okG_eq hr _ _ hj]; exact h2 j hj, by rw [h3]; simp⟩)
def scanL (v m x : BitVec 64) : Nat → BitVec 64 × Bool
 | 0 => (x, hasB v m x)
 | k + 1 => if (scanL v m x k).2 then scanL v m x k else if okL v m x k then (candL v x k, true) else scanL v m x k
def scanG (v m x : BitVec 64) : Nat → BitVec 64 × Bool
 | 0 => (x, hasB v m x)
 | k + 1 => if (scanG v m x k).2 then scanG v m x k else if okG v m x k then (candG v m x k, true) else scanG v m x k
theorem scanL_stay (v m x : BitVec 64) (k n : Nat) (h : (scanL v m x k).2 = true) (hn : k ≤ n) : scanL v m x n = scanL v m x k := by
 induction n with
 | zero =>
  have : k = 0 := by omega
  rw [this]
 | succ n ih =>
  by_cases e : k = n + 1
  ·rw [e]
  ·have := ih (by omega)
   rw [scanL, this, if_pos h]
theorem scanG_stay (v m x : BitVec 64) (k n : Nat) (h : (scanG v m x k).2 = true) (hn : k ≤ n) : scanG v m x n = scanG v m x k := by
 induction n with
 | zero =>
  have : k = 0 := by omega
  rw [this]
 | succ n ih =>
  by_cases e : k = n + 1
  ·rw [e]
  ·have := ih (by omega)
   rw [scanG, this, if_pos h]
theorem scanL_no (v m x : BitVec 64) (hh : hasB v m x = false) (n : Nat) (h : ∀ j, j < n → okL v m x j = false) : scanL v m x n = (x, false) := by
 induction n with
 | zero => rw [scanL, hh]
 | succ n ih =>
  have := ih fun j hj => h j (by omega)
  rw [scanL, this, h n (by omega)]; simp
theorem scanG_no (v m x : BitVec 64) (hh : hasB v m x = false) (n : Nat) (h : ∀ j, j < n → okG v m x j = false) : scanG v m x n = (x, false) := by
 induction n with
 | zero => rw [scanG, hh]
 | succ n ih =>
  have := ih fun j hj => h j (by omega)
  rw [scanG, this, h n (by omega)]; simp
/- the two searches answer the same, if they find something -/
theorem least_same {v m : BitVec 64} (hr : RtB v m) (x : BitVec 64) : (scanL v m x 64).2 = (leastV v m x).2 ∧ ((leastV v m x).2 = true → (scanL v m x 64).1 = (leastV v m x).1) := by
 rcases least_is hr x with ⟨h1, h2⟩ | ⟨h1, k, hk, h2, h3, h4⟩ | ⟨h1, h2, h3⟩
 ·have : (scanL v m x 0) = (x, true) := by rw [scanL, h1]
  rw [scanL_stay v m x 0 64 (by rw [this]) (by omega), this, h2]
  exact ⟨rfl, fun _ => rfl⟩
 ·have e0 := scanL_no v m x h1 k h3
  have : (scanL v m x (k + 1)) = (candL v x k, true) := by rw [scanL, e0, h2]; simp
  rw [scanL_stay v m x (k + 1) 64 (by rw [this]) (by omega), this, h4]
  exact ⟨rfl, fun _ => rfl⟩
 ·rw [scanL_no v m x h1 64 h2, h3]
  exact ⟨rfl, fun h => by cases h⟩
theorem great_same {v m : BitVec 64} (hr : RtB v m) (x : BitVec 64) : (scanG v m x 64).2 = (greatV v m x).2 ∧ ((greatV v m x).2 = true → (scanG v m x 64).1 = (greatV v m x).1) := by
 rcases great_is hr x with ⟨h1, h2⟩ | ⟨h1, k, hk, h2, h3, h4⟩ | ⟨h1, h2, h3⟩
 ·have : (scanG v m x 0) = (x, true) := by rw [scanG, h1]
  rw [scanG_stay v m x 0 64 (by rw [this]) (by omega), this, h2]
  exact ⟨rfl, fun _ => rfl⟩
 ·have e0 := scanG_no v m x h1 k h3
  have : (scanG v m x (k + 1)) = (candG v m x k, true) := by rw [scanG, e0, h2]; simp
  rw [scanG_stay v m x (k + 1) 64 (by rw [this]) (by omega), this, h4]
  exact ⟨rfl, fun _ => rfl⟩
 ·rw [scanG_no v m x h1 64 h2, h3]
  exact ⟨rfl, fun h => by cases h⟩
/- what is found is one of the numbers, and none is nearer -/
theorem cand_gt {v m x : BitVec 64} {k : Nat} (hr : RtB v m) (hk : k < 64) (ho : okL v m x k = true) : nv x < nv (candL v x k) := by
 have h := (okL_iff hr x k hk).1 ho
 refine lt_of_bits k h.1 ?_ fun j hj hj2 => ?_
 ·rw [cand_bit _ _ _ _ hk hk, if_neg (by omega), if_pos rfl]
 ·rw [cand_bit _ _ _ _ hk hj2, if_neg (by omega), if_neg (by omega)]
theorem le_of_bits {a b : BitVec 64} (h : ∀ i, bit b i = false → bit a i = true → ∃ j, i < j ∧ j < 64 ∧ bit a j = false ∧ bit b j = true) : nv a ≤ nv b := by
 by_cases hlt : nv b < nv a
 ·exfalso
  obtain ⟨i, hi, h1, h2, h3⟩ := bits_of_lt hlt
  obtain ⟨j, hj, hj2, h4, h5⟩ := h i h1 h2
  have := h3 j hj hj2
  rw [h4, h5] at this; cases this
 ·omega
theorem has_cand {v m x y : BitVec 64} (hr : RtB v m) (hy : hasB v m y = true) (hlt : nv x < nv y) : ∃ i, i < 64 ∧ okL v m x i = true ∧ nv (candL v x i) ≤ nv y := by
 obtain ⟨i, hi, h1, h2, h3⟩ := bits_of_lt hlt
 have hin := ((hasB_iff v m y).1 hy).2
 refine ⟨i, hi, (okL_iff hr x i hi).2 ⟨h1, ?_, fun j hj hj2 => ?_⟩, ?_⟩
 ·have := hin i hi
  rw [h2] at this
  revert this
  cases bit m i <;> cases bit v i <;> simp
 ·rw [h3 j hj hj2]; exact hin j hj2
 ·apply le_of_bits
  intro k hk1 hk2
  exfalso
  by_cases hk64 : k < 64
  ·rw [cand_bit _ _ _ _ hi hk64] at hk2
   rcases Nat.lt_trichotomy k i with g | g | g
   ·rw [if_pos g] at hk2
    have := hin k hk64
    rw [hk1, hk2] at this; simp at this
   ·rw [g, h2] at hk1; cases hk1
   ·rw [if_neg (by omega), if_neg (by omega), h3 k g hk64, hk1] at hk2; cases hk2
  ·rw [bit_big _ _ (by omega)] at hk2; cases hk2
theorem cand_le {v m x : BitVec 64} {i k : Nat} (hr : RtB v m) (hk : k < i) (hi : i < 64) (hoi : okL v m x i = true) : nv (candL v x k) ≤ nv (candL v x i) := by
 have h := (okL_iff hr x i hi).1 hoi
 have : nv (candL v x k) < nv (candL v x i) := by
  refine lt_of_bits i ?_ ?_ fun j hj hj2 => ?_
  ·rw [cand_bit _ _ _ _ (by omega) hi, if_neg (by omega), if_neg (by omega)]; exact h.1
  ·rw [cand_bit _ _ _ _ hi hi, if_neg (by omega), if_pos rfl]
  ·rw [cand_bit _ _ _ _ (by omega) hj2, cand_bit _ _ _ _ hi hj2, if_neg (by omega), if_neg (by omega), if_neg (by omega), if_neg (by omega)]
 omega
theorem least_yes {v m : BitVec 64} (hr : RtB v m) {x : BitVec 64} (h : (leastV v m x).2 = true) : hasB v m (leastV v m x).1 = true ∧ nv x ≤ nv (leastV v m x).1 ∧ ∀ y, hasB v m y = true → nv x ≤ nv y → nv (leastV v m x).1 ≤ nv y := by
 rcases least_is hr x with ⟨h1, h2⟩ | ⟨h1, k, hk, h2, h3, h4⟩ | ⟨h1, h2, h3⟩
 ·rw [h2]; exact ⟨h1, Int.le_refl _, fun y _ h => h⟩
 ·rw [h4]
  have hc := h2
  unfold okL at hc
  rw [Bool.and_eq_true] at hc
  refine ⟨hc.2, Int.le_of_lt (cand_gt hr hk h2), fun y hy hle => ?_⟩
  have hlt : nv x < nv y := by
   rcases Int.lt_or_eq_of_le hle with g | g
   ·exact g
   ·exfalso
    have := nv_inj _ _ g
    rw [this, hy] at h1; cases h1
  obtain ⟨i, hi, g1, g2⟩ := has_cand hr hy hlt
  show nv (candL v x k) ≤ nv y
  rcases Nat.lt_trichotomy i k with g | g | g
  ·rw [h3 i g] at g1; cases g1
  ·rw [← g]; exact g2
  ·exact Int.le_trans (cand_le hr g hi g1) g2
 ·rw [h3] at h; cases h
theorem least_none {v m : BitVec 64} (hr : RtB v m) {x : BitVec 64} (h : (leastV v m x).2 = false) (y : BitVec 64) (hy : hasB v m y = true) : nv y < nv x := by
 rcases least_is hr x with ⟨h1, h2⟩ | ⟨h1, k, hk, h2, h3, h4⟩ | ⟨h1, h2, h3⟩
 ·rw [h2] at h; cases h
 ·rw [h4] at h; cases h
 ·by_cases hlt : nv x < nv y
  ·obtain ⟨i, hi, g1, _⟩ := has_cand hr hy hlt
   rw [h2 i hi] at g1; cases g1
  ·by_cases e : nv x = nv y
   ·have := nv_inj _ _ e
    rw [this, hy] at h1; cases h1
   ·omega
theorem great_yes {v m : BitVec 64} (hr : RtB v m) {x : BitVec 64} (h : (greatV v m x).2 = true) : hasB v m (greatV v m x).1 = true ∧ nv (greatV v m x).1 ≤ nv x ∧ ∀ y, hasB v m y = true → nv y ≤ nv x → nv y ≤ nv (greatV v m x).1 := by
 unfold greatV at h ⊢
 cases hl : (leastV (turn v m) m (bnot x)).2
 ·rw [hl] at h; simp at h
 ·obtain ⟨h1, h2, h3⟩ := least_yes (turn_rt v m) hl
  simp only [if_pos]
  refine ⟨?_, ?_, fun y hy hle => ?_⟩
  ·rw [← turn_has hr, not_not]; exact h1
  ·rw [nv_not] at h2 ⊢; omega
  ·have := h3 (bnot y) (by rw [turn_has hr]; exact hy) (by rw [nv_not, nv_not]; omega)
   rw [nv_not] at this ⊢; omega
theorem great_none {v m : BitVec 64} (hr : RtB v m) {x : BitVec 64} (h : (greatV v m x).2 = false) (y : BitVec 64) (hy : hasB v m y = true) : nv x < nv y := by
 unfold greatV at h
 cases hl : (leastV (turn v m) m (bnot x)).2
 ·have := least_none (turn_rt v m) hl (bnot y) (by rw [turn_has hr]; exact hy)
  rw [nv_not, nv_not] at this; omega
 ·rw [hl] at h; simp at h
def nLo (v m l : BitVec 64) : BitVec 64 := (leastV v m l).1
def nHi (v m h : BitVec 64) : BitVec 64 := (greatV v m h).1
def normOk (v m l h : BitVec 64) : Bool := (leastV v m l).2 && ((greatV v m h).2 && decide (nv (nLo v m l) ≤ nv (nHi v m h)))
def spV (l h : BitVec 64) : BitVec 64 := bandn l (sM l h)
def nV (v m l h : BitVec 64) : BitVec 64 := bor v (spV (nLo v m l) (nHi v m h))
def nM (m l h : BitVec 64) : BitVec 64 := band m (sM l h)
def valB (v m l h : BitVec 64) : Bool := hasB v m l && (hasB v m h && (decide (nv l ≤ nv h) && insB v m (spV l h) (sM l h)))
theorem sM_bit (l h : BitVec 64) (j : Nat) (hj : j < 64) : bit (sM l h) j = false ↔ ∀ i, j ≤ i → bit l i = bit h i := by
 unfold sM
 rw [lowMask_bit _ _ (blen_le _) hj, decide_eq_false_iff_not, Nat.not_lt, blen_bits _ _ (by omega)]
 constructor
 ·intro h1 i hi
  have := h1 i hi
  rw [bit_xor] at this
  revert this
  cases bit l i <;> cases bit h i <;> simp
 ·intro h1 i hi
  rw [bit_xor, h1 i hi]; simp
theorem span_rt (l h : BitVec 64) : RtB (spV l h) (sM l h) := by
 intro j
 by_cases hj : j < 64
 ·unfold spV; rw [bit_andn _ _ _ hj]; cases bit l j <;> cases bit (sM l h) j <;> rfl
 ·rw [bit_big _ _ (by omega)]; rfl
/- what lies between is one of the numbers of the span -/
theorem span_has {l h x : BitVec 64} (h1 : nv l ≤ nv x) (h2 : nv x ≤ nv h) : hasB (spV l h) (sM l h) x = true := by
 rw [hasB_iff]
 refine ⟨span_rt l h, fun j hj => ?_⟩
 unfold spV
 rw [bit_andn _ _ _ hj]
 cases hs : bit (sM l h) j
 ·have hlh := (sM_bit l h j hj).1 hs
  have hx : ∀ i, j ≤ i → bit x i = bit l i := by
   intro i hi
   by_cases hlt : nv l < nv x
   ·obtain ⟨a, ha, g1, g2, g3⟩ := bits_of_lt hlt
    by_cases hai : a < i
    ·by_cases h64 : i < 64
     ·exact (g3 i hai h64).symm
     ·rw [bit_big _ _ (by omega), bit_big _ _ (by omega)]
    ·exfalso
     -- x is above h then
     have : nv h < nv x := by
      refine lt_of_bits a ?_ g2 fun b hb hb2 => ?_
      ·rw [← hlh a (by omega)]; exact g1
      ·rw [← hlh b (by omega)]; exact g3 b hb hb2
     omega
   ·have : nv l = nv x := by omega
    rw [nv_inj _ _ this]
  rw [hx j (Nat.le_refl _)]
 ·simp
/- the meeting of the bits and the span -/
theorem meet_span {v m l h x : BitVec 64} (hr : RtB v m) (hx : hasB v m x = true) (h1 : nv l ≤ nv x) (h2 : nv x ≤ nv h) : eqb (bandn (bxor v (spV l h)) (bor m (sM l h))) zero = true := by
 have := sound_meet (x := x) hr (span_rt l h)
 rw [hx, span_has h1 h2] at this
 revert this
 cases eqb (bandn (bxor v (spV l h)) (bor m (sM l h))) zero <;> simp
/- right is what Norm leaves -/
theorem norm_self {v m l h : BitVec 64} (hr : RtB v m) (h1 : hasB v m l = true) (h2 : hasB v m h = true) : leastV v m l = (l, true) ∧ greatV v m h = (h, true) := by
 constructor
 ·rcases least_is hr l with ⟨_, g⟩ | ⟨g, _⟩ | ⟨g, _⟩
  ·exact g
  ·rw [h1] at g; cases g
  ·rw [h1] at g; cases g
 ·rcases great_is hr h with ⟨_, g⟩ | ⟨g, _⟩ | ⟨g, _⟩
  ·exact g
  ·rw [h2] at g; cases g
  ·rw [h2] at g; cases g
def normSame (v m l h : BitVec 64) : Bool := eqb (nV v m l h) v && (eqb (nM m (nLo v m l) (nHi v m h)) m && (eqb (nLo v m l) l && eqb (nHi v m h) h))
theorem val_iff {v m : BitVec 64} (hr : RtB v m) (l h : BitVec 64) : valB v m l h = (normOk v m l h && normSame v m l h) := by
 have key : ∀ (_ : hasB v m l = true), (insB v m (spV l h) (sM l h) = true ↔ eqb (bor v (spV l h)) v = true ∧ eqb (nM m l h) m = true) := by
  intro hl
  have hin := ((hasB_iff v m l).1 hl).2
  rw [ins_iff, eqb_iff, eqb_iff]
  constructor
  ·rintro ⟨_, _, g⟩
   constructor
   ·apply bext; intro j hj
    rw [bit_or, ← (g j hj).2]
    cases bit v j <;> cases bit (sM l h) j <;> rfl
   ·apply bext; intro j hj
    unfold nM
    rw [bit_and']
    have := (g j hj).1
    revert this
    cases bit m j <;> cases bit (sM l h) j <;> simp
  ·rintro ⟨g1, g2⟩
   refine ⟨hr, span_rt l h, fun j hj => ⟨?_, ?_⟩⟩
   ·have : bit (nM m l h) j = bit m j := by rw [g2]
    unfold nM at this
    rw [bit_and'] at this
    revert this
    cases bit m j <;> cases bit (sM l h) j <;> simp
   ·have h3 : bit (bor v (spV l h)) j = bit v j := by rw [g1]
    rw [bit_or] at h3
    have h4 := hin j hj
    have h5 : bit (spV l h) j = (bit l j && !bit (sM l h) j) := by unfold spV; rw [bit_andn _ _ _ hj]
    rw [h5] at h3 ⊢
    revert h3 h4
    cases bit v j <;> cases bit (sM l h) j <;> cases bit l j <;> cases bit m j <;> simp
 rw [Bool.eq_iff_iff]
 unfold valB normOk normSame
 simp only [Bool.and_eq_true, decide_eq_true_eq]
 constructor
 ·rintro ⟨h1, h2, h3, h4⟩
  obtain ⟨e1, e2⟩ := norm_self hr h1 h2
  have a1 : nLo v m l = l := by unfold nLo; rw [e1]
  have a2 : nHi v m h = h := by unfold nHi; rw [e2]
  have a3 : nV v m l h = bor v (spV l h) := by unfold nV; rw [a1, a2]
  rw [a3, a1, a2, e1, e2]
  have := (key h1).1 h4
  exact ⟨⟨rfl, rfl, h3⟩, this.1, this.2, eqb_self l, eqb_self h⟩
 ·rintro ⟨⟨h1, h2, h3⟩, h4, h5, h6, h7⟩
  have a1 : nLo v m l = l := (eqb_iff _ _).1 h6
  have a2 : nHi v m h = h := (eqb_iff _ _).1 h7
  have b1 := (least_yes hr h1).1
  have b2 := (great_yes hr h2).1
  have b1' : hasB v m (nLo v m l) = true := b1
  have b2' : hasB v m (nHi v m h) = true := b2
  rw [a1] at b1'
  rw [a2] at b2'
  have a3 : nV v m l h = bor v (spV l h) := by unfold nV; rw [a1, a2]
  rw [a3] at h4
  rw [a1, a2] at h5 h3
  exact ⟨b1', b2', h3, (key b1').2 ⟨h4, h5⟩⟩
def hasV (v m l h x : BitVec 64) : Bool := valB v m l h && (hasB v m x && (decide (nv l ≤ nv x) && decide (nv x ≤ nv h)))
def rawV (v m l h x : BitVec 64) : Bool := hasB v m x && (decide (nv l ≤ nv x) && decide (nv x ≤ nv h))
def insV (v m l h v' m' l' h' : BitVec 64) : Bool := valB v m l h && (valB v' m' l' h' && (insB v m v' m' && (decide (nv l' ≤ nv l) && decide (nv h ≤ nv h'))))
theorem norm_facts {v m l h : BitVec 64} (hr : RtB v m) (ho : normOk v m l h = true) :
  hasB v m (nLo v m l) = true ∧ hasB v m (nHi v m h) = true ∧ nv (nLo v m l) ≤ nv (nHi v m h) ∧ nv l ≤ nv (nLo v m l) ∧ nv (nHi v m h) ≤ nv h
  ∧ (∀ x, hasB (nV v m l h) (nM m (nLo v m l) (nHi v m h)) x = (hasB v m x && hasB (spV (nLo v m l) (nHi v m h)) (sM (nLo v m l) (nHi v m h)) x)) := by
 unfold normOk at ho
 simp only [Bool.and_eq_true, decide_eq_true_eq] at ho
 obtain ⟨h1, h2, h3⟩ := ho
 obtain ⟨a1, a2, _⟩ := least_yes hr h1
 obtain ⟨b1, b2, _⟩ := great_yes hr h2
 refine ⟨a1, b1, h3, a2, b2, fun x => ?_⟩
 have hs := sound_meet (x := x) hr (span_rt (nLo v m l) (nHi v m h))
 rw [meet_span hr (x := nLo v m l) a1 (Int.le_refl _) h3, Bool.true_and] at hs
 exact hs.symm
theorem norm_right {v m l h : BitVec 64} (hr : RtB v m) (ho : normOk v m l h = true) : valB (nV v m l h) (nM m (nLo v m l) (nHi v m h)) (nLo v m l) (nHi v m h) = true := by
 obtain ⟨h1, h2, h3, h4, h5, h6⟩ := norm_facts hr ho
 unfold valB
 rw [h6, h6, h1, h2, span_has (Int.le_refl _) h3, span_has h3 (Int.le_refl _)]
 simp only [Bool.true_and, Bool.and_eq_true, decide_eq_true_eq]
 refine ⟨h3, (ins_iff _ _ _ _).2 ⟨?_, span_rt _ _, fun j hj => ?_⟩⟩
 ·intro j
  have g1 := hr j
  have g2 := span_rt (nLo v m l) (nHi v m h) j
  unfold nV nM
  rw [bit_or, bit_and']
  revert g1 g2
  cases bit v j <;> cases bit m j <;> cases bit (spV (nLo v m l) (nHi v m h)) j <;> cases bit (sM (nLo v m l) (nHi v m h)) j <;> simp
 ·have g1 := ((hasB_iff _ _ _).1 h1).2 j hj
  have g2 : bit (spV (nLo v m l) (nHi v m h)) j = (bit (nLo v m l) j && !bit (sM (nLo v m l) (nHi v m h)) j) := by unfold spV; rw [bit_andn _ _ _ hj]
  unfold nV nM
  rw [bit_or, bit_and', g2]
  revert g1
  cases bit v j <;> cases bit m j <;> cases bit (nLo v m l) j <;> cases bit (sM (nLo v m l) (nHi v m h)) j <;> simp
theorem norm_has {v m l h : BitVec 64} (hr : RtB v m) (x : BitVec 64) :
  rawV v m l h x = (normOk v m l h && hasV (nV v m l h) (nM m (nLo v m l) (nHi v m h)) (nLo v m l) (nHi v m h) x) := by
 rw [Bool.eq_iff_iff]
 constructor
 ·intro hx
  unfold rawV at hx
  simp only [Bool.and_eq_true, decide_eq_true_eq] at hx
  obtain ⟨h1, h2, h3⟩ := hx
  have ho1 : (leastV v m l).2 = true := by
   cases e : (leastV v m l).2
   ·have := least_none hr e x h1; omega
   ·rfl
  have ho2 : (greatV v m h).2 = true := by
   cases e : (greatV v m h).2
   ·have := great_none hr e x h1; omega
   ·rfl
  have g1 : nv (nLo v m l) ≤ nv x := (least_yes hr ho1).2.2 x h1 h2
  have g2 : nv x ≤ nv (nHi v m h) := (great_yes hr ho2).2.2 x h1 h3
  have ho : normOk v m l h = true := by
   unfold normOk
   rw [ho1, ho2]
   simp only [Bool.true_and, decide_eq_true_eq]; omega
  rw [ho, Bool.true_and]
  unfold hasV
  rw [norm_right hr ho, (norm_facts hr ho).2.2.2.2.2 x, h1, span_has g1 g2]
  simp [g1, g2]
 ·intro hx
  rw [Bool.and_eq_true] at hx
  obtain ⟨ho, hx⟩ := hx
  obtain ⟨_, _, _, h4, h5, h6⟩ := norm_facts hr ho
  unfold hasV at hx
  rw [norm_right hr ho, h6 x] at hx
  simp only [Bool.true_and, Bool.and_eq_true, decide_eq_true_eq] at hx
  unfold rawV
  simp only [Bool.and_eq_true, decide_eq_true_eq]
  exact ⟨hx.1.1, by omega, by omega⟩
/- right ones -/
theorem val_facts {v m l h : BitVec 64} (hv : valB v m l h = true) : RtB v m ∧ hasB v m l = true ∧ hasB v m h = true ∧ nv l ≤ nv h ∧ insB v m (spV l h) (sM l h) = true := by
 unfold valB at hv
 simp only [Bool.and_eq_true, decide_eq_true_eq] at hv
 obtain ⟨h1, h2, h3, h4⟩ := hv
 exact ⟨((hasB_iff _ _ _).1 h1).1, h1, h2, h3, h4⟩
theorem norm_stays {v m l h : BitVec 64} (hv : valB v m l h = true) : normOk v m l h = true ∧ nV v m l h = v ∧ nM m (nLo v m l) (nHi v m h) = m ∧ nLo v m l = l ∧ nHi v m h = h := by
 have hr := (val_facts hv).1
 have := val_iff hr l h
 rw [hv] at this
 have h2 := this.symm
 unfold normSame at h2
 simp only [Bool.and_eq_true, eqb_iff] at h2
 exact ⟨h2.1, h2.2.1, h2.2.2.1, h2.2.2.2.1, h2.2.2.2.2⟩
theorem ins_of_all {av am bv bm : BitVec 64} (ha : RtB av am) (hb : RtB bv bm) (hall : ∀ x, hasB av am x = true → hasB bv bm x = true) : insB av am bv bm = true := by
 rw [ins_iff]
 refine ⟨ha, hb, fun j hj => ?_⟩
 have h1 : hasB av am av = true := by
  rw [hasB_iff]; refine ⟨ha, fun i _ => ?_⟩
  have := ha i; revert this; cases bit av i <;> cases bit am i <;> simp
 have h2 : hasB av am (bor av am) = true := by
  rw [hasB_iff]; refine ⟨ha, fun i _ => ?_⟩
  rw [bit_or]
  have := ha i; revert this; cases bit av i <;> cases bit am i <;> simp
 have g1 := ((hasB_iff _ _ _).1 (hall _ h1)).2 j hj
 have g2 := ((hasB_iff _ _ _).1 (hall _ h2)).2 j hj
 rw [bit_or] at g2
 have g3 := ha j; have g4 := hb j
 revert g1 g2 g3 g4
 cases bit av j <;> cases bit am j <;> cases bit bv j <;> cases bit bm j <;> simp
theorem ins_all {av am bv bm : BitVec 64} (hi : insB av am bv bm = true) (x : BitVec 64) (hx : hasB av am x = true) : hasB bv bm x = true := sound_inside hi hx
theorem span_wider {l h l' h' : BitVec 64} (h1 : nv l' ≤ nv l) (h2 : nv l ≤ nv h) (h3 : nv h ≤ nv h') : insB (spV l h) (sM l h) (spV l' h') (sM l' h') = true := by
 have hl := ((hasB_iff _ _ _).1 (span_has (l := l') (h := h') (x := l) h1 (by omega))).2
 have hh := ((hasB_iff _ _ _).1 (span_has (l := l') (h := h') (x := h) (by omega) h3)).2
 rw [ins_iff]
 refine ⟨span_rt _ _, span_rt _ _, fun j hj => ?_⟩
 have g0 : bit (spV l h) j = (bit l j && !bit (sM l h) j) := by unfold spV; rw [bit_andn _ _ _ hj]
 rw [g0]
 cases hs : bit (sM l' h') j
 ·have hsl : bit (sM l h) j = false := by
   rw [sM_bit _ _ _ hj]
   intro i hi
   by_cases h64 : i < 64
   ·have hsi : bit (sM l' h') i = false := by
     rw [sM_bit _ _ _ h64]
     exact fun k hk => (sM_bit _ _ _ hj).1 hs k (by omega)
    have a := hl i h64
    have b := hh i h64
    rw [hsi] at a b
    simp only [Bool.not_false, Bool.and_true] at a b
    rw [a, b]
   ·rw [bit_big _ _ (by omega), bit_big _ _ (by omega)]
  have a := hl j hj
  rw [hs] at a
  simp only [Bool.not_false, Bool.and_true] at a
  rw [hsl, a]; simp
 ·have := span_rt l' h' j
  rw [hs] at this
  simp at this
  simp [this]
/- a right one inside of bits and bounds is inside of what Norm makes of them -/
theorem inside_norm {v m l h v' m' l' h' : BitVec 64} (hv : valB v m l h = true) (hr : RtB v' m') (hi : insB v m v' m' = true) (h1 : nv l' ≤ nv l) (h2 : nv h ≤ nv h') :
  normOk v' m' l' h' = true ∧ insV v m l h (nV v' m' l' h') (nM m' (nLo v' m' l') (nHi v' m' h')) (nLo v' m' l') (nHi v' m' h') = true := by
 obtain ⟨a1, a2, a3, a4, a5⟩ := val_facts hv
 have b2 := ins_all hi _ a2
 have b3 := ins_all hi _ a3
 have hx := norm_has hr (l := l') (h := h') l
 have hraw : rawV v' m' l' h' l = true := by
  unfold rawV; rw [b2]; simp only [Bool.true_and, Bool.and_eq_true, decide_eq_true_eq]; omega
 rw [hraw] at hx
 have hx := hx.symm
 rw [Bool.and_eq_true] at hx
 have ho := hx.1
 have hx2 := norm_has hr (l := l') (h := h') h
 have hraw2 : rawV v' m' l' h' h = true := by
  unfold rawV; rw [b3]; simp only [Bool.true_and, Bool.and_eq_true, decide_eq_true_eq]; omega
 rw [hraw2] at hx2
 have hx2 := hx2.symm
 rw [Bool.and_eq_true] at hx2
 have g1 := hx.2
 have g2 := hx2.2
 unfold hasV at g1 g2
 simp only [Bool.and_eq_true, decide_eq_true_eq] at g1 g2
 refine ⟨ho, ?_⟩
 unfold insV
 rw [hv, norm_right hr ho]
 simp only [Bool.true_and, Bool.and_eq_true, decide_eq_true_eq]
 refine ⟨ins_of_all a1 (val_facts (norm_right hr ho)).1 fun x hx => ?_, g1.2.2.1, g2.2.2.2⟩
 rw [(norm_facts hr ho).2.2.2.2.2 x, ins_all hi _ hx, Bool.true_and]
 exact ins_all (span_wider g1.2.2.1 a4 g2.2.2.2) _ (ins_all a5 _ hx)
theorem w_min (x y : BitVec 64) : min (nv x) (nv y) = nv (bmin x y) := by
 unfold bmin; split <;> omega
theorem w_max (x y : BitVec 64) : max (nv x) (nv y) = nv (bmax x y) := by
 unfold bmax; split <;> omega
theorem bmin_le (x y : BitVec 64) : nv (bmin x y) ≤ nv x ∧ nv (bmin x y) ≤ nv y := by rw [← w_min]; omega
theorem le_bmax (x y : BitVec 64) : nv x ≤ nv (bmax x y) ∧ nv y ≤ nv (bmax x y) := by rw [← w_max]; omega
theorem le_bmin {x y z : BitVec 64} (h1 : nv z ≤ nv x) (h2 : nv z ≤ nv y) : nv z ≤ nv (bmin x y) := by rw [← w_min]; omega
theorem bmax_le {x y z : BitVec 64} (h1 : nv x ≤ nv z) (h2 : nv y ≤ nv z) : nv (bmax x y) ≤ nv z := by rw [← w_max]; omega
def jV (av am bv bm : BitVec 64) : BitVec 64 := bandn av (jM av am bv bm)
theorem join_rt (av am bv bm : BitVec 64) : RtB (jV av am bv bm) (jM av am bv bm) := by
 intro j
 unfold jV
 by_cases hj : j < 64
 ·rw [bit_andn _ _ _ hj]; cases bit av j <;> cases bit (jM av am bv bm) j <;> rfl
 ·rw [bit_big _ _ (by omega)]; rfl
theorem join_ins {av am bv bm : BitVec 64} (ha : RtB av am) (hb : RtB bv bm) : insB av am (jV av am bv bm) (jM av am bv bm) = true ∧ insB bv bm (jV av am bv bm) (jM av am bv bm) = true :=
 ⟨ins_of_all ha (join_rt _ _ _ _) fun x hx => sound_join ha hb (by rw [hx]; rfl), ins_of_all hb (join_rt _ _ _ _) fun x hx => sound_join ha hb (by rw [hx]; cases hasB av am x <;> rfl)⟩
theorem insV_has {v m l h v' m' l' h' x : BitVec 64} (hi : insV v m l h v' m' l' h' = true) (hx : hasV v m l h x = true) : hasV v' m' l' h' x = true := by
 unfold insV at hi
 unfold hasV at hx ⊢
 simp only [Bool.and_eq_true, decide_eq_true_eq] at hi hx ⊢
 exact ⟨hi.2.1, ins_all hi.2.2.1 _ hx.2.1, by omega, by omega⟩
theorem join_facts {v m l h v' m' l' h' : BitVec 64} (hv : valB v m l h = true) (hw : valB v' m' l' h' = true) :
  normOk (jV v m v' m') (jM v m v' m') (bmin l l') (bmax h h') = true
  ∧ insV v m l h (nV (jV v m v' m') (jM v m v' m') (bmin l l') (bmax h h')) (nM (jM v m v' m') (nLo (jV v m v' m') (jM v m v' m') (bmin l l')) (nHi (jV v m v' m') (jM v m v' m') (bmax h h'))) (nLo (jV v m v' m') (jM v m v' m') (bmin l l')) (nHi (jV v m v' m') (jM v m v' m') (bmax h h')) = true
  ∧ insV v' m' l' h' (nV (jV v m v' m') (jM v m v' m') (bmin l l') (bmax h h')) (nM (jM v m v' m') (nLo (jV v m v' m') (jM v m v' m') (bmin l l')) (nHi (jV v m v' m') (jM v m v' m') (bmax h h'))) (nLo (jV v m v' m') (jM v m v' m') (bmin l l')) (nHi (jV v m v' m') (jM v m v' m') (bmax h h')) = true := by
 have ha := (val_facts hv).1
 have hb := (val_facts hw).1
 have h1 := inside_norm hv (join_rt v m v' m') (join_ins ha hb).1 (bmin_le l l').1 (le_bmax h h').1
 have h2 := inside_norm hw (join_rt v m v' m') (join_ins ha hb).2 (bmin_le l l').2 (le_bmax h h').2
 exact ⟨h1.1, h1.2, h2.2⟩
end Go.Proofs.YtkigmocchaikgabGreat
/- The reference's Number, and val's and calc's plain numbers: x op y. -/
namespace Go.Proofs.YtkigmocchaikgabGreat
open Go.RowKit
section
attribute [local go_sem] w_and w_or w_xor w_andNot w_and1 w_and63 w_add w_sub w_mul w_sub1 w_add1 w_shl w_shl1 w_shr c_beq c_bne c_beq0 c_bne0 c_beq1 c_bne1 wrap_nv
theorem hasC {v m x : BitVec 64} {b : Bool} (h : hasB v m x = b) (w : World) :
  Calls Tryz.prog 62 #[Bt v m, U x] w fun e w' => e = .returned (.bool b) ∧ Below w.heap.size w w' := h ▸ has_any v m x w
theorem insC {av am bv bm : BitVec 64} {b : Bool} (h : insB av am bv bm = b) (w : World) :
  Calls Tryz.prog 64 #[Bt av am, Bt bv bm] w fun e w' => e = .returned (.bool b) ∧ Below w.heap.size w w' := h ▸ inside_any av am bv bm w
end
end Go.Proofs.YtkigmocchaikgabGreat
/- Bounds of what is reckoned of two numbers: plain facts. -/
namespace Go.Proofs.YtkigmocchaikgabGreat
theorem nv_add (x y : BitVec 64) : nv (badd x y) = (nv x + nv y) % 18446744073709551616 := by
 unfold nv badd; rw [BitVec.toNat_add]; omega
theorem nv_sub (x y : BitVec 64) : nv (bsub x y) = (nv x - nv y) % 18446744073709551616 := by
 rw [← w_sub, IntKind.wrap_u64]
theorem nv_mul (x y : BitVec 64) : nv (bmul x y) = (nv x * nv y) % 18446744073709551616 := by
 rw [← w_mul, IntKind.wrap_u64]
theorem nv_shl (x : BitVec 64) (n : Nat) : nv (bshl x n) = (nv x * 2 ^ n) % 18446744073709551616 := by
 rw [← w_shl, IntKind.wrap_u64]
theorem nv_shr (x : BitVec 64) (n : Nat) : nv (bshr x n) = nv x / 2 ^ n := (w_shr x n).symm
def addB (l h l' h' : BitVec 64) : BitVec 64 × BitVec 64 := if decide (nv (badd l l') < nv l) = decide (nv (badd h h') < nv h) then (badd l l', badd h h') else (zero, top)
def subB (l h l' h' : BitVec 64) : BitVec 64 × BitVec 64 := if decide (nv l < nv h') = decide (nv h < nv l') then (bsub l h', bsub h l') else (zero, top)
def overB (x y : BitVec 64) : Bool := !eqb y zero && decide (18446744073709551615 / nv y < nv x)
def mulB (l h l' h' : BitVec 64) : BitVec 64 × BitVec 64 := if overB h h' then (zero, top) else (bmul l l', bmul h h')
def boundsP (op : Int) (l h l' h' : BitVec 64) : BitVec 64 × BitVec 64 :=
 if op = 2 then addB l h l' h' else if op = 3 then subB l h l' h' else if op = 4 then mulB l h l' h'
 else if op = 5 then (zero, bmin h h') else if op = 6 then (bmax l l', top) else (zero, top)
def shlB (l h : BitVec 64) (n : Nat) : BitVec 64 × BitVec 64 := if eqb (bshr (bshl h n) n) h then (bshl l n, bshl h n) else (zero, top)
theorem ends (x : BitVec 64) : nv zero ≤ nv x ∧ nv x ≤ nv top := by
 rw [nv_zero, nv_top]
 have := nv_nonneg x
 have := nv_lt x
 omega
theorem add_bounds {l h l' h' x y : BitVec 64} (h1 : nv l ≤ nv x) (h2 : nv x ≤ nv h) (h3 : nv l' ≤ nv y) (h4 : nv y ≤ nv h') : nv (addB l h l' h').1 ≤ nv (badd x y) ∧ nv (badd x y) ≤ nv (addB l h l' h').2 := by
 unfold addB
 split
 ·rename_i he
  have a1 := nv_nonneg l; have a2 := nv_lt h; have a3 := nv_nonneg l'; have a4 := nv_lt h'
  have he' : nv (badd l l') < nv l ↔ nv (badd h h') < nv h := by simpa using he
  simp only [nv_add] at he' ⊢
  omega
 ·exact ends _
theorem sub_bounds {l h l' h' x y : BitVec 64} (h1 : nv l ≤ nv x) (h2 : nv x ≤ nv h) (h3 : nv l' ≤ nv y) (h4 : nv y ≤ nv h') : nv (subB l h l' h').1 ≤ nv (bsub x y) ∧ nv (bsub x y) ≤ nv (subB l h l' h').2 := by
 unfold subB
 split
 ·rename_i he
  have a1 := nv_nonneg l; have a2 := nv_lt h; have a3 := nv_nonneg l'; have a4 := nv_lt h'
  have he' : nv l < nv h' ↔ nv h < nv l' := by simpa using he
  simp only [nv_sub]
  omega
 ·exact ends _
theorem mul_bounds {l h l' h' x y : BitVec 64} (h1 : nv l ≤ nv x) (h2 : nv x ≤ nv h) (h3 : nv l' ≤ nv y) (h4 : nv y ≤ nv h') : nv (mulB l h l' h').1 ≤ nv (bmul x y) ∧ nv (bmul x y) ≤ nv (mulB l h l' h').2 := by
 unfold mulB
 split
 ·exact ends _
 ·rename_i ho
  have a1 := nv_nonneg l; have a3 := nv_nonneg l'
  have hx0 : 0 ≤ nv x := by omega
  have hy0 : 0 ≤ nv y := by omega
  have hbig : nv h * nv h' ≤ 18446744073709551615 := by
   unfold overB at ho
   cases hz : eqb h' zero
   ·rw [hz] at ho
    simp only [Bool.not_false, Bool.true_and, decide_eq_true_eq, Int.not_lt] at ho
    have hp : 0 < nv h' := by
     have hne : h' ≠ zero := (eqb_false _ _).1 hz
     have : nv h' ≠ 0 := fun e => hne (nv_inj _ _ (by rw [e, nv_zero]))
     have := nv_nonneg h'
     omega
    have hm : nv h * nv h' ≤ (18446744073709551615 / nv h') * nv h' := Int.mul_le_mul_of_nonneg_right ho (by omega)
    have hd : (18446744073709551615 / nv h') * nv h' ≤ 18446744073709551615 := Int.ediv_mul_le _ (by omega)
    omega
   ·rw [(eqb_iff _ _).1 hz, nv_zero]; omega
  have hlo : nv l * nv l' ≤ nv x * nv y := Int.mul_le_mul h1 h3 a3 hx0
  have hhi : nv x * nv y ≤ nv h * nv h' := Int.mul_le_mul h2 h4 hy0 (by omega)
  have h00 : 0 ≤ nv l * nv l' := Int.mul_nonneg a1 a3
  simp only [nv_mul]
  generalize nv l * nv l' = p at *
  generalize nv x * nv y = q at *
  generalize nv h * nv h' = r at *
  omega
theorem and_le (x y : BitVec 64) : nv (band x y) ≤ nv x ∧ nv (band x y) ≤ nv y := by
 unfold nv band
 rw [BitVec.toNat_and]
 have h1 : x.toNat &&& y.toNat ≤ x.toNat := Nat.and_le_left
 have h2 : x.toNat &&& y.toNat ≤ y.toNat := Nat.and_le_right
 omega
theorem le_or (x y : BitVec 64) : nv x ≤ nv (bor x y) ∧ nv y ≤ nv (bor x y) := by
 unfold nv bor
 rw [BitVec.toNat_or]
 have h1 : x.toNat ≤ x.toNat ||| y.toNat := Nat.left_le_or
 have h2 : y.toNat ≤ x.toNat ||| y.toNat := Nat.right_le_or
 omega
theorem bounds_sound {op : Int} (hop : 2 ≤ op ∧ op ≤ 7) {l h l' h' x y : BitVec 64} (h1 : nv l ≤ nv x) (h2 : nv x ≤ nv h) (h3 : nv l' ≤ nv y) (h4 : nv y ≤ nv h') :
  nv (boundsP op l h l' h').1 ≤ nv (numB op x y) ∧ nv (numB op x y) ≤ nv (boundsP op l h l' h').2 := by
 rcases op_cases hop with rfl | rfl | rfl | rfl | rfl | rfl
 ·exact add_bounds h1 h2 h3 h4
 ·exact sub_bounds h1 h2 h3 h4
 ·exact mul_bounds h1 h2 h3 h4
 ·show nv zero ≤ nv (band x y) ∧ nv (band x y) ≤ nv (bmin h h')
  have ha := and_le x y
  exact ⟨(ends _).1, le_bmin (by omega) (by omega)⟩
 ·show nv (bmax l l') ≤ nv (bor x y) ∧ nv (bor x y) ≤ nv top
  have ha := le_or x y
  exact ⟨bmax_le (by omega) (by omega), (ends _).2⟩
 ·exact ends _
theorem shr_bounds {l h x : BitVec 64} (n : Nat) (h1 : nv l ≤ nv x) (h2 : nv x ≤ nv h) : nv (bshr l n) ≤ nv (bshr x n) ∧ nv (bshr x n) ≤ nv (bshr h n) := by
 simp only [nv_shr]
 have hp : (0 : Int) < 2 ^ n := Int.pow_pos (by decide)
 exact ⟨Int.ediv_le_ediv hp h1, Int.ediv_le_ediv hp h2⟩
theorem shr_le (x : BitVec 64) (n : Nat) : nv (bshr x n) ≤ nv x := by
 rw [nv_shr]
 exact Int.ediv_le_self _ (nv_nonneg x)
theorem shl_bounds {l h x : BitVec 64} (n : Nat) (h1 : nv l ≤ nv x) (h2 : nv x ≤ nv h) : nv (shlB l h n).1 ≤ nv (bshl x n) ∧ nv (bshl x n) ≤ nv (shlB l h n).2 := by
 unfold shlB
 split
 ·rename_i he
  have he' := (eqb_iff _ _).1 he
  have hn : nv (bshr (bshl h n) n) = nv h := by rw [he']
  rw [nv_shr, nv_shl] at hn
  have hp : (0 : Int) < 2 ^ n := Int.pow_pos (by decide)
  have hh0 := nv_nonneg h
  have hlt : nv h * 2 ^ n < 18446744073709551616 := by
   have hd := Int.ediv_mul_le (nv h * 2 ^ n % 18446744073709551616) (b := 2 ^ n) (by omega)
   rw [hn] at hd
   have hm := Int.emod_lt_of_pos (nv h * 2 ^ n) (show (0 : Int) < 18446744073709551616 by decide)
   omega
  have a1 := nv_nonneg l
  have g1 : nv l * 2 ^ n ≤ nv x * 2 ^ n := Int.mul_le_mul_of_nonneg_right h1 (by omega)
  have g2 : nv x * 2 ^ n ≤ nv h * 2 ^ n := Int.mul_le_mul_of_nonneg_right h2 (by omega)
  have g0 : 0 ≤ nv l * 2 ^ n := Int.mul_nonneg a1 (by omega)
  simp only [nv_shl]
  generalize nv l * 2 ^ n = p at *
  generalize nv x * 2 ^ n = q at *
  generalize nv h * 2 ^ n = r at *
  omega
 ·exact ends _
/- what is left of both -/
theorem raw_norm {v m l h x : BitVec 64} (hr : RtB v m) (hx : rawV v m l h x = true) :
  normOk v m l h = true ∧ hasV (nV v m l h) (nM m (nLo v m l) (nHi v m h)) (nLo v m l) (nHi v m h) x = true := by
 have := norm_has hr (l := l) (h := h) x
 rw [hx] at this
 have h2 := this.symm
 rw [Bool.and_eq_true] at h2
 exact h2
end Go.Proofs.YtkigmocchaikgabGreat
/- The contracts of package calc's bounds. -/
namespace Go.Proofs.YtkigmocchaikgabGreat
open Go.RowKit
section
attribute [local go_sem] w_and w_or w_xor w_andNot w_and1 w_and63 w_add w_sub w_mul w_sub1 w_add1 w_shl w_shl1 w_shr c_beq c_bne c_beq0 c_bne0 c_beq1 c_bne1 wrap_nv
set_option maxHeartbeats 1000000 in
theorem addBounds_any (v m l h v' m' l' h' : BitVec 64) (w : World) :
  Calls Tryz.prog 143 #[Vl v m l h, Vl v' m' l' h'] w fun e w' => e = .returned (.tuple #[U (addB l h l' h').1, U (addB l h l' h').2]) ∧ Below w.heap.size w w' := by
 have Ha : Hid (addB l h l' h' = if decide (nv (badd l l') < nv l) = decide (nv (badd h h') < nv h) then (badd l l', badd h h') else (zero, top)) := rfl
 obtain ⟨p, hp⟩ : ∃ b, decide (nv (badd l l') < nv l) = b := ⟨_, rfl⟩
 obtain ⟨q, hq⟩ : ∃ b, decide (nv (badd h h') < nv h) = b := ⟨_, rfl⟩
 rw [hp, hq] at Ha
 cases p <;> cases q
 all_goals
  go_enter Tryz.func143, Tryz.ntmps143
  go_wp2_with fail
  go_quiet (fail)
  go_wp2_with fail
  go_quiet (fail)
  go_wp2_with fail
  go_ret2
  rw [Ha.out]
  exact ⟨rfl, (by repeat (first | exact Below.refl _ _ | assumption | refine below_drewN ?_ _ | refine Below.drew ?_ | refine Below.alloc ?_ (by first | exact Nat.le_refl _ | (simp; done) | (simp; omega) | omega) _ | refine Below.setCell ?_ (by first | exact Nat.le_refl _ | (simp; done) | (simp; omega) | omega) _ | refine Below.trans ?_ (Below.mono (by assumption) (by first | exact Nat.le_refl _ | (simp; done) | (simp; omega) | omega))))⟩
set_option maxHeartbeats 1000000 in
theorem subBounds_any (v m l h v' m' l' h' : BitVec 64) (w : World) :
  Calls Tryz.prog 144 #[Vl v m l h, Vl v' m' l' h'] w fun e w' => e = .returned (.tuple #[U (subB l h l' h').1, U (subB l h l' h').2]) ∧ Below w.heap.size w w' := by
 have Ha : Hid (subB l h l' h' = if decide (nv l < nv h') = decide (nv h < nv l') then (bsub l h', bsub h l') else (zero, top)) := rfl
 obtain ⟨p, hp⟩ : ∃ b, decide (nv l < nv h') = b := ⟨_, rfl⟩
 obtain ⟨q, hq⟩ : ∃ b, decide (nv h < nv l') = b := ⟨_, rfl⟩
 rw [hp, hq] at Ha
 cases p <;> cases q
 all_goals
  go_enter Tryz.func144, Tryz.ntmps144
  go_wp2_with fail
  go_quiet (fail)
  go_wp2_with fail
  first | (go_quiet (fail); go_wp2_with fail) | skip
  go_ret2
  rw [Ha.out]
  exact ⟨rfl, (by repeat (first | exact Below.refl _ _ | assumption | refine below_drewN ?_ _ | refine Below.drew ?_ | refine Below.alloc ?_ (by first | exact Nat.le_refl _ | (simp; done) | (simp; omega) | omega) _ | refine Below.setCell ?_ (by first | exact Nat.le_refl _ | (simp; done) | (simp; omega) | omega) _ | refine Below.trans ?_ (Below.mono (by assumption) (by first | exact Nat.le_refl _ | (simp; done) | (simp; omega) | omega))))⟩
set_option maxRecDepth 100000 in
set_option maxHeartbeats 1000000 in
theorem mulBounds_any (v m l h v' m' l' h' : BitVec 64) (w : World) :
  Calls Tryz.prog 145 #[Vl v m l h, Vl v' m' l' h'] w fun e w' => e = .returned (.tuple #[U (mulB l h l' h').1, U (mulB l h l' h').2]) ∧ Below w.heap.size w w' := by
 have Ha : Hid (mulB l h l' h' = if overB h h' then (zero, top) else (bmul l l', bmul h h')) := rfl
 have Ho : Hid (overB h h' = (!eqb h' zero && decide (18446744073709551615 / nv h' < nv h))) := rfl
 obtain ⟨z, hz⟩ : ∃ b, eqb h' zero = b := ⟨_, rfl⟩
 rw [hz] at Ho
 rw [Ho.out] at Ha
 cases z
 ·have hne : nv h' ≠ 0 := fun e => by
   have := nv_inj h' zero (by rw [e, nv_zero])
   rw [this] at hz; revert hz; decide
  have hpos : 0 < nv h' := by have := nv_nonneg h'; omega
  have hnn : 0 ≤ nv h' := by omega
  have hcv := nv_lt h'
  obtain ⟨D, hD⟩ : ∃ D, 18446744073709551615 / nv h' = D := ⟨_, rfl⟩
  rw [hD] at Ha
  by_cases hd : D < nv h
  ·have Hd : Hid (decide (D < nv h) = true) := decide_eq_true hd
   rw [Hd.out] at Ha
   go_enter Tryz.func145, Tryz.ntmps145
   go_wp2_with fail
   go_quiet (fail)
   go_wp2_with fail
   go_ret2
   rw [Ha.out]
   exact ⟨rfl, (by repeat (first | exact Below.refl _ _ | assumption | refine below_drewN ?_ _ | refine Below.drew ?_ | refine Below.alloc ?_ (by first | exact Nat.le_refl _ | (simp; done) | (simp; omega) | omega) _ | refine Below.setCell ?_ (by first | exact Nat.le_refl _ | (simp; done) | (simp; omega) | omega) _ | refine Below.trans ?_ (Below.mono (by assumption) (by first | exact Nat.le_refl _ | (simp; done) | (simp; omega) | omega))))⟩
  ·have Hd : Hid (decide (D < nv h) = false) := decide_eq_false hd
   rw [Hd.out] at Ha
   have hle : decide (D < nv h) = false := decide_eq_false hd
   clear hd
   go_enter Tryz.func145, Tryz.ntmps145
   go_wp2_with fail
   go_quiet (fail)
   go_wp2_with fail
   go_quiet (fail)
   go_wp2_with fail
   go_ret2
   rw [Ha.out]
   exact ⟨rfl, (by repeat (first | exact Below.refl _ _ | assumption | refine below_drewN ?_ _ | refine Below.drew ?_ | refine Below.alloc ?_ (by first | exact Nat.le_refl _ | (simp; done) | (simp; omega) | omega) _ | refine Below.setCell ?_ (by first | exact Nat.le_refl _ | (simp; done) | (simp; omega) | omega) _ | refine Below.trans ?_ (Below.mono (by assumption) (by first | exact Nat.le_refl _ | (simp; done) | (simp; omega) | omega))))⟩
 ·go_enter Tryz.func145, Tryz.ntmps145
  go_wp2_with fail
  go_quiet (fail)
  go_wp2_with fail
  go_quiet (fail)
  go_wp2_with fail
  go_ret2
  rw [Ha.out]
  exact ⟨rfl, (by repeat (first | exact Below.refl _ _ | assumption | refine below_drewN ?_ _ | refine Below.drew ?_ | refine Below.alloc ?_ (by first | exact Nat.le_refl _ | (simp; done) | (simp; omega) | omega) _ | refine Below.setCell ?_ (by first | exact Nat.le_refl _ | (simp; done) | (simp; omega) | omega) _ | refine Below.trans ?_ (Below.mono (by assumption) (by first | exact Nat.le_refl _ | (simp; done) | (simp; omega) | omega))))⟩
end
def BoxAt (w : World) (b : Nat) (vs : List Value) : Prop :=
 (∀ i v, vs[i]? = some v → w.cell? ⟨b, i, none⟩ = some v) ∧ (∀ i v, vs[i]? = some v → w.frozen? ⟨b, i, none⟩ = false) ∧ b < w.heap.size
def Boxes (w : World) : List (Nat × List Value) → Prop
 | [] => True
 | p :: L => BoxAt w p.1 p.2 ∧ (∀ q, q ∈ L → q.1 < p.1) ∧ Boxes w L
theorem BoxAt.keep {w w' : World} {b : Nat} {vs : List Value} (h : BoxAt w b vs) (hb : Below w.heap.size w w') : BoxAt w' b vs :=
 ⟨fun i v e => (hb.cell (p := ⟨b, i, none⟩) h.2.2).trans (h.1 i v e), fun i v e => (hb.frozen (p := ⟨b, i, none⟩) h.2.2).trans (h.2.1 i v e), Nat.lt_of_lt_of_le h.2.2 hb.size⟩
theorem Boxes.keep {w w' : World} : ∀ {L : List (Nat × List Value)}, Boxes w L → Below w.heap.size w w' → Boxes w' L
 | [], _, _ => trivial
 | _ :: _, h, hb => ⟨h.1.keep hb, h.2.1, Boxes.keep h.2.2 hb⟩
theorem Boxes.nil (w : World) : Boxes w [] := trivial
theorem Boxes.lt {w : World} : ∀ {L : List (Nat × List Value)}, Boxes w L → ∀ q, q ∈ L → q.1 < w.heap.size
 | [], _, _, hq => absurd hq (by simp)
 | p :: L, h, q, hq => by
  rcases List.mem_cons.1 hq with e | e
  ·rw [e]; exact h.1.2.2
  ·exact Boxes.lt h.2.2 q e
theorem Boxes.add {w : World} {L : List (Nat × List Value)} (h : Boxes w L) (cs : List Value) (t : TypeId) : Boxes (w.alloc (.cells cs.toArray t)) ((w.heap.size, cs) :: L) := by
 refine ⟨⟨fun i v e => ?_, fun i v e => ?_, by simp⟩, fun q hq => h.lt q hq, h.keep ((Below.refl _ _).alloc (Nat.le_refl _) _)⟩
 ·rw [World.cell?_alloc_new]; simpa using e
 ·rw [World.frozen?_alloc_new]
theorem Boxes.add2 {w : World} {L : List (Nat × List Value)} (h : Boxes w L) (x y : Value) (t : TypeId) : Boxes (w.alloc (.cells #[x, y] t)) ((w.heap.size, [x, y]) :: L) := h.add [x, y] t
theorem Boxes.add4 {w : World} {L : List (Nat × List Value)} (h : Boxes w L) (x y z u : Value) (t : TypeId) : Boxes (w.alloc (.cells #[x, y, z, u] t)) ((w.heap.size, [x, y, z, u]) :: L) := h.add [x, y, z, u] t
theorem Boxes.drew {w : World} {L : List (Nat × List Value)} (h : Boxes w L) (n : Nat) : Boxes (w.drewN n) L := h.keep (below_drewN (Below.refl _ _) n)
/- a box is written anew, as a whole -/
theorem BoxAt.other {w : World} {b b' i : Nat} {v : Value} {vs : List Value} (h : BoxAt w b vs) (hne : b ≠ b') : BoxAt (w.setCell ⟨b', i, none⟩ v) b vs := by
 refine ⟨fun j u e => ?_, fun j u e => ?_, by simpa using h.2.2⟩
 ·rw [World.cell?_setCell_other _ _ _ _ (by intro h; injection h with h1; exact hne h1.symm)]; exact h.1 j u e
 ·rw [World.frozen?_setCell]; exact h.2.1 j u e
theorem Boxes.other {w : World} {b' i : Nat} {v : Value} : ∀ {L : List (Nat × List Value)}, Boxes w L → (∀ q, q ∈ L → q.1 ≠ b') → Boxes (w.setCell ⟨b', i, none⟩ v) L
 | [], _, _ => trivial
 | p :: _, h, hn => ⟨h.1.other (hn p (by simp)), h.2.1, Boxes.other h.2.2 fun q hq => hn q (by simp [hq])⟩
theorem BoxAt.setOne {w : World} {b i : Nat} {v u : Value} {vs : List Value} (h : BoxAt w b vs) (hi : vs[i]? = some u) : BoxAt (w.setCell ⟨b, i, none⟩ v) b (vs.set i v) := by
 have hlt : i < vs.length := by
  rcases Nat.lt_or_ge i vs.length with h1 | h1
  ·exact h1
  ·rw [List.getElem?_eq_none h1] at hi; cases hi
 refine ⟨fun j y e => ?_, fun j y e => ?_, by simpa using h.2.2⟩
 ·by_cases hj : i = j
  ·subst hj
   rw [List.getElem?_set_self hlt] at e
   rw [World.cell?_setCell_same _ _ _ (h.1 i u hi)]; exact e
  ·rw [List.getElem?_set_ne hj] at e
   rw [World.cell?_setCell_other _ _ _ _ (by intro h; injection h with _ h2; exact hj h2)]; exact h.1 j y e
 ·rw [World.frozen?_setCell]
  by_cases hj : i = j
  ·subst hj; exact h.2.1 i u hi
  ·rw [List.getElem?_set_ne hj] at e; exact h.2.1 j y e
theorem Boxes.setOne {w : World} {b i : Nat} {v u : Value} {vs : List Value} : ∀ {L : List (Nat × List Value)} (k : Nat), Boxes w L → L[k]? = some (b, vs) → vs[i]? = some u → Boxes (w.setCell ⟨b, i, none⟩ v) (L.set k (b, vs.set i v))
 | [], _, _, e, _ => by simp at e
 | p :: L, 0, h, e, hi => by
  simp only [List.getElem?_cons_zero, Option.some.injEq] at e
  subst e
  exact ⟨h.1.setOne hi, h.2.1, h.2.2.other fun q hq => Nat.ne_of_lt (h.2.1 q hq)⟩
 | p :: L, k + 1, h, e, hi => by
  simp only [List.getElem?_cons_succ] at e
  have hm : (b, vs) ∈ L := List.mem_of_getElem? e
  refine ⟨h.1.other (Nat.ne_of_gt (h.2.1 _ hm)), fun q hq => ?_, Boxes.setOne k h.2.2 e hi⟩
  rcases List.mem_or_eq_of_mem_set hq with h1 | h1
  ·exact h.2.1 q h1
  ·rw [h1]; have := h.2.1 (b, vs) hm; exact this
theorem Boxes.set2 {w : World} {b : Nat} {x y u0 u1 : Value} {L : List (Nat × List Value)} (k : Nat) (h : Boxes w L) (e : L[k]? = some (b, [u0, u1])) :
  Boxes ((w.setCell ⟨b, 0, none⟩ x).setCell ⟨b, 1, none⟩ y) (L.set k (b, [x, y])) := by
 have h1 := Boxes.setOne (i := 0) (v := x) k h e rfl
 have e1 : (L.set k (b, [u0, u1].set 0 x))[k]? = some (b, [x, u1]) := by
  have : k < L.length := by
   rcases Nat.lt_or_ge k L.length with h2 | h2
   ·exact h2
   ·rw [List.getElem?_eq_none h2] at e; cases e
  rw [List.getElem?_set_self this]; rfl
 have h2 := Boxes.setOne (i := 1) (v := y) k h1 e1 rfl
 rw [List.set_set] at h2
 exact h2
theorem Boxes.set4 {w : World} {b : Nat} {x y z t u0 u1 u2 u3 : Value} {L : List (Nat × List Value)} (k : Nat) (h : Boxes w L) (e : L[k]? = some (b, [u0, u1, u2, u3])) :
  Boxes ((((w.setCell ⟨b, 0, none⟩ x).setCell ⟨b, 1, none⟩ y).setCell ⟨b, 2, none⟩ z).setCell ⟨b, 3, none⟩ t) (L.set k (b, [x, y, z, t])) := by
 have hk : k < L.length := by
  rcases Nat.lt_or_ge k L.length with h2 | h2
  ·exact h2
  ·rw [List.getElem?_eq_none h2] at e; cases e
 have h1 := Boxes.setOne (i := 0) (v := x) k h e rfl
 have h2 := Boxes.setOne (i := 1) (v := y) (vs := [x, u1, u2, u3]) k h1 (by rw [List.getElem?_set_self hk]; rfl) rfl
 rw [List.set_set] at h2
 have h3 := Boxes.setOne (i := 2) (v := z) (vs := [x, y, u2, u3]) k h2 (by rw [List.getElem?_set_self hk]; rfl) rfl
 rw [List.set_set] at h3
 have h4 := Boxes.setOne (i := 3) (v := t) (vs := [x, y, z, u3]) k h3 (by rw [List.getElem?_set_self hk]; rfl) rfl
 rw [List.set_set] at h4
 exact h4
/- what the walk wants of a box -/
theorem BoxAt.one {w : World} {b : Nat} {x : Value} (h : BoxAt w b [x]) : w.cell? ⟨b, 0, none⟩ = some x ∧ w.frozen? ⟨b, 0, none⟩ = false ∧ b < w.heap.size :=
 ⟨h.1 0 x rfl, h.2.1 0 x rfl, h.2.2⟩
theorem BoxAt.two {w : World} {b : Nat} {x y : Value} (h : BoxAt w b [x, y]) : w.cell? ⟨b, 0, none⟩ = some x ∧ w.cell? ⟨b, 1, none⟩ = some y ∧ w.frozen? ⟨b, 0, none⟩ = false ∧ w.frozen? ⟨b, 1, none⟩ = false ∧ b < w.heap.size :=
 ⟨h.1 0 x rfl, h.1 1 y rfl, h.2.1 0 x rfl, h.2.1 1 y rfl, h.2.2⟩
theorem BoxAt.four {w : World} {b : Nat} {x y z t : Value} (h : BoxAt w b [x, y, z, t]) : w.cell? ⟨b, 0, none⟩ = some x ∧ w.cell? ⟨b, 1, none⟩ = some y ∧ w.cell? ⟨b, 2, none⟩ = some z ∧ w.cell? ⟨b, 3, none⟩ = some t
  ∧ w.frozen? ⟨b, 0, none⟩ = false ∧ w.frozen? ⟨b, 1, none⟩ = false ∧ w.frozen? ⟨b, 2, none⟩ = false ∧ w.frozen? ⟨b, 3, none⟩ = false ∧ b < w.heap.size :=
 ⟨h.1 0 x rfl, h.1 1 y rfl, h.1 2 z rfl, h.1 3 t rfl, h.2.1 0 x rfl, h.2.1 1 y rfl, h.2.1 2 z rfl, h.2.1 3 t rfl, h.2.2⟩
theorem Boxes.head {w : World} {p : Nat × List Value} {L : List (Nat × List Value)} (h : Boxes w (p :: L)) : BoxAt w p.1 p.2 := h.1
theorem Boxes.tail {w : World} {p : Nat × List Value} {L : List (Nat × List Value)} (h : Boxes w (p :: L)) : Boxes w L := h.2.2
/- the call's own boxes, and that nothing older has turned -/
structure Kp (w0 w : World) (L : List (Nat × List Value)) : Prop where
 bel : Below w0.heap.size w0 w
 box : Boxes w L
 lo : ∀ p, p ∈ L → w0.heap.size ≤ p.1
theorem Kp.start (w : World) : Kp w w [] := ⟨Below.refl _ _, trivial, by simp⟩
theorem Kp.keep {w0 w w' : World} {L : List (Nat × List Value)} (h : Kp w0 w L) (hb : Below w.heap.size w w') : Kp w0 w' L := ⟨h.bel.trans (hb.mono h.bel.size), h.box.keep hb, h.lo⟩
theorem Kp.drew {w0 w : World} {L : List (Nat × List Value)} (h : Kp w0 w L) (n : Nat) : Kp w0 (w.drewN n) L := h.keep (below_drewN (Below.refl _ _) n)
theorem Kp.add2 {w0 w : World} {L : List (Nat × List Value)} (h : Kp w0 w L) (x y : Value) (t : TypeId) : Kp w0 (w.alloc (.cells #[x, y] t)) ((w.heap.size, [x, y]) :: L) :=
 ⟨h.bel.alloc h.bel.size _, h.box.add2 x y t, fun p hp => by
  rcases List.mem_cons.1 hp with e | e
  ·rw [e]; exact h.bel.size
  ·exact h.lo p e⟩
theorem Kp.add4 {w0 w : World} {L : List (Nat × List Value)} (h : Kp w0 w L) (x y z u : Value) (t : TypeId) : Kp w0 (w.alloc (.cells #[x, y, z, u] t)) ((w.heap.size, [x, y, z, u]) :: L) :=
 ⟨h.bel.alloc h.bel.size _, h.box.add4 x y z u t, fun p hp => by
  rcases List.mem_cons.1 hp with e | e
  ·rw [e]; exact h.bel.size
  ·exact h.lo p e⟩
/- a block that is not kept in mind -/
theorem Kp.skip {w0 w : World} {L : List (Nat × List Value)} (h : Kp w0 w L) (o : Obj) : Kp w0 (w.alloc o) L := h.keep ((Below.refl _ _).alloc (Nat.le_refl _) _)
theorem Kp.set2 {w0 w : World} {b : Nat} {x y u0 u1 : Value} {L : List (Nat × List Value)} (k : Nat) (h : Kp w0 w L) (e : L[k]? = some (b, [u0, u1])) :
  Kp w0 ((w.setCell ⟨b, 0, none⟩ x).setCell ⟨b, 1, none⟩ y) (L.set k (b, [x, y])) := by
 have hlo : w0.heap.size ≤ b := h.lo _ (List.mem_of_getElem? e)
 refine ⟨(h.bel.setCell hlo x).setCell hlo y, h.box.set2 k e, fun p hp => ?_⟩
 rcases List.mem_or_eq_of_mem_set hp with h1 | h1
 ·exact h.lo p h1
 ·rw [h1]; exact hlo
theorem Kp.set4 {w0 w : World} {b : Nat} {x y z t u0 u1 u2 u3 : Value} {L : List (Nat × List Value)} (k : Nat) (h : Kp w0 w L) (e : L[k]? = some (b, [u0, u1, u2, u3])) :
  Kp w0 ((((w.setCell ⟨b, 0, none⟩ x).setCell ⟨b, 1, none⟩ y).setCell ⟨b, 2, none⟩ z).setCell ⟨b, 3, none⟩ t) (L.set k (b, [x, y, z, t])) := by
 have hlo : w0.heap.size ≤ b := h.lo _ (List.mem_of_getElem? e)
 refine ⟨(((h.bel.setCell hlo x).setCell hlo y).setCell hlo z).setCell hlo t, h.box.set4 k e, fun p hp => ?_⟩
 rcases List.mem_or_eq_of_mem_set hp with h1 | h1
 ·exact h.lo p h1
 ·rw [h1]; exact hlo
section
attribute [local go_sem] w_and w_or w_xor w_andNot w_and1 w_and63 w_add w_sub w_mul w_sub1 w_add1 w_shl w_shl1 w_shr c_beq c_bne c_beq0 c_bne0 c_beq1 c_bne1 wrap_nv
attribute [local go_sem] w_neg w_not
set_option maxHeartbeats 1000000 in
theorem valLeast_any (v m x : BitVec 64) (w : World) :
  Calls Tryz.prog 132 #[Bt v m, U x] w fun e w' => e = .returned (.tuple #[U (leastV v m x).1, .bool (leastV v m x).2]) ∧ Below w.heap.size w w' := by
 have Hl : Hid (leastV v m x = if eqb (wrongB v m x) zero then (x, true)
  else if nv (band x (restB v m x)) < nv (band v (restB v m x)) then (bor (bandn x (restB v m x)) (band v (restB v m x)), true)
  else if eqb (freeB v m x) zero then (zero, false)
  else (bor (bor (bandn x (bsub (lowB (freeB v m x)) one)) (lowB (freeB v m x))) (band v (bsub (lowB (freeB v m x)) one)), true)) := rfl
 obtain ⟨c1, h1⟩ : ∃ b, eqb (bandn (bxor x v) m) zero = b := ⟨_, rfl⟩
 have H1 : Hid (eqb (wrongB v m x) zero = c1) := h1
 rw [H1.out] at Hl
 cases c1
 ·have h64 := blen_le (bandn (bxor x v) m)
  obtain ⟨n, hn⟩ : ∃ n, Hid (blen (bandn (bxor x v) m) = n) := ⟨_, rfl⟩
  have hn64 : n ≤ 64 := by rw [← hn.out]; exact h64
  clear h64
  have Hr : Hid (restB v m x = bsub (bshl one n) one) := by show lowMask (blen (bandn (bxor x v) m)) = _; rw [hn.out]; rfl
  have Hf : Hid (freeB v m x = bandn (bandn m x) (bsub (bshl one n) one)) := by show bandn (bandn m x) (restB v m x) = _; rw [Hr.out]
  rw [Hr.out, Hf.out] at Hl
  go_enter Tryz.func132, Tryz.ntmps132
  go_wp2_with fail
  refine (len_u _ _).mono ?_
  rintro e w1 ⟨rfl, rfl⟩
  rw [hn.out]
  by_cases hlt : nv (band x (bsub (bshl one n) one)) < nv (band v (bsub (bshl one n) one))
  ·rw [if_pos hlt] at Hl
   go_wp2_with fail
   go_ret2
   rw [Hl.out]
   exact ⟨rfl, (by repeat (first | exact Below.refl _ _ | assumption | refine below_drewN ?_ _ | refine Below.drew ?_ | refine Below.alloc ?_ (by first | exact Nat.le_refl _ | (simp; done) | (simp; omega) | omega) _ | refine Below.setCell ?_ (by first | exact Nat.le_refl _ | (simp; done) | (simp; omega) | omega) _ | refine Below.trans ?_ (Below.mono (by assumption) (by first | exact Nat.le_refl _ | (simp; done) | (simp; omega) | omega))))⟩
  ·rw [if_neg hlt] at Hl
   have hle : nv (band v (bsub (bshl one n) one)) ≤ nv (band x (bsub (bshl one n) one)) := by omega
   clear hlt
   obtain ⟨c2, h2⟩ : ∃ b, eqb (bandn (bandn m x) (bsub (bshl one n) one)) zero = b := ⟨_, rfl⟩
   rw [h2] at Hl
   cases c2
   ·go_wp2_with fail
    go_ret2
    rw [Hl.out]
    exact ⟨rfl, (by repeat (first | exact Below.refl _ _ | assumption | refine below_drewN ?_ _ | refine Below.drew ?_ | refine Below.alloc ?_ (by first | exact Nat.le_refl _ | (simp; done) | (simp; omega) | omega) _ | refine Below.setCell ?_ (by first | exact Nat.le_refl _ | (simp; done) | (simp; omega) | omega) _ | refine Below.trans ?_ (Below.mono (by assumption) (by first | exact Nat.le_refl _ | (simp; done) | (simp; omega) | omega))))⟩
   ·go_wp2_with fail
    go_ret2
    rw [Hl.out]
    exact ⟨rfl, (by repeat (first | exact Below.refl _ _ | assumption | refine below_drewN ?_ _ | refine Below.drew ?_ | refine Below.alloc ?_ (by first | exact Nat.le_refl _ | (simp; done) | (simp; omega) | omega) _ | refine Below.setCell ?_ (by first | exact Nat.le_refl _ | (simp; done) | (simp; omega) | omega) _ | refine Below.trans ?_ (Below.mono (by assumption) (by first | exact Nat.le_refl _ | (simp; done) | (simp; omega) | omega))))⟩
 ·go_enter Tryz.func132, Tryz.ntmps132
  go_wp2_with fail
  go_ret2
  rw [Hl.out]
  exact ⟨rfl, (by repeat (first | exact Below.refl _ _ | assumption | refine below_drewN ?_ _ | refine Below.drew ?_ | refine Below.alloc ?_ (by first | exact Nat.le_refl _ | (simp; done) | (simp; omega) | omega) _ | refine Below.setCell ?_ (by first | exact Nat.le_refl _ | (simp; done) | (simp; omega) | omega) _ | refine Below.trans ?_ (Below.mono (by assumption) (by first | exact Nat.le_refl _ | (simp; done) | (simp; omega) | omega))))⟩
set_option maxHeartbeats 1000000 in
theorem valGreat_any (v m x : BitVec 64) (w : World) :
  Calls Tryz.prog 133 #[Bt v m, U x] w fun e w' => e = .returned (.tuple #[U (greatV v m x).1, .bool (greatV v m x).2]) ∧ Below w.heap.size w w' := by
 have Hg : Hid (greatV v m x = if (leastV (turn v m) m (bnot x)).2 then (bnot (leastV (turn v m) m (bnot x)).1, true) else (zero, false)) := rfl
 have Hc : Hid (∀ w, Calls Tryz.prog 132 #[Bt (bnot (bor v m)) m, U (bnot x)] w fun e w' => e = .returned (.tuple #[U (leastV (turn v m) m (bnot x)).1, .bool (leastV (turn v m) m (bnot x)).2]) ∧ Below w.heap.size w w') := fun w => valLeast_any (turn v m) m (bnot x) w
 generalize leastV (turn v m) m (bnot x) = S at Hg Hc
 obtain ⟨sb, sf⟩ := S
 cases sf
 all_goals
  go_enter Tryz.func133, Tryz.ntmps133
  go_wp2_with fail
  refine (Hc.out _).mono ?_
  rintro e w1 ⟨rfl, hb1⟩
  go_wp2_with fail
  go_ret2
  rw [Hg.out]
  exact ⟨rfl, (by repeat (first | exact Below.refl _ _ | assumption | refine below_drewN ?_ _ | refine Below.drew ?_ | refine Below.alloc ?_ (by first | exact Nat.le_refl _ | (simp; done) | (simp; omega) | omega) _ | refine Below.setCell ?_ (by first | exact Nat.le_refl _ | (simp; done) | (simp; omega) | omega) _ | refine Below.trans ?_ (Below.mono (by assumption) (by first | exact Nat.le_refl _ | (simp; done) | (simp; omega) | omega))))⟩
end
section
attribute [local go_sem] w_and w_or w_xor w_andNot w_and1 w_and63 w_add w_sub w_mul w_sub1 w_add1 w_shl w_shl1 w_shr c_beq c_bne c_beq0 c_bne0 c_beq1 c_bne1 wrap_nv
abbrev V0 : Value := Vl zero zero zero zero
set_option maxHeartbeats 1000000 in
theorem norm_none {v m l h : BitVec 64} (hr : Hid (eqb (band v m) zero = true)) (ho : Hid (normOk v m l h = false)) (w : World) :
  Calls Tryz.prog 113 #[Vl v m l h] w fun e w' => e = .returned (.tuple #[V0, .bool false, N 0]) ∧ Below w.heap.size w w' := by
 have HL : Hid (∀ w, Calls Tryz.prog 132 #[Bt v m, U l] w fun e w' => e = .returned (.tuple #[U (leastV v m l).1, .bool (leastV v m l).2]) ∧ Below w.heap.size w w') := fun w => valLeast_any v m l w
 have HG : Hid (∀ w, Calls Tryz.prog 133 #[Bt v m, U h] w fun e w' => e = .returned (.tuple #[U (greatV v m h).1, .bool (greatV v m h).2]) ∧ Below w.heap.size w w') := fun w => valGreat_any v m h w
 have Ho : Hid (((leastV v m l).2 && ((greatV v m h).2 && decide (nv (leastV v m l).1 ≤ nv (greatV v m h).1))) = false) := ho
 clear ho
 generalize leastV v m l = L at HL Ho
 generalize greatV v m h = G at HG Ho
 obtain ⟨lo, lb⟩ := L
 obtain ⟨hi, gb⟩ := G
 go_enter Tryz.func113, Tryz.ntmps113
 go_wp2_with fail
 refine (check_any hr _).mono ?_
 rintro e w1 ⟨rfl, hb1⟩
 have hK := (((Kp.start w).add4 _ _ _ _ _).add4 _ _ _ _ _).keep hb1
 simp only [World.size_alloc] at hK
 obtain ⟨r0, r1, r2, r3, r4, r5, r6, r7, r8⟩ := hK.box.head.four
 obtain ⟨a0, a1, a2, a3, a4, a5, a6, a7, a8⟩ := hK.box.tail.head.four
 first | rw [er_t] | rw [er_f]
 go_wp2_with fail
 refine (HL.out _).mono ?_
 rintro e w2 ⟨rfl, hb2⟩
 have hK2 := hK.keep hb2
 clear r0 r1 r2 r3 r4 r5 r6 r7 r8 a0 a1 a2 a3 a4 a5 a6 a7 a8
 obtain ⟨r0, r1, r2, r3, r4, r5, r6, r7, r8⟩ := hK2.box.head.four
 obtain ⟨a0, a1, a2, a3, a4, a5, a6, a7, a8⟩ := hK2.box.tail.head.four
 go_wp2_with fail
 refine (HG.out _).mono ?_
 rintro e w3 ⟨rfl, hb3⟩
 have hK3 := hK2.keep hb3
 clear r0 r1 r2 r3 r4 r5 r6 r7 r8 a0 a1 a2 a3 a4 a5 a6 a7 a8
 obtain ⟨r0, r1, r2, r3, r4, r5, r6, r7, r8⟩ := hK3.box.head.four
 obtain ⟨a0, a1, a2, a3, a4, a5, a6, a7, a8⟩ := hK3.box.tail.head.four
 cases lb
 ·go_wp2_with fail
  exact bodyPost_ret (v := .tuple #[V0, .bool false, N 0]) (by simp [results, Tryz.results113, go_sem, nv_zero, r0, r1, r2, r3]) rfl ⟨rfl, (hK3.set4 0 rfl).bel⟩
 ·cases gb
  ·go_wp2_with fail
   exact bodyPost_ret (v := .tuple #[V0, .bool false, N 0]) (by simp [results, Tryz.results113, go_sem, nv_zero, r0, r1, r2, r3]) rfl ⟨rfl, (hK3.set4 0 rfl).bel⟩
  ·have hlt : nv hi < nv lo := by
    have := Ho.out
    simp only [Bool.true_and, decide_eq_false_iff_not] at this
    omega
   clear Ho
   go_wp2_with fail
   exact bodyPost_ret (v := .tuple #[V0, .bool false, N 0]) (by simp [results, Tryz.results113, go_sem, nv_zero, r0, r1, r2, r3]) rfl ⟨rfl, (hK3.set4 0 rfl).bel⟩
theorem both_right {v m v' m' : BitVec 64} (h1 : RtB v m) (h2 : RtB v' m') : Hid ((eqb (band v m) zero && eqb (band v' m') zero) = true) := by
 show _ = true
 rw [(rt_iff _ _).2 h1, (rt_iff _ _).2 h2]; rfl
set_option maxHeartbeats 1000000 in
theorem norm_yes {v m l h : BitVec 64} (hr : Hid (eqb (band v m) zero = true)) (ho : Hid (normOk v m l h = true)) (w : World) :
  Calls Tryz.prog 113 #[Vl v m l h] w fun e w' => e = .returned (.tuple #[Vl (nV v m l h) (nM m (nLo v m l) (nHi v m h)) (nLo v m l) (nHi v m h), .bool true, N 0]) ∧ Below w.heap.size w w' := by
 have hrt := (rt_iff v m).1 hr.out
 have hfa := norm_facts hrt ho.out
 have ho' := ho.out
 unfold normOk at ho'
 simp only [Bool.and_eq_true] at ho'
 have HL : Hid (∀ w, Calls Tryz.prog 132 #[Bt v m, U l] w fun e w' => e = .returned (.tuple #[U (nLo v m l), .bool true]) ∧ Below w.heap.size w w') := fun w => by
  have := valLeast_any v m l w; rw [ho'.1] at this; exact this
 have HG : Hid (∀ w, Calls Tryz.prog 133 #[Bt v m, U h] w fun e w' => e = .returned (.tuple #[U (nHi v m h), .bool true]) ∧ Below w.heap.size w w') := fun w => by
  have := valGreat_any v m h w; rw [ho'.2.1] at this; exact this
 have HS : Hid (∀ w, Calls Tryz.prog 63 #[U (nLo v m l), U (nHi v m h)] w fun e w' => e = .returned (.tuple #[Bt (spV (nLo v m l) (nHi v m h)) (sM (nLo v m l) (nHi v m h)), N 0]) ∧ Below w.heap.size w w') := fun w => span_ok hfa.2.2.1 w
 have HM : Hid (∀ w, Calls Tryz.prog 107 #[Bt v m, Bt (spV (nLo v m l) (nHi v m h)) (sM (nLo v m l) (nHi v m h))] w fun e w' => e = .returned (.tuple #[Bt (nV v m l h) (nM m (nLo v m l) (nHi v m h)), .bool true, N 0]) ∧ Below w.heap.size w w') := fun w =>
  meet_ok (both_right hrt (span_rt _ _)) (meet_span hrt hfa.1 (Int.le_refl _) hfa.2.2.1) w
 have hle := hfa.2.2.1
 clear hfa ho' ho hrt
 generalize nV v m l h = rv at HM ⊢
 generalize nM m (nLo v m l) (nHi v m h) = rm at HM ⊢
 generalize spV (nLo v m l) (nHi v m h) = sv at HM HS
 generalize sM (nLo v m l) (nHi v m h) = sm at HM HS
 generalize nLo v m l = lo at HL HS hle ⊢
 generalize nHi v m h = hi at HG HS hle ⊢
 go_enter Tryz.func113, Tryz.ntmps113
 go_wp2_with fail
 refine (check_any hr _).mono ?_
 rintro e w1 ⟨rfl, hb1⟩
 have hK := (((Kp.start w).add4 _ _ _ _ _).add4 _ _ _ _ _).keep hb1
 simp only [World.size_alloc] at hK
 obtain ⟨r0, r1, r2, r3, r4, r5, r6, r7, r8⟩ := hK.box.head.four
 obtain ⟨a0, a1, a2, a3, a4, a5, a6, a7, a8⟩ := hK.box.tail.head.four
 first | rw [er_t] | rw [er_f]
 go_wp2_with fail
 refine (HL.out _).mono ?_
 rintro e w2 ⟨rfl, hb2⟩
 have hK2 := hK.keep hb2
 clear r0 r1 r2 r3 r4 r5 r6 r7 r8 a0 a1 a2 a3 a4 a5 a6 a7 a8
 obtain ⟨r0, r1, r2, r3, r4, r5, r6, r7, r8⟩ := hK2.box.head.four
 obtain ⟨a0, a1, a2, a3, a4, a5, a6, a7, a8⟩ := hK2.box.tail.head.four
 go_wp2_with fail
 refine (HG.out _).mono ?_
 rintro e w3 ⟨rfl, hb3⟩
 have hK3 := hK2.keep hb3
 clear r0 r1 r2 r3 r4 r5 r6 r7 r8 a0 a1 a2 a3 a4 a5 a6 a7 a8
 obtain ⟨r0, r1, r2, r3, r4, r5, r6, r7, r8⟩ := hK3.box.head.four
 obtain ⟨a0, a1, a2, a3, a4, a5, a6, a7, a8⟩ := hK3.box.tail.head.four
 go_wp2_with fail
 refine (HS.out _).mono ?_
 rintro e w4 ⟨rfl, hb4⟩
 have hK4 := hK3.keep hb4
 clear r0 r1 r2 r3 r4 r5 r6 r7 r8 a0 a1 a2 a3 a4 a5 a6 a7 a8
 obtain ⟨r0, r1, r2, r3, r4, r5, r6, r7, r8⟩ := hK4.box.head.four
 obtain ⟨a0, a1, a2, a3, a4, a5, a6, a7, a8⟩ := hK4.box.tail.head.four
 go_wp2_with fail
 refine (HM.out _).mono ?_
 rintro e w5 ⟨rfl, hb5⟩
 have hK5 := (hK4.add2 _ _ _).keep hb5
 clear r0 r1 r2 r3 r4 r5 r6 r7 r8 a0 a1 a2 a3 a4 a5 a6 a7 a8
 obtain ⟨s0, s1, s2, s3, s4⟩ := hK5.box.head.two
 obtain ⟨r0, r1, r2, r3, r4, r5, r6, r7, r8⟩ := hK5.box.tail.head.four
 obtain ⟨a0, a1, a2, a3, a4, a5, a6, a7, a8⟩ := hK5.box.tail.tail.head.four
 go_wp2_with fail
 exact bodyPost_ret (v := .tuple #[Vl rv rm lo hi, .bool true, N 0]) (by simp [results, Tryz.results113, go_sem, r0, r1, r2, r3, r8]) rfl ⟨rfl, ((hK5.set4 1 rfl).add2 _ _ _).bel⟩
end
end Go.Proofs.YtkigmocchaikgabGreat
