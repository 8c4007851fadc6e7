import Derived.Test.YtkigmocchaikgaaGreatDoorCs2
import Derived.Test.YtkigmocchaikgaaGreatDoorCs5
import Derived.Test.YtkigmocchaikgaaGreatDoorCards
import Derived.Test.YtkigmocchaikgaaGreatDoorTie
import Derived.ProofKit
import Derived.OpenShut
import Derived.Deep.DeepHandedRow
import Derived.Lay
import Derived.Stop.LaidErr
import Derived.SevenTiedAt
import Derived.Shelf.Vars
/- CodeShows: whatever is handed in, the call returns true and leaves its arguments as they were; the library's variables hold, where the call begins, what the row lists, and the card ties that to the program's text. No other condition. -/
namespace Go.Proofs.YtkigmocchaikgaaGreatDoor
open Go.ChangeShapes Go.WideShapes Go.ChangeAt Go.RowKit Go.Joins
theorem star : "*" ++ "errors.errorString" = "*errors.errorString" := by decide
theorem esRow (u : TypeId) (h : Tryz.prog.typeName? 3 u = some "*errors.errorString") : u = 129 :=
 typeName_ptr_named (nm := "errors.errorString") (by rw [star]; kernel_rfl) (by kernel_rfl) (by decide) u (by rw [star]; exact h)
theorem esCells : Tryz.prog.cellsOf 131 = 1 := by kernel_rfl
theorem strCells : Tryz.prog.cellsOf 9 = 1 := by kernel_rfl
theorem u64Cells : Tryz.prog.cellsOf 41 = 1 := by kernel_rfl
theorem powCells : Tryz.prog.cellsOf 95 = 20 := by kernel_rfl
/- what the row's list and the world's shape give -/
theorem good_of {W : World} (hL : laidMetH Tryz.prog Rows.codeShowsRow.laid W) (hsh : W.ShapedOpen Tryz.prog) : Gw W := by
 rw [MakeChecks.laidMetH_plain _ _ _ (by kernel_rfl)] at hL
 have hL1 : laidMet Tryz.prog (("math/bits.deBruijn32tab", Rows.laid_math_bits_deBruijn32tab) :: ("math/bits.deBruijn64tab", Rows.laid_math_bits_deBruijn64tab) :: ("internal/strconv.uint64pow10", Lib.tabData .u64 Lib.pow10Tab) :: ("unicode/utf8.acceptRanges", Rows.laid_unicode_utf8_acceptRanges) :: ("strconv.ErrRange", Rows.laid_strconv_ErrRange) :: ("strconv.ErrSyntax", Rows.laid_strconv_ErrSyntax) :: [("unicode/utf8.first", Rows.laid_unicode_utf8_first)]) W := hL
 have ht := Lib.tabIs_of_head (g := 0) (by kernel_rfl) (by kernel_rfl) Tryz.underlying95 Tryz.underlying41 u64Cells powCells hL1.tail.tail
 obtain ⟨a1, s1, h1, _⟩ := laid_sentinel (g := 7) (ti := 45) hL1.tail.tail.tail.tail (by kernel_rfl) (by kernel_rfl) Tryz.underlying45 esRow Tryz.underlying129 Tryz.underlying131 rfl rfl Tryz.underlying9 esCells strCells
 obtain ⟨a2, s2, h2, _⟩ := laid_sentinel (g := 6) (ti := 45) hL1.tail.tail.tail.tail.tail (by kernel_rfl) (by kernel_rfl) Tryz.underlying45 esRow Tryz.underlying129 Tryz.underlying131 rfl rfl Tryz.underlying9 esCells strCells
 have c1 : W.cell? ⟨7, 0, none⟩ = some (.iface 129 (.pointer (some a1))) := by simpa using World.var?_cell (g := 7) (by kernel_rfl) h1 0
 have c2 : W.cell? ⟨6, 0, none⟩ = some (.iface 129 (.pointer (some a2))) := by simpa using World.var?_cell (g := 6) (by kernel_rfl) h2 0
 refine ⟨cell_of_shapedOpen_int (t := 3) (zero := #[.int .i64 0]) (k := .i64) hsh (by exact of_decide_eq_true (by kernel_rfl)) (by kernel_rfl) rfl (by kernel_rfl) (by kernel_rfl) Tryz.underlying3, ⟨_, _, c2⟩, ⟨_, _, c1⟩, ht, ?_⟩
 rcases Nat.lt_or_ge 7 W.heap.size with h | h
 ·exact h
 ·simp [World.cell?, Array.getElem?_eq_none h] at c1
theorem own0 : ownKnob Tryz.prog.godebug = none := by kernel_rfl
set_option maxRecDepth 100000 in
theorem codeShows_lifted (os : Os) (started : os.Started) (H : Type) (enc : TypeId × Value → H) (F : Stop.Interp) :
  ReturnsInHanded {} Tryz.checked os 3 .any ((OpenSpec.ofChange Rows.codeShowsSpec).preRow enc Tryz.prog Tryz.f3 Rows.codeShowsRow.domain false Rows.codeShowsRow.laid) (((OpenSpec.ofChange Rows.codeShowsSpec).at F).post enc Tryz.prog Tryz.f3 false true false false) := by
 refine returnsInHanded_of_row (C := Tryz.checked) (s := OpenSpec.ofChange Rows.codeShowsSpec) own0 started (by kernel_rfl) Tryz.func3
  (ChangeSpec.witness_shaped (enc := enc) (C := Tryz.checked) (os := os) (s := Rows.codeShowsSpec) (X := fun w _ => laidMetH Tryz.prog Rows.codeShowsRow.laid w) false (World.laidAll Tryz.prog os Rows.codeShowsRow.laid) #[.slice none 0 0, .string ⟨#[]⟩] 8 (World.laidAll_os _ _ _)
   (World.shaped_of_ZipB (by kernel_rfl) (by kernel_rfl)) (by kernel_rfl) (by kernel_rfl) (by kernel_rfl)
   (by rw [MakeChecks.laidMetH_plain _ _ _ (by kernel_rfl)]; exact laidMet_laidAll _ (by kernel_rfl) (by kernel_rfl))) ?_
 intro W base args ds gs before hval0 hW _ _ _ hL hsh _
 have hval : ∀ (j : Nat) t v, Tryz.f3.params[j]? = some t → args[j]? = some v → Value.okWide Tryz.prog W .any base t v := hval0
 have hW' := hW
 obtain ⟨p, q, hA0, hV, rfl, hfz, hnd⟩ := hW
 have hA : DataW.TrodAll enc Tryz.prog W 0 (fun _ => true) true Tryz.f3.params.toList args.toList ds p := hA0
 rw [Tryz.params3] at hA hval
 obtain ⟨v0, vs0, d0, ds0, p0, q0, hargs, rfl, rfl, h0, r0⟩ := trodAll_cons hA
 obtain ⟨v1, vs1, d1, ds1, p1, q1, rfl, rfl, rfl, h1, r1⟩ := trodAll_cons r0
 obtain ⟨rfl, rfl, rfl⟩ := trodAll_nil r1
 obtain rfl : args = #[v0, v1] := by cases args; simp_all
 obtain ⟨rfl, rfl⟩ := trodVars_none hV
 have lt : ∀ {t v d p}, DataW.Trod enc Tryz.prog W 0 (fun _ => true) true t v d p → ∀ x ∈ p, x.block < W.heap.size := fun k => by obtain ⟨m, hm⟩ := k; exact DataW.trod_lt m _ _ _ hm
 have hp0 := arg_prog (hval 0 22 v0 rfl rfl) h0
 obtain ⟨a1, rfl⟩ := arg_str (hval 1 9 v1 rfl rfl)
 clear hA0 hval0 hval hargs
 have hg := good_of hL hsh
 have main : Calls Tryz.prog 3 #[v0, .string a1] W fun e w' => e = .returned (.bool true) ∧ Below W.heap.size W w' := by
  rcases hp0 with rfl | ⟨b, o, L, c, rfl, hP⟩
  ·exact codeShows_nil a1 hg
  ·exact codeShows_prog a1 hP hg
 refine main.mono fun e W' ⟨he, bel⟩ => ?_
 subst he
 exact ⟨_, rfl, _, _, _, [], _, [], hW', trodAll_mk1 (shut_bool Tryz.underlying4 _),
  (trodAll_cons_mk (Below.trod Tryz.laidOut (by kernel_rfl) (of_decide_eq_true (by kernel_rfl)) h0 bel (lt h0))
  (trodAll_cons_mk (Below.trod Tryz.laidOut (by kernel_rfl) (of_decide_eq_true (by kernel_rfl)) h1 bel (lt h1)) trodAll_mk0)), rfl, bel.frame _, fun h => by cases h⟩
theorem codeShows_said : Rows.CodeShowsSaid :=
 OpenClaim.holds_of_cond 3 Tryz.f3 rfl rfl rfl rfl rfl rfl rfl ⟨rfl, rfl, rfl, rfl, rfl⟩ rfl rfl rfl rfl rfl (by kernel_rfl) Tryz.func3 (by kernel_rfl)
  (of_decide_eq_true (by kernel_rfl)) (by unfold Func.isWrapper; first | (rw [if_pos (by decide +kernel)]; kernel_rfl) | (rw [if_neg (by decide +kernel)]; exact ⟨rfl, rfl⟩))
  (fun os started H enc _ F => by rw [OpenClaim.pre_eq_preRow]; exact codeShows_lifted os started H enc F)
theorem codeShows_holds : Rows.CodeShowsCardSaid :=
 Claim7.holds_tied_plain_at .later [] _ _ _ _ codeShows_said (fun _ h => by cases h) (by kernel_rfl) (fun _ h => by cases h) codeShows_row_tie rfl ⟨rfl, rfl⟩ (by kernel_rfl) rfl
  (fun f fn hf hfn => by
   obtain rfl : f = 3 := Option.some.inj ((show Tryz.prog.funcNamed "tnumward/tnumwardlaw.CodeShows" = some 3 by kernel_rfl).symm.trans hf) |>.symm
   obtain rfl : fn = Tryz.f3 := (Option.some.inj (Tryz.func3.symm.trans hfn)).symm
   exact ⟨by kernel_rfl, fun j t ht => by
    rw [Tryz.params3] at ht
    have hm : t ∈ [22, 9] := by simpa using Array.mem_of_getElem? ht
    have hall : ([22, 9].all fun u => !Tryz.prog.wantsStandIn u) = true := by kernel_rfl
    exact (show Tryz.prog.wantsStandIn t = false by simpa using List.all_eq_true.1 hall t hm)⟩)
  (by kernel_rfl)
end Go.Proofs.YtkigmocchaikgaaGreatDoor
