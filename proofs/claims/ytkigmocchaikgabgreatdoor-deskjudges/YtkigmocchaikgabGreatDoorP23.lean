import Derived.Test.YtkigmocchaikgabGreatDoorDj5
import Derived.Test.YtkigmocchaikgabGreatDoorDj12
import Derived.Test.YtkigmocchaikgabGreatDoorCards
import Derived.Test.YtkigmocchaikgabGreatDoorTie
import Derived.ProofKit
import Derived.OpenShut
import Derived.Deep.DeepHandedRow
import Derived.Lay
import Derived.Stop.LaidErr
import Derived.SevenTiedAt
import Derived.Shelf.Vars
/- DeskJudges: whatever is handed in, the call returns true and leaves its arguments as they were; the library's variables hold, where the call begins, what the row lists, and the card ties that to the program's text. No other condition. -/
namespace Go.Proofs.YtkigmocchaikgabGreatDoor
open Go.ChangeShapes Go.WideShapes Go.ChangeAt Go.RowKit Go.Joins
theorem star : "*" ++ "errors.errorString" = "*errors.errorString" := by decide
theorem yayv (u:TypeId) (h:Tryz.prog.typeName? 3 u=some "*errors.errorString"):u=238 :=
 typeName_ptr_named (nm := "errors.errorString") (by rw [star];kernel_rfl) (by kernel_rfl) (by decide) u (by rw [star];exact h)
theorem drEs:Tryz.prog.cellsOf 240=1:=by kernel_rfl
theorem yazw:Tryz.prog.cellsOf 9=1:=by kernel_rfl
theorem ybaa:Tryz.prog.cellsOf 41=1:=by kernel_rfl
theorem ybai:Tryz.prog.cellsOf 184=20:=by kernel_rfl
theorem yass {W:World} (hL:laidMetH Tryz.prog Rows.deskJudgesRow.laid W) (hsh:W.ShapedOpen Tryz.prog):Gw W:=by
 rw [MakeChecks.laidMetH_plain _ _ _ (by kernel_rfl)] at hL
 have hL1:laidMet Tryz.prog (("math/bits.deBruijn32tab",Rows.laid_math_bits_deBruijn32tab)::("math/bits.deBruijn64tab",Rows.laid_math_bits_deBruijn64tab)::("internal/strconv.uint64pow10",Lib.tabData .u64 Lib.pow10Tab)::("unicode/utf8.acceptRanges",Rows.laid_unicode_utf8_acceptRanges)::("strconv.ErrRange",Rows.laid_strconv_ErrRange)::("strconv.ErrSyntax",Rows.laid_strconv_ErrSyntax)::[("unicode/utf8.first",Rows.laid_unicode_utf8_first)]) W:=hL
 have ht:=Lib.tabIs_of_head (g:=0) (by kernel_rfl) (by kernel_rfl) Tryz.underlying184 Tryz.underlying41 ybaa ybai hL1.tail.tail
 obtain ⟨a1,s1,h1,_⟩:=laid_sentinel (g:=7) (ti:=87) hL1.tail.tail.tail.tail (by kernel_rfl) (by kernel_rfl) Tryz.underlying87 yayv Tryz.underlying238 Tryz.underlying240 rfl rfl Tryz.underlying9 drEs yazw
 obtain ⟨a2,s2,h2,_⟩:=laid_sentinel (g:=6) (ti:=87) hL1.tail.tail.tail.tail.tail (by kernel_rfl) (by kernel_rfl) Tryz.underlying87 yayv Tryz.underlying238 Tryz.underlying240 rfl rfl Tryz.underlying9 drEs yazw
 have c1:W.cell? ⟨7,0,none⟩=some (.iface 238 (.pointer (some a1))):=by simpa using World.var?_cell (g:=7) (by kernel_rfl) h1 0
 have c2:W.cell? ⟨6,0,none⟩=some (.iface 238 (.pointer (some a2))):=by simpa using World.var?_cell (g:=6) (by kernel_rfl) h2 0
 refine ⟨cell_of_shapedOpen_int (t:=3) (zero:=#[.int .i64 0]) (k:=.i64) hsh (by exact of_decide_eq_true (by kernel_rfl)) (by kernel_rfl) rfl (by kernel_rfl) (by kernel_rfl) Tryz.underlying3,⟨_,_,c2⟩,⟨_,_,c1⟩,ht,?_⟩
 rcases Nat.lt_or_ge 7 W.heap.size with h | h
 ·exact h
 ·simp [World.cell?,Array.getElem?_eq_none h] at c1
theorem own0:ownKnob Tryz.prog.godebug=none:=by kernel_rfl
set_option maxRecDepth 100000 in
theorem zkd (os:Os) (started:os.Started) (H:Type) (enc:TypeId×Value→H) (F:Stop.Interp) :
  ReturnsInHanded {} Tryz.checked os 3 .any ((OpenSpec.ofChange Rows.deskJudgesSpec).preRow enc Tryz.prog Tryz.f3 Rows.deskJudgesRow.domain false Rows.deskJudgesRow.laid) (((OpenSpec.ofChange Rows.deskJudgesSpec).at F).post enc Tryz.prog Tryz.f3 false true false false):=by
 refine returnsInHanded_of_row (C:=Tryz.checked) (s:=OpenSpec.ofChange Rows.deskJudgesSpec) own0 started (by kernel_rfl) Tryz.func3
  (ChangeSpec.witness_shaped (enc:=enc) (C:=Tryz.checked) (os:=os) (s:=Rows.deskJudgesSpec) (X:=fun w _=>laidMetH Tryz.prog Rows.deskJudgesRow.laid w) false (World.laidAll Tryz.prog os Rows.deskJudgesRow.laid) #[.string ⟨#[]⟩] 8 (World.laidAll_os _ _ _)
   (World.shaped_of_ZipB (by kernel_rfl) (by kernel_rfl)) (by kernel_rfl) (by kernel_rfl) (by kernel_rfl)
   (by rw [MakeChecks.laidMetH_plain _ _ _ (by kernel_rfl)];exact laidMet_laidAll _ (by kernel_rfl) (by kernel_rfl))) ?_
 intro W base args ds gs before hval0 hW _ _ _ hL hsh _
 have hval:∀ (j:Nat) t v,Tryz.f3.params[j]?=some t→args[j]?=some v→Value.okWide Tryz.prog W .any base t v:=hval0
 have hW':=hW
 obtain ⟨p,q,hA0,hV,rfl,hfz,hnd⟩:=hW
 have hA:DataW.TrodAll enc Tryz.prog W 0 (fun _=>true) true Tryz.f3.params.toList args.toList ds p:=hA0
 rw [Tryz.params3] at hA hval
 obtain ⟨v1,vs1,d1,ds1,p1,q1,hargs,rfl,rfl,h1,r1⟩:=trodAll_cons hA
 obtain ⟨rfl,rfl,rfl⟩:=trodAll_nil r1
 obtain rfl:args=#[v1]:=by cases args;simp_all
 obtain ⟨rfl,rfl⟩:=trodVars_none hV
 have lt:∀ {t v d p},DataW.Trod enc Tryz.prog W 0 (fun _=>true) true t v d p→∀ x∈p,x.block<W.heap.size:=fun k=>by obtain ⟨m,hm⟩:=k;exact DataW.trod_lt m _ _ _ hm
 obtain ⟨a1,rfl⟩:=yatp (hval 0 9 v1 rfl rfl)
 clear hA0 hval0 hval hargs
 have hg:=yass hL hsh
 have main:Calls Tryz.prog 3 #[.string a1] W fun e w'=>e=.returned (.bool true)∧Below W.heap.size W w':=zlf a1 hg
 refine main.mono fun e W' ⟨he,bel⟩=>?_
 subst he
 exact ⟨_,rfl,_,_,_,[],_,[],hW',trodAll_mk1 (shut_bool Tryz.underlying4 _),
  (trodAll_cons_mk (Below.trod Tryz.laidOut (by kernel_rfl) (of_decide_eq_true (by kernel_rfl)) h1 bel (lt h1)) trodAll_mk0),rfl,bel.frame _,fun h=>by cases h⟩
theorem zm6:Rows.DeskJudgesSaid :=
 OpenClaim.holds_of_cond 3 Tryz.f3 rfl rfl rfl rfl rfl rfl rfl ⟨rfl,rfl,rfl,rfl,rfl⟩ rfl rfl rfl rfl rfl (by kernel_rfl) Tryz.func3 (by kernel_rfl)
  (of_decide_eq_true (by kernel_rfl)) (by unfold Func.isWrapper;first | (rw [if_pos (by decide +kernel)];kernel_rfl) | (rw [if_neg (by decide +kernel)];exact ⟨rfl,rfl⟩))
  (fun os started H enc _ F=>by rw [OpenClaim.pre_eq_preRow];exact zkd os started H enc F)
theorem deskJudges_holds:Rows.DeskJudgesCardSaid :=
 Claim7.holds_tied_plain_at .later [] _ _ _ _ zm6 (fun _ h=>by cases h) (by kernel_rfl) (fun _ h=>by cases h) deskJudges_row_tie rfl ⟨rfl,rfl⟩ (by kernel_rfl) rfl
  (fun f fn hf hfn=>by
   obtain rfl:f=3:=Option.some.inj ((show Tryz.prog.funcNamed "tnumward/tnumwardlaw.DeskJudges" = some 3 by kernel_rfl).symm.trans hf) |>.symm
   obtain rfl:fn=Tryz.f3:=(Option.some.inj (Tryz.func3.symm.trans hfn)).symm
   exact ⟨by kernel_rfl,fun j t ht=>by
    rw [Tryz.params3] at ht
    have hm:t∈[9]:=by simpa using Array.mem_of_getElem? ht
    have hall:([9].all fun u=>!Tryz.prog.wantsStandIn u)=true:=by kernel_rfl
    exact (show Tryz.prog.wantsStandIn t=false by simpa using List.all_eq_true.1 hall t hm)⟩)
  (by kernel_rfl)
end Go.Proofs.YtkigmocchaikgabGreatDoor
