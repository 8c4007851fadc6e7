import Derived.Test.YtkigmocchaikgaaGreatDoorCs1
import Derived.Test.YtkigmocchaikgaaGreatDoorCards
import Derived.Test.YtkigmocchaikgaaGreatDoorTie
import Derived.ProofKit
import Derived.OpenShut
import Derived.Deep.DeepHandedRow
import Derived.Lay
import Derived.Stop.LaidErr
import Derived.SevenTiedAt
import Derived.Shelf.Vars
/- CodeShows: whatever is handed in, the call returns true and leaves its arguments as they were; the library's variables hold, where the call begins, what the row lists, and the card ties that to the program's text. No other condition. -/
namespace Go.Proofs.YtkigmocchaikgaaGreatDoor
open Go.ChangeShapes Go.WideShapes Go.ChangeAt Go.RowKit Go.Joins
theorem star : "*" ++ "errors.errorString" = "*errors.errorString" := by decide
theorem esRow (u : TypeId) (h : Tryz.prog.typeName? 3 u = some "*errors.errorString") : u = 129 :=
 typeName_ptr_named (nm := "errors.errorString") (by rw [star]; kernel_rfl) (by kernel_rfl) (by decide) u (by rw [star]; exact h)
theorem esCells : Tryz.prog.cellsOf 131 = 1 := by kernel_rfl
theorem strCells : Tryz.prog.cellsOf 9 = 1 := by kernel_rfl
theorem u64Cells : Tryz.prog.cellsOf 41 = 1 := by kernel_rfl
theorem powCells : Tryz.prog.cellsOf 95 = 20 := by kernel_rfl
/- what the row's list and the world's shape give -/
theorem good_of {W : World} (hL : laidMetH Tryz.prog Rows.codeShowsRow.laid W) (hsh : W.ShapedOpen Tryz.prog) : Gw W := by
 rw [MakeChecks.laidMetH_plain _ _ _ (by kernel_rfl)] at hL
 have hL1 : laidMet Tryz.prog (("math/bits.deBruijn32tab", Rows.laid_math_bits_deBruijn32tab) :: ("math/bits.deBruijn64tab", Rows.laid_math_bits_deBruijn64tab) :: ("internal/strconv.uint64pow10", Lib.tabData .u64 Lib.pow10Tab) :: ("unicode/utf8.acceptRanges", Rows.laid_unicode_utf8_acceptRanges) :: ("strconv.ErrRange", Rows.laid_strconv_ErrRange) :: ("strconv.ErrSyntax", Rows.laid_strconv_ErrSyntax) :: [("unicode/utf8.first", Rows.laid_unicode_utf8_first)]) W := hL
 have ht := Lib.tabIs_of_head (g := 0) (by kernel_rfl) (by kernel_rfl) Tryz.underlying95 Tryz.underlying41 u64Cells powCells hL1.tail.tail
 obtain ⟨a1, s1, h1, _⟩ := laid_sentinel (g := 7) (ti := 45) hL1.tail.tail.tail.tail (by kernel_rfl) (by kernel_rfl) Tryz.underlying45 esRow Tryz.underlying129 Tryz.underlying131 rfl rfl Tryz.underlying9 esCells strCells
 obtain ⟨a2, s2, h2, _⟩ := laid_sentinel (g := 6) (ti := 45) hL1.tail.tail.tail.tail.tail (by kernel_rfl) (by kernel_rfl) Tryz.underlying45 esRow Tryz.underlying129 Tryz.underlying131 rfl rfl Tryz.underlying9 esCells strCells
 have c1 : W.cell? ⟨7, 0, none⟩ = some (.iface 129 (.pointer (some a1))) := by simpa using World.var?_cell (g := 7) (by kernel_rfl) h1 0
 have c2 : W.cell? ⟨6, 0, none⟩ = some (.iface 129 (.pointer (some a2))) := by simpa using World.var?_cell (g := 6) (by kernel_rfl) h2 0
 refine ⟨cell_of_shapedOpen_int (t := 3) (zero := #[.int .i64 0]) (k := .i64) hsh (by exact of_decide_eq_true (by kernel_rfl)) (by kernel_rfl) rfl (by kernel_rfl) (by kernel_rfl) Tryz.underlying3, ⟨_, _, c2⟩, ⟨_, _, c1⟩, ht, ?_⟩
 rcases Nat.lt_or_ge 7 W.heap.size with h | h
 ·exact h
 ·simp [World.cell?, Array.getElem?_eq_none h] at c1
theorem own0 : ownKnob Tryz.prog.godebug = none := by kernel_rfl
end Go.Proofs.YtkigmocchaikgaaGreatDoor
