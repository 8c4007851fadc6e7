/-
  No cell of these rows narrows 'for every input' (looked for: loops, veiled, ifaces, maps, wideKeys, modest, calm, conditions, laid).
  DERIVED. THE GIVEN ROWS OF THIS SEAT. 10 by the template 'for every input the law returns true; each argument reads behind the call as it read before'; 0 by the template 'total and deterministic' (their statements: YtkigmocchaikgaaTotals.lean).
  GIVEN WITH THE SEED: the statements are not yours to turn. If you find one false, say at which input.
  Laid BY PROGRAM, IN A SANDBOX (cutbox-rows.mjs): the forced cells as the released guide's own fill.sh prints them over the translation c0194dd12b4f247f… (all of the seat's roots in one cut). By AI agents, Wed Nov 11 2026. No macro, syntax, notation, axiom, sorry.
-/
import Derived.Test.YtkigmocchaikgaaChecked
import GoSem.Claim
import GoSem.ClaimJoined
import GoSem.ClaimMapViews
import Derived.JoinedTies
import Derived.KernelRfl
namespace Go.Proofs.Ytkigmocchaikgaa
/- THE CELL 'sum', in the pinned program and in every row, IS THE sha256 OF THE DUMP (.gsa) THAT YtkigmocchaikgaaProg.lean LOADS. Nothing in Lean hashes anything: it is a label: what it is worth is what the hold of that sum in a sandbox is worth. -/
noncomputable def Try.pinned : Pinned := { name := "ytkigmocchaikgaa", sum := "c0194dd12b4f247fdf2b105362105e58a4d7982d85810aef8415f9362566aae0", checked := Try.checked }
namespace Rows
def none {H : Type} : Left H := { results := [], args := [] }

/-- 'tnumwardlaw.BitsTells': WHATEVER THE INPUT: true; the input reads as it did. -/
def bitsTellsSpec : ChangeSpec := { name := "bitsTells", fn := fun _ => fun
  | [d1, d2, d3, d4, d5, d6, d7] => { results := [.lit (.bool true)], args := [d1, d2, d3, d4, d5, d6, d7] }
  | _ => none }
def bitsTellsRow : OpenClaim := { program := "ytkigmocchaikgaa", sum := "c0194dd12b4f247fdf2b105362105e58a4d7982d85810aef8415f9362566aae0", func := "tnumward/tnumwardlaw.BitsTells", spec := "bitsTells", apart := false }
def BitsTellsSaid : Prop := bitsTellsRow.holds Try.pinned (OpenSpec.ofChange bitsTellsSpec)

/-- ITS FALSE NEIGHBOUR: 'it returns false'. Refute it at one input. -/
def bitsTellsWrong : ChangeSpec := { name := "bitsTells", fn := fun _ => fun
  | [d1, d2, d3, d4, d5, d6, d7] => { results := [.lit (.bool false)], args := [d1, d2, d3, d4, d5, d6, d7] }
  | _ => none }
def BitsTellsWrongFalsely : Prop := bitsTellsRow.holds Try.pinned (OpenSpec.ofChange bitsTellsWrong)

/-- 'tnumwardlaw.BitsTwo': WHATEVER THE INPUT: true; the input reads as it did. -/
def bitsTwoSpec : ChangeSpec := { name := "bitsTwo", fn := fun _ => fun
  | [d1, d2, d3] => { results := [.lit (.bool true)], args := [d1, d2, d3] }
  | _ => none }
def bitsTwoRow : OpenClaim := { program := "ytkigmocchaikgaa", sum := "c0194dd12b4f247fdf2b105362105e58a4d7982d85810aef8415f9362566aae0", func := "tnumward/tnumwardlaw.BitsTwo", spec := "bitsTwo", apart := false }
def BitsTwoSaid : Prop := bitsTwoRow.holds Try.pinned (OpenSpec.ofChange bitsTwoSpec)

/-- ITS FALSE NEIGHBOUR: 'it returns false'. Refute it at one input. -/
def bitsTwoWrong : ChangeSpec := { name := "bitsTwo", fn := fun _ => fun
  | [d1, d2, d3] => { results := [.lit (.bool false)], args := [d1, d2, d3] }
  | _ => none }
def BitsTwoWrongFalsely : Prop := bitsTwoRow.holds Try.pinned (OpenSpec.ofChange bitsTwoWrong)

/-- 'tnumwardlaw.BitsSound': WHATEVER THE INPUT: true; the input reads as it did. -/
def bitsSoundSpec : ChangeSpec := { name := "bitsSound", fn := fun _ => fun
  | [d1, d2, d3, d4, d5] => { results := [.lit (.bool true)], args := [d1, d2, d3, d4, d5] }
  | _ => none }
def bitsSoundRow : OpenClaim := { program := "ytkigmocchaikgaa", sum := "c0194dd12b4f247fdf2b105362105e58a4d7982d85810aef8415f9362566aae0", func := "tnumward/tnumwardlaw.BitsSound", spec := "bitsSound", apart := false }
def BitsSoundSaid : Prop := bitsSoundRow.holds Try.pinned (OpenSpec.ofChange bitsSoundSpec)

/-- ITS FALSE NEIGHBOUR: 'it returns false'. Refute it at one input. -/
def bitsSoundWrong : ChangeSpec := { name := "bitsSound", fn := fun _ => fun
  | [d1, d2, d3, d4, d5] => { results := [.lit (.bool false)], args := [d1, d2, d3, d4, d5] }
  | _ => none }
def BitsSoundWrongFalsely : Prop := bitsSoundRow.holds Try.pinned (OpenSpec.ofChange bitsSoundWrong)

/-- 'tnumwardlaw.ValTells': WHATEVER THE INPUT: true; the input reads as it did. -/
def valTellsSpec : ChangeSpec := { name := "valTells", fn := fun _ => fun
  | [d1, d2, d3] => { results := [.lit (.bool true)], args := [d1, d2, d3] }
  | _ => none }
def valTellsRow : OpenClaim := { program := "ytkigmocchaikgaa", sum := "c0194dd12b4f247fdf2b105362105e58a4d7982d85810aef8415f9362566aae0", func := "tnumward/tnumwardlaw.ValTells", spec := "valTells", apart := false }
def ValTellsSaid : Prop := valTellsRow.holds Try.pinned (OpenSpec.ofChange valTellsSpec)

/-- ITS FALSE NEIGHBOUR: 'it returns false'. Refute it at one input. -/
def valTellsWrong : ChangeSpec := { name := "valTells", fn := fun _ => fun
  | [d1, d2, d3] => { results := [.lit (.bool false)], args := [d1, d2, d3] }
  | _ => none }
def ValTellsWrongFalsely : Prop := valTellsRow.holds Try.pinned (OpenSpec.ofChange valTellsWrong)

/-- 'tnumwardlaw.ValTrue': WHATEVER THE INPUT: true; the input reads as it did. -/
def valTrueSpec : ChangeSpec := { name := "valTrue", fn := fun _ => fun
  | [d1, d2, d3] => { results := [.lit (.bool true)], args := [d1, d2, d3] }
  | _ => none }
def valTrueRow : OpenClaim := { program := "ytkigmocchaikgaa", sum := "c0194dd12b4f247fdf2b105362105e58a4d7982d85810aef8415f9362566aae0", func := "tnumward/tnumwardlaw.ValTrue", spec := "valTrue", apart := false }
def ValTrueSaid : Prop := valTrueRow.holds Try.pinned (OpenSpec.ofChange valTrueSpec)

/-- ITS FALSE NEIGHBOUR: 'it returns false'. Refute it at one input. -/
def valTrueWrong : ChangeSpec := { name := "valTrue", fn := fun _ => fun
  | [d1, d2, d3] => { results := [.lit (.bool false)], args := [d1, d2, d3] }
  | _ => none }
def ValTrueWrongFalsely : Prop := valTrueRow.holds Try.pinned (OpenSpec.ofChange valTrueWrong)

/-- 'tnumwardlaw.CalcTwo': WHATEVER THE INPUT: true; the input reads as it did. -/
def calcTwoSpec : ChangeSpec := { name := "calcTwo", fn := fun _ => fun
  | [d1, d2, d3, d4] => { results := [.lit (.bool true)], args := [d1, d2, d3, d4] }
  | _ => none }
def calcTwoRow : OpenClaim := { program := "ytkigmocchaikgaa", sum := "c0194dd12b4f247fdf2b105362105e58a4d7982d85810aef8415f9362566aae0", func := "tnumward/tnumwardlaw.CalcTwo", spec := "calcTwo", unfollowed := true, recurses := true, apart := false }
def CalcTwoSaid : Prop := calcTwoRow.holds Try.pinned (OpenSpec.ofChange calcTwoSpec)

/-- ITS FALSE NEIGHBOUR: 'it returns false'. Refute it at one input. -/
def calcTwoWrong : ChangeSpec := { name := "calcTwo", fn := fun _ => fun
  | [d1, d2, d3, d4] => { results := [.lit (.bool false)], args := [d1, d2, d3, d4] }
  | _ => none }
def CalcTwoWrongFalsely : Prop := calcTwoRow.holds Try.pinned (OpenSpec.ofChange calcTwoWrong)

/-- 'tnumwardlaw.CalcLeft': WHATEVER THE INPUT: true; the input reads as it did. -/
def calcLeftSpec : ChangeSpec := { name := "calcLeft", fn := fun _ => fun
  | [d1, d2] => { results := [.lit (.bool true)], args := [d1, d2] }
  | _ => none }
def calcLeftRow : OpenClaim := { program := "ytkigmocchaikgaa", sum := "c0194dd12b4f247fdf2b105362105e58a4d7982d85810aef8415f9362566aae0", func := "tnumward/tnumwardlaw.CalcLeft", spec := "calcLeft", unfollowed := true, recurses := true, apart := false }
def CalcLeftSaid : Prop := calcLeftRow.holds Try.pinned (OpenSpec.ofChange calcLeftSpec)

/-- ITS FALSE NEIGHBOUR: 'it returns false'. Refute it at one input. -/
def calcLeftWrong : ChangeSpec := { name := "calcLeft", fn := fun _ => fun
  | [d1, d2] => { results := [.lit (.bool false)], args := [d1, d2] }
  | _ => none }
def CalcLeftWrongFalsely : Prop := calcLeftRow.holds Try.pinned (OpenSpec.ofChange calcLeftWrong)

/-- 'tnumwardlaw.CalcSound': WHATEVER THE INPUT: true; the input reads as it did. -/
def calcSoundSpec : ChangeSpec := { name := "calcSound", fn := fun _ => fun
  | [d1, d2, d3, d4, d5] => { results := [.lit (.bool true)], args := [d1, d2, d3, d4, d5] }
  | _ => none }
def calcSoundRow : OpenClaim := { program := "ytkigmocchaikgaa", sum := "c0194dd12b4f247fdf2b105362105e58a4d7982d85810aef8415f9362566aae0", func := "tnumward/tnumwardlaw.CalcSound", spec := "calcSound", unfollowed := true, recurses := true, apart := false }
def CalcSoundSaid : Prop := calcSoundRow.holds Try.pinned (OpenSpec.ofChange calcSoundSpec)

/-- ITS FALSE NEIGHBOUR: 'it returns false'. Refute it at one input. -/
def calcSoundWrong : ChangeSpec := { name := "calcSound", fn := fun _ => fun
  | [d1, d2, d3, d4, d5] => { results := [.lit (.bool false)], args := [d1, d2, d3, d4, d5] }
  | _ => none }
def CalcSoundWrongFalsely : Prop := calcSoundRow.holds Try.pinned (OpenSpec.ofChange calcSoundWrong)

/-- 'tnumwardlaw.RunSteps': WHATEVER THE INPUT: true; the input reads as it did. -/
def runStepsSpec : ChangeSpec := { name := "runSteps", fn := fun _ => fun
  | [d1, d2, d3, d4] => { results := [.lit (.bool true)], args := [d1, d2, d3, d4] }
  | _ => none }
def runStepsRow : OpenClaim := { program := "ytkigmocchaikgaa", sum := "c0194dd12b4f247fdf2b105362105e58a4d7982d85810aef8415f9362566aae0", func := "tnumward/tnumwardlaw.RunSteps", spec := "runSteps", unfollowed := true, recurses := true, apart := false }
def RunStepsSaid : Prop := runStepsRow.holds Try.pinned (OpenSpec.ofChange runStepsSpec)

/-- ITS FALSE NEIGHBOUR: 'it returns false'. Refute it at one input. -/
def runStepsWrong : ChangeSpec := { name := "runSteps", fn := fun _ => fun
  | [d1, d2, d3, d4] => { results := [.lit (.bool false)], args := [d1, d2, d3, d4] }
  | _ => none }
def RunStepsWrongFalsely : Prop := runStepsRow.holds Try.pinned (OpenSpec.ofChange runStepsWrong)

/-- 'tnumwardlaw.RunRuns': WHATEVER THE INPUT: true; the input reads as it did. -/
def runRunsSpec : ChangeSpec := { name := "runRuns", fn := fun _ => fun
  | [d1, d2, d3] => { results := [.lit (.bool true)], args := [d1, d2, d3] }
  | _ => none }
def runRunsRow : OpenClaim := { program := "ytkigmocchaikgaa", sum := "c0194dd12b4f247fdf2b105362105e58a4d7982d85810aef8415f9362566aae0", func := "tnumward/tnumwardlaw.RunRuns", spec := "runRuns", unfollowed := true, recurses := true, apart := false }
def RunRunsSaid : Prop := runRunsRow.holds Try.pinned (OpenSpec.ofChange runRunsSpec)

/-- ITS FALSE NEIGHBOUR: 'it returns false'. Refute it at one input. -/
def runRunsWrong : ChangeSpec := { name := "runRuns", fn := fun _ => fun
  | [d1, d2, d3] => { results := [.lit (.bool false)], args := [d1, d2, d3] }
  | _ => none }
def RunRunsWrongFalsely : Prop := runRunsRow.holds Try.pinned (OpenSpec.ofChange runRunsWrong)

/- THE SECOND FORM. 'bulk': how many values and letters a reading holds, each counted each time it is reached (what is shared counts as often as it is met; a slice's spare places count too). A statement '..UptoSaid' is the law's where the arguments, and the package variables that the reading takes, are together of bulk at most 1048576: NARROWER than '..Said'. Prove '..Said' where nothing that the law and all that it calls make is longer than what came in: it says more and counts as full. Else prove '..UptoSaid'. A law counts once. -/
mutual
def uptoBulk {H : Type} : DataW H → Nat
  | .lit (.string bytes) => bytes.length + 1
  | .lit _ => 1
  | .nil => 1
  | .ptr d => uptoBulk d + 1
  | .slice elems spare => uptoBulkAll elems + uptoBulkAll spare + 1
  | .agg parts => uptoBulkAll parts + 1
  | .iface _ d => uptoBulk d + 1
  | .map entries => uptoBulkEntries entries + 1
  | .held _ => 1
def uptoBulkAll {H : Type} : List (DataW H) → Nat
  | [] => 0
  | d :: r => uptoBulk d + uptoBulkAll r
def uptoBulkEntries {H : Type} : List (Lit × DataW H) → Nat
  | [] => 0
  | x :: r => uptoBulkEntry x + uptoBulkEntries r
def uptoBulkEntry {H : Type} : Lit × DataW H → Nat
  | (.string bytes, d) => bytes.length + uptoBulk d + 1
  | (_, d) => uptoBulk d + 1
 end
def uptoSmall : (H : Type) → List (DataW H) → Bool := fun _ ds => decide (uptoBulkAll ds ≤ 1048576)
def OpenSpec.upto (s : _root_.Go.ChangeSpec) : _root_.Go.OpenSpec := { _root_.Go.OpenSpec.ofChange s with cond := some uptoSmall }

/-- 'tnumwardlaw.BitsTells', WHERE WHAT IT READS IS OF BULK AT MOST 1048576: true; the input reads as it did. -/
def bitsTellsUptoRow : OpenClaim := { program := "ytkigmocchaikgaa", sum := "c0194dd12b4f247fdf2b105362105e58a4d7982d85810aef8415f9362566aae0", func := "tnumward/tnumwardlaw.BitsTells", spec := "bitsTells", apart := false, narrowed := true }
def BitsTellsUptoSaid : Prop := bitsTellsUptoRow.holds Try.pinned (OpenSpec.upto bitsTellsSpec)

/-- 'tnumwardlaw.BitsTwo', WHERE WHAT IT READS IS OF BULK AT MOST 1048576: true; the input reads as it did. -/
def bitsTwoUptoRow : OpenClaim := { program := "ytkigmocchaikgaa", sum := "c0194dd12b4f247fdf2b105362105e58a4d7982d85810aef8415f9362566aae0", func := "tnumward/tnumwardlaw.BitsTwo", spec := "bitsTwo", apart := false, narrowed := true }
def BitsTwoUptoSaid : Prop := bitsTwoUptoRow.holds Try.pinned (OpenSpec.upto bitsTwoSpec)

/-- 'tnumwardlaw.BitsSound', WHERE WHAT IT READS IS OF BULK AT MOST 1048576: true; the input reads as it did. -/
def bitsSoundUptoRow : OpenClaim := { program := "ytkigmocchaikgaa", sum := "c0194dd12b4f247fdf2b105362105e58a4d7982d85810aef8415f9362566aae0", func := "tnumward/tnumwardlaw.BitsSound", spec := "bitsSound", apart := false, narrowed := true }
def BitsSoundUptoSaid : Prop := bitsSoundUptoRow.holds Try.pinned (OpenSpec.upto bitsSoundSpec)

/-- 'tnumwardlaw.ValTells', WHERE WHAT IT READS IS OF BULK AT MOST 1048576: true; the input reads as it did. -/
def valTellsUptoRow : OpenClaim := { program := "ytkigmocchaikgaa", sum := "c0194dd12b4f247fdf2b105362105e58a4d7982d85810aef8415f9362566aae0", func := "tnumward/tnumwardlaw.ValTells", spec := "valTells", apart := false, narrowed := true }
def ValTellsUptoSaid : Prop := valTellsUptoRow.holds Try.pinned (OpenSpec.upto valTellsSpec)

/-- 'tnumwardlaw.ValTrue', WHERE WHAT IT READS IS OF BULK AT MOST 1048576: true; the input reads as it did. -/
def valTrueUptoRow : OpenClaim := { program := "ytkigmocchaikgaa", sum := "c0194dd12b4f247fdf2b105362105e58a4d7982d85810aef8415f9362566aae0", func := "tnumward/tnumwardlaw.ValTrue", spec := "valTrue", apart := false, narrowed := true }
def ValTrueUptoSaid : Prop := valTrueUptoRow.holds Try.pinned (OpenSpec.upto valTrueSpec)

/-- 'tnumwardlaw.CalcTwo', WHERE WHAT IT READS IS OF BULK AT MOST 1048576: true; the input reads as it did. -/
def calcTwoUptoRow : OpenClaim := { program := "ytkigmocchaikgaa", sum := "c0194dd12b4f247fdf2b105362105e58a4d7982d85810aef8415f9362566aae0", func := "tnumward/tnumwardlaw.CalcTwo", spec := "calcTwo", unfollowed := true, recurses := true, apart := false, narrowed := true }
def CalcTwoUptoSaid : Prop := calcTwoUptoRow.holds Try.pinned (OpenSpec.upto calcTwoSpec)

/-- 'tnumwardlaw.CalcLeft', WHERE WHAT IT READS IS OF BULK AT MOST 1048576: true; the input reads as it did. -/
def calcLeftUptoRow : OpenClaim := { program := "ytkigmocchaikgaa", sum := "c0194dd12b4f247fdf2b105362105e58a4d7982d85810aef8415f9362566aae0", func := "tnumward/tnumwardlaw.CalcLeft", spec := "calcLeft", unfollowed := true, recurses := true, apart := false, narrowed := true }
def CalcLeftUptoSaid : Prop := calcLeftUptoRow.holds Try.pinned (OpenSpec.upto calcLeftSpec)

/-- 'tnumwardlaw.CalcSound', WHERE WHAT IT READS IS OF BULK AT MOST 1048576: true; the input reads as it did. -/
def calcSoundUptoRow : OpenClaim := { program := "ytkigmocchaikgaa", sum := "c0194dd12b4f247fdf2b105362105e58a4d7982d85810aef8415f9362566aae0", func := "tnumward/tnumwardlaw.CalcSound", spec := "calcSound", unfollowed := true, recurses := true, apart := false, narrowed := true }
def CalcSoundUptoSaid : Prop := calcSoundUptoRow.holds Try.pinned (OpenSpec.upto calcSoundSpec)

/-- 'tnumwardlaw.RunSteps', WHERE WHAT IT READS IS OF BULK AT MOST 1048576: true; the input reads as it did. -/
def runStepsUptoRow : OpenClaim := { program := "ytkigmocchaikgaa", sum := "c0194dd12b4f247fdf2b105362105e58a4d7982d85810aef8415f9362566aae0", func := "tnumward/tnumwardlaw.RunSteps", spec := "runSteps", unfollowed := true, recurses := true, apart := false, narrowed := true }
def RunStepsUptoSaid : Prop := runStepsUptoRow.holds Try.pinned (OpenSpec.upto runStepsSpec)

/-- 'tnumwardlaw.RunRuns', WHERE WHAT IT READS IS OF BULK AT MOST 1048576: true; the input reads as it did. -/
def runRunsUptoRow : OpenClaim := { program := "ytkigmocchaikgaa", sum := "c0194dd12b4f247fdf2b105362105e58a4d7982d85810aef8415f9362566aae0", func := "tnumward/tnumwardlaw.RunRuns", spec := "runRuns", unfollowed := true, recurses := true, apart := false, narrowed := true }
def RunRunsUptoSaid : Prop := runRunsUptoRow.holds Try.pinned (OpenSpec.upto runRunsSpec)

end Rows
end Go.Proofs.Ytkigmocchaikgaa
