/-
  DERIVED. GIVEN WITH THE SEED: THE CARDS: each row of YtkigmocchaikgabGreatDoorRows.lean that lists a variable, with what it lists TIED to the program's text (the seventh form; the later family's looks); each row that meets fmt, with fmt's text TOLD by the authors' own Lean function (tested against real Go, not proved from fmt's source: count such statements apart). THE CARD IS WHAT COUNTS. Prove the row's statement (the work); the ties are given (YtkigmocchaikgabGreatDoorTie.lean); close each card by the builder's one call (the guide's Derived/Test/ToyasCard.lean, 'card_holds'). Laid BY PROGRAM, IN A SANDBOX (cutbox-door.mjs). By AI agents, Wed Nov 11 2026. No macro, syntax, notation, axiom, sorry.
-/
import Derived.Test.YtkigmocchaikgabGreatDoorRows
import GoSem.ClaimSeven
namespace Go.Proofs.YtkigmocchaikgabGreatDoor
namespace Rows

/-- THE TIED CARD OF 'tnumwardlaw.DeskJudges'. -/
def deskJudgesCard : Claim7 := { stood := { row := deskJudgesRow, standIns := [], harness := (true, "ec8c7fc5f543f81dbcfe23da2684c81c0321d77937e34bf68f12969ed9031e1a"), looks := true }, kinds := [], alts := [], laidByText := true, laidKinds := [.data, .data, .data, .data, .sentinel, .sentinel, .pinned], laidTests := true, laidLooks := .later }
def DeskJudgesCardSaid : Prop := Claim7.holds Tryz.pinned (.plain (OpenSpec.ofChange deskJudgesSpec)) deskJudgesCard

/-- THE SECOND FORM's CARD OF 'tnumwardlaw.DeskJudges'. -/
def deskJudgesUptoCard : Claim7 := { stood := { row := deskJudgesUptoRow, standIns := [], harness := (true, "ec8c7fc5f543f81dbcfe23da2684c81c0321d77937e34bf68f12969ed9031e1a"), looks := true }, kinds := [], alts := [], laidByText := true, laidKinds := [.data, .data, .data, .data, .sentinel, .sentinel, .pinned], laidTests := true, laidLooks := .later }
def DeskJudgesUptoCardSaid : Prop := Claim7.holds Tryz.pinned (.plain (OpenSpec.upto deskJudgesSpec)) deskJudgesUptoCard
end Rows
end Go.Proofs.YtkigmocchaikgabGreatDoor
