/-
  DERIVED. GIVEN WITH THE SEED: THE CARDS: each row of YtkeilgompipfjaaGreatDoorRows.lean that lists a variable, with what it lists TIED to the program's text (the seventh form; the later family's looks); each row that meets fmt, with fmt's text TOLD by the authors' own Lean function (tested against real Go, not proved from fmt's source: count such statements apart). THE CARD IS WHAT COUNTS. Prove the row's statement (the work); the ties are given (YtkeilgompipfjaaGreatDoorTie.lean); close each card by the builder's one call (the guide's Derived/Test/ToyasCard.lean, 'card_holds'). Laid BY PROGRAM, IN A SANDBOX (cutbox-door.mjs). By AI agents, Wed Nov 11 2026. No macro, syntax, notation, axiom, sorry.
-/
import Derived.Test.YtkeilgompipfjaaGreatDoorRows
import GoSem.ClaimSeven
namespace Go.Proofs.YtkeilgompipfjaaGreatDoor
namespace Rows

/-- THE TIED CARD OF 'oriellaw09.WordWells'. -/
def wordWellsCard : Claim7 := { stood := { row := wordWellsRow, standIns := [], harness := (true, "da32f0084601fe63cea6a16362d2f8e582e66bddcb5bc26fdacb41603c6be48f"), looks := true }, kinds := [], alts := [], laidByText := true, laidKinds := [.data, .data, .data, .data, .sentinel, .sentinel, .data, .data, .pinned, .pinned], laidTests := true, laidLooks := .later }
def WordWellsCardSaid : Prop := Claim7.holds Tryz.pinned (.plain (OpenSpec.ofChange wordWellsSpec)) wordWellsCard

/-- THE SECOND FORM's CARD OF 'oriellaw09.WordWells'. -/
def wordWellsUptoCard : Claim7 := { stood := { row := wordWellsUptoRow, standIns := [], harness := (true, "da32f0084601fe63cea6a16362d2f8e582e66bddcb5bc26fdacb41603c6be48f"), looks := true }, kinds := [], alts := [], laidByText := true, laidKinds := [.data, .data, .data, .data, .sentinel, .sentinel, .data, .data, .pinned, .pinned], laidTests := true, laidLooks := .later }
def WordWellsUptoCardSaid : Prop := Claim7.holds Tryz.pinned (.plain (OpenSpec.upto wordWellsSpec)) wordWellsUptoCard
end Rows
end Go.Proofs.YtkeilgompipfjaaGreatDoor
