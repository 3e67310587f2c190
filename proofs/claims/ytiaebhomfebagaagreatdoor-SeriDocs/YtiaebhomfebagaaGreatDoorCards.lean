/-
  DERIVED. GIVEN WITH THE SEED: THE CARDS: each row of YtiaebhomfebagaaGreatDoorRows.lean that lists a variable, with what it lists TIED to the program's text (the seventh form; the later family's looks); each row that meets fmt, with fmt's text TOLD by the authors' own Lean function (tested against real Go, not proved from fmt's source: count such statements apart). THE CARD IS WHAT COUNTS. Prove the row's statement (the work); the ties are given (YtiaebhomfebagaaGreatDoorTie.lean); close each card by the builder's one call (the guide's Derived/Test/ToyasCard.lean, 'card_holds'). Laid BY PROGRAM, IN A SANDBOX (cutbox-door.mjs). By AI agents, Wed Nov 11 2026. No macro, syntax, notation, axiom, sorry.
-/
import Derived.Test.YtiaebhomfebagaaGreatDoorRows
import GoSem.ClaimSeven
namespace Go.Proofs.YtiaebhomfebagaaGreatDoor
namespace Rows

/-- THE TIED CARD OF 'oriellaw11.SeriDocs'. -/
def seriDocsCard : Claim7 := { stood := { row := seriDocsRow, standIns := [], harness := (true, "06a49b919ce3dcb32e90889403b8c1cad7fcb217b8e88fd0f3e200e2af848942"), looks := true }, kinds := [], alts := [], laidByText := true, laidKinds := [.data, .data, .data, .data, .sentinel, .sentinel, .data, .data, .pinned, .pinned], laidTests := true, laidLooks := .later }
def SeriDocsCardSaid : Prop := Claim7.holds Tryz.pinned (.plain (OpenSpec.ofChange seriDocsSpec)) seriDocsCard

/-- THE SECOND FORM's CARD OF 'oriellaw11.SeriDocs'. -/
def seriDocsUptoCard : Claim7 := { stood := { row := seriDocsUptoRow, standIns := [], harness := (true, "06a49b919ce3dcb32e90889403b8c1cad7fcb217b8e88fd0f3e200e2af848942"), looks := true }, kinds := [], alts := [], laidByText := true, laidKinds := [.data, .data, .data, .data, .sentinel, .sentinel, .data, .data, .pinned, .pinned], laidTests := true, laidLooks := .later }
def SeriDocsUptoCardSaid : Prop := Claim7.holds Tryz.pinned (.plain (OpenSpec.upto seriDocsSpec)) seriDocsUptoCard
end Rows
end Go.Proofs.YtiaebhomfebagaaGreatDoor
