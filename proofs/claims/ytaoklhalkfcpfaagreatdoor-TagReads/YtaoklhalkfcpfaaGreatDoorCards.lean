/-
  DERIVED. GIVEN WITH THE SEED: THE CARDS: each row of YtaoklhalkfcpfaaGreatDoorRows.lean that lists a variable, with what it lists TIED to the program's text (the seventh form; the later family's looks); each row that meets fmt, with fmt's text TOLD by the authors' own Lean function (tested against real Go, not proved from fmt's source: count such statements apart). THE CARD IS WHAT COUNTS. Prove the row's statement (the work); the ties are given (YtaoklhalkfcpfaaGreatDoorTie.lean); close each card by the builder's one call (the guide's Derived/Test/ToyasCard.lean, 'card_holds'). Laid BY PROGRAM, IN A SANDBOX (cutbox-door.mjs). By AI agents, Wed Nov 11 2026. No macro, syntax, notation, axiom, sorry.
-/
import Derived.Test.YtaoklhalkfcpfaaGreatDoorRows
import GoSem.ClaimSeven
namespace Go.Proofs.YtaoklhalkfcpfaaGreatDoor
namespace Rows

/-- THE TIED CARD OF 'oriellaw06.TagReads'. -/
def tagReadsCard : Claim7 := { stood := { row := tagReadsRow, standIns := [], harness := (true, "be3b2603d1cb282d1a3cfe7f438fe1aaf91aa67a645be222f67657a3ef0aa449"), looks := true }, kinds := [], alts := [], laidByText := true, laidKinds := [.data, .data, .data, .data, .sentinel, .sentinel, .pinned], laidTests := true, laidLooks := .later }
def TagReadsCardSaid : Prop := Claim7.holds Tryz.pinned (.plain (OpenSpec.ofChange tagReadsSpec)) tagReadsCard

/-- THE TIED CARD OF 'oriellaw06.TagPrints'. -/
def tagPrintsCard : Claim7 := { stood := { row := tagPrintsRow, standIns := [], harness := (true, "be3b2603d1cb282d1a3cfe7f438fe1aaf91aa67a645be222f67657a3ef0aa449"), looks := true }, kinds := [], alts := [], laidByText := true, laidKinds := [.data, .data, .data, .data, .sentinel, .sentinel, .pinned], laidTests := true, laidLooks := .later }
def TagPrintsCardSaid : Prop := Claim7.holds Tryz.pinned (.plain (OpenSpec.ofChange tagPrintsSpec)) tagPrintsCard

/-- THE TIED CARD OF 'oriellaw06.TagBack'. -/
def tagBackCard : Claim7 := { stood := { row := tagBackRow, standIns := [], harness := (true, "be3b2603d1cb282d1a3cfe7f438fe1aaf91aa67a645be222f67657a3ef0aa449"), looks := true }, kinds := [], alts := [], laidByText := true, laidKinds := [.data, .data, .data, .data, .sentinel, .sentinel, .pinned], laidTests := true, laidLooks := .later }
def TagBackCardSaid : Prop := Claim7.holds Tryz.pinned (.plain (OpenSpec.ofChange tagBackSpec)) tagBackCard

/-- THE TIED CARD OF 'oriellaw06.TagKeeps'. -/
def tagKeepsCard : Claim7 := { stood := { row := tagKeepsRow, standIns := [], harness := (true, "be3b2603d1cb282d1a3cfe7f438fe1aaf91aa67a645be222f67657a3ef0aa449"), looks := true }, kinds := [], alts := [], laidByText := true, laidKinds := [.data, .data, .data, .data, .sentinel, .sentinel, .pinned], laidTests := true, laidLooks := .later }
def TagKeepsCardSaid : Prop := Claim7.holds Tryz.pinned (.plain (OpenSpec.ofChange tagKeepsSpec)) tagKeepsCard

/-- THE TIED CARD OF 'oriellaw06.TagNames'. -/
def tagNamesCard : Claim7 := { stood := { row := tagNamesRow, standIns := [], harness := (true, "be3b2603d1cb282d1a3cfe7f438fe1aaf91aa67a645be222f67657a3ef0aa449"), looks := true }, kinds := [], alts := [], laidByText := true, laidKinds := [.data, .data, .data, .data, .sentinel, .sentinel, .pinned], laidTests := true, laidLooks := .later }
def TagNamesCardSaid : Prop := Claim7.holds Tryz.pinned (.plain (OpenSpec.ofChange tagNamesSpec)) tagNamesCard

/-- THE SECOND FORM's CARD OF 'oriellaw06.TagReads'. -/
def tagReadsUptoCard : Claim7 := { stood := { row := tagReadsUptoRow, standIns := [], harness := (true, "be3b2603d1cb282d1a3cfe7f438fe1aaf91aa67a645be222f67657a3ef0aa449"), looks := true }, kinds := [], alts := [], laidByText := true, laidKinds := [.data, .data, .data, .data, .sentinel, .sentinel, .pinned], laidTests := true, laidLooks := .later }
def TagReadsUptoCardSaid : Prop := Claim7.holds Tryz.pinned (.plain (OpenSpec.upto tagReadsSpec)) tagReadsUptoCard

/-- THE SECOND FORM's CARD OF 'oriellaw06.TagPrints'. -/
def tagPrintsUptoCard : Claim7 := { stood := { row := tagPrintsUptoRow, standIns := [], harness := (true, "be3b2603d1cb282d1a3cfe7f438fe1aaf91aa67a645be222f67657a3ef0aa449"), looks := true }, kinds := [], alts := [], laidByText := true, laidKinds := [.data, .data, .data, .data, .sentinel, .sentinel, .pinned], laidTests := true, laidLooks := .later }
def TagPrintsUptoCardSaid : Prop := Claim7.holds Tryz.pinned (.plain (OpenSpec.upto tagPrintsSpec)) tagPrintsUptoCard

/-- THE SECOND FORM's CARD OF 'oriellaw06.TagBack'. -/
def tagBackUptoCard : Claim7 := { stood := { row := tagBackUptoRow, standIns := [], harness := (true, "be3b2603d1cb282d1a3cfe7f438fe1aaf91aa67a645be222f67657a3ef0aa449"), looks := true }, kinds := [], alts := [], laidByText := true, laidKinds := [.data, .data, .data, .data, .sentinel, .sentinel, .pinned], laidTests := true, laidLooks := .later }
def TagBackUptoCardSaid : Prop := Claim7.holds Tryz.pinned (.plain (OpenSpec.upto tagBackSpec)) tagBackUptoCard

/-- THE SECOND FORM's CARD OF 'oriellaw06.TagKeeps'. -/
def tagKeepsUptoCard : Claim7 := { stood := { row := tagKeepsUptoRow, standIns := [], harness := (true, "be3b2603d1cb282d1a3cfe7f438fe1aaf91aa67a645be222f67657a3ef0aa449"), looks := true }, kinds := [], alts := [], laidByText := true, laidKinds := [.data, .data, .data, .data, .sentinel, .sentinel, .pinned], laidTests := true, laidLooks := .later }
def TagKeepsUptoCardSaid : Prop := Claim7.holds Tryz.pinned (.plain (OpenSpec.upto tagKeepsSpec)) tagKeepsUptoCard

/-- THE SECOND FORM's CARD OF 'oriellaw06.TagNames'. -/
def tagNamesUptoCard : Claim7 := { stood := { row := tagNamesUptoRow, standIns := [], harness := (true, "be3b2603d1cb282d1a3cfe7f438fe1aaf91aa67a645be222f67657a3ef0aa449"), looks := true }, kinds := [], alts := [], laidByText := true, laidKinds := [.data, .data, .data, .data, .sentinel, .sentinel, .pinned], laidTests := true, laidLooks := .later }
def TagNamesUptoCardSaid : Prop := Claim7.holds Tryz.pinned (.plain (OpenSpec.upto tagNamesSpec)) tagNamesUptoCard
end Rows
end Go.Proofs.YtaoklhalkfcpfaaGreatDoor
