/-
  DERIVED. GIVEN WITH THE SEED: THE CARDS: each row of YtmbghdpoeahnaaaGreatDoorRows.lean that lists a variable, with what it lists TIED to the program's text (the seventh form; the later family's looks); each row that meets fmt, with fmt's text TOLD by the authors' own Lean function (tested against real Go, not proved from fmt's source: count such statements apart). THE CARD IS WHAT COUNTS. Prove the row's statement (the work); the ties are given (YtmbghdpoeahnaaaGreatDoorTie.lean); close each card by the builder's one call (the guide's Derived/Test/ToyasCard.lean, 'card_holds'). Laid BY PROGRAM, IN A SANDBOX (cutbox-door.mjs). By AI agents, Wed Nov 11 2026. No macro, syntax, notation, axiom, sorry.
-/
import Derived.Test.YtmbghdpoeahnaaaGreatDoorRows
import GoSem.ClaimSeven
namespace Go.Proofs.YtmbghdpoeahnaaaGreatDoor
namespace Rows

/-- THE TIED CARD OF 'oriellaw05.ScanAlls'. -/
def scanAllsCard : Claim7 := { stood := { row := scanAllsRow, standIns := [], harness := (true, "949be5c2e248cf360fbb46f71961f0589e37ed2d952a7830d623d01511fce951"), looks := true }, kinds := [], alts := [], laidByText := true, laidKinds := [.data, .data, .data, .data, .sentinel, .sentinel, .data, .data, .pinned, .pinned], laidTests := true, laidLooks := .later }
def ScanAllsCardSaid : Prop := Claim7.holds Tryz.pinned (.plain (OpenSpec.ofChange scanAllsSpec)) scanAllsCard

/-- THE TIED CARD OF 'oriellaw05.ScanNexts'. -/
def scanNextsCard : Claim7 := { stood := { row := scanNextsRow, standIns := [], harness := (true, "949be5c2e248cf360fbb46f71961f0589e37ed2d952a7830d623d01511fce951"), looks := true }, kinds := [], alts := [], laidByText := true, laidKinds := [.data, .data, .data, .data, .sentinel, .sentinel, .data, .data, .pinned, .pinned], laidTests := true, laidLooks := .later }
def ScanNextsCardSaid : Prop := Claim7.holds Tryz.pinned (.plain (OpenSpec.ofChange scanNextsSpec)) scanNextsCard

/-- THE TIED CARD OF 'oriellaw05.ScanChunks'. -/
def scanChunksCard : Claim7 := { stood := { row := scanChunksRow, standIns := [], harness := (true, "949be5c2e248cf360fbb46f71961f0589e37ed2d952a7830d623d01511fce951"), looks := true }, kinds := [], alts := [], laidByText := true, laidKinds := [.data, .data, .data, .data, .sentinel, .sentinel, .data, .data, .pinned, .pinned], laidTests := true, laidLooks := .later }
def ScanChunksCardSaid : Prop := Claim7.holds Tryz.pinned (.plain (OpenSpec.ofChange scanChunksSpec)) scanChunksCard

/-- THE TIED CARD OF 'oriellaw05.ScanCovers'. -/
def scanCoversCard : Claim7 := { stood := { row := scanCoversRow, standIns := [], harness := (true, "949be5c2e248cf360fbb46f71961f0589e37ed2d952a7830d623d01511fce951"), looks := true }, kinds := [], alts := [], laidByText := true, laidKinds := [.data, .data, .data, .data, .sentinel, .sentinel, .data, .data, .pinned, .pinned], laidTests := true, laidLooks := .later }
def ScanCoversCardSaid : Prop := Claim7.holds Tryz.pinned (.plain (OpenSpec.ofChange scanCoversSpec)) scanCoversCard

/-- THE SECOND FORM's CARD OF 'oriellaw05.ScanAlls'. -/
def scanAllsUptoCard : Claim7 := { stood := { row := scanAllsUptoRow, standIns := [], harness := (true, "949be5c2e248cf360fbb46f71961f0589e37ed2d952a7830d623d01511fce951"), looks := true }, kinds := [], alts := [], laidByText := true, laidKinds := [.data, .data, .data, .data, .sentinel, .sentinel, .data, .data, .pinned, .pinned], laidTests := true, laidLooks := .later }
def ScanAllsUptoCardSaid : Prop := Claim7.holds Tryz.pinned (.plain (OpenSpec.upto scanAllsSpec)) scanAllsUptoCard

/-- THE SECOND FORM's CARD OF 'oriellaw05.ScanNexts'. -/
def scanNextsUptoCard : Claim7 := { stood := { row := scanNextsUptoRow, standIns := [], harness := (true, "949be5c2e248cf360fbb46f71961f0589e37ed2d952a7830d623d01511fce951"), looks := true }, kinds := [], alts := [], laidByText := true, laidKinds := [.data, .data, .data, .data, .sentinel, .sentinel, .data, .data, .pinned, .pinned], laidTests := true, laidLooks := .later }
def ScanNextsUptoCardSaid : Prop := Claim7.holds Tryz.pinned (.plain (OpenSpec.upto scanNextsSpec)) scanNextsUptoCard

/-- THE SECOND FORM's CARD OF 'oriellaw05.ScanChunks'. -/
def scanChunksUptoCard : Claim7 := { stood := { row := scanChunksUptoRow, standIns := [], harness := (true, "949be5c2e248cf360fbb46f71961f0589e37ed2d952a7830d623d01511fce951"), looks := true }, kinds := [], alts := [], laidByText := true, laidKinds := [.data, .data, .data, .data, .sentinel, .sentinel, .data, .data, .pinned, .pinned], laidTests := true, laidLooks := .later }
def ScanChunksUptoCardSaid : Prop := Claim7.holds Tryz.pinned (.plain (OpenSpec.upto scanChunksSpec)) scanChunksUptoCard

/-- THE SECOND FORM's CARD OF 'oriellaw05.ScanCovers'. -/
def scanCoversUptoCard : Claim7 := { stood := { row := scanCoversUptoRow, standIns := [], harness := (true, "949be5c2e248cf360fbb46f71961f0589e37ed2d952a7830d623d01511fce951"), looks := true }, kinds := [], alts := [], laidByText := true, laidKinds := [.data, .data, .data, .data, .sentinel, .sentinel, .data, .data, .pinned, .pinned], laidTests := true, laidLooks := .later }
def ScanCoversUptoCardSaid : Prop := Claim7.holds Tryz.pinned (.plain (OpenSpec.upto scanCoversSpec)) scanCoversUptoCard
end Rows
end Go.Proofs.YtmbghdpoeahnaaaGreatDoor
