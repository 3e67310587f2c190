/-
  DERIVED. GIVEN WITH THE SEED: THE CARDS: each row of YtjboglpnpgghiaaDoorRows.lean that lists a variable, with what it lists TIED to the program's text (the seventh form; the later family's looks); each row that meets fmt, with fmt's text TOLD by the authors' own Lean function (tested against real Go, not proved from fmt's source: count such statements apart). THE CARD IS WHAT COUNTS. Prove the row's statement (the work); the ties are given (YtjboglpnpgghiaaDoorTie.lean); close each card by the builder's one call (the guide's Derived/Test/ToyasCard.lean, 'card_holds'). Laid BY PROGRAM, IN A SANDBOX (cutbox-door.mjs). By AI agents, Wed Nov 11 2026. No macro, syntax, notation, axiom, sorry.
-/
import Derived.Test.YtjboglpnpgghiaaDoorRows
import GoSem.ClaimSeven
namespace Go.Proofs.YtjboglpnpgghiaaDoor
namespace Rows

/-- THE TIED CARD OF 'oriellaw11.SeriPrints'. -/
def seriPrintsCard : Claim7 := { stood := { row := seriPrintsRow, standIns := [], harness := (true, "f9da6ecac57ac20c198adfa028796954e3cfcba0c2d87b5548412f5765890cf1"), looks := false }, kinds := [], alts := [], laidByText := true, laidKinds := [.data, .data, .data], laidTests := true, laidLooks := .later }
def SeriPrintsCardSaid : Prop := Claim7.holds Tryd.pinned (.plain (OpenSpec.ofChange seriPrintsSpec)) seriPrintsCard

/-- THE TIED CARD OF 'oriellaw11.SeriParts'. -/
def seriPartsCard : Claim7 := { stood := { row := seriPartsRow, standIns := [], harness := (true, "f9da6ecac57ac20c198adfa028796954e3cfcba0c2d87b5548412f5765890cf1"), looks := false }, kinds := [], alts := [], laidByText := true, laidKinds := [.data, .data, .data], laidTests := true, laidLooks := .later }
def SeriPartsCardSaid : Prop := Claim7.holds Tryd.pinned (.plain (OpenSpec.ofChange seriPartsSpec)) seriPartsCard

/-- THE TIED CARD OF 'oriellaw11.SeriSpaces'. -/
def seriSpacesCard : Claim7 := { stood := { row := seriSpacesRow, standIns := [], harness := (true, "f9da6ecac57ac20c198adfa028796954e3cfcba0c2d87b5548412f5765890cf1"), looks := false }, kinds := [], alts := [], laidByText := true, laidKinds := [.data, .data, .data], laidTests := true, laidLooks := .later }
def SeriSpacesCardSaid : Prop := Claim7.holds Tryd.pinned (.plain (OpenSpec.ofChange seriSpacesSpec)) seriSpacesCard

/-- THE SECOND FORM's CARD OF 'oriellaw11.SeriPrints'. -/
def seriPrintsUptoCard : Claim7 := { stood := { row := seriPrintsUptoRow, standIns := [], harness := (true, "f9da6ecac57ac20c198adfa028796954e3cfcba0c2d87b5548412f5765890cf1"), looks := false }, kinds := [], alts := [], laidByText := true, laidKinds := [.data, .data, .data], laidTests := true, laidLooks := .later }
def SeriPrintsUptoCardSaid : Prop := Claim7.holds Tryd.pinned (.plain (OpenSpec.upto seriPrintsSpec)) seriPrintsUptoCard

/-- THE SECOND FORM's CARD OF 'oriellaw11.SeriParts'. -/
def seriPartsUptoCard : Claim7 := { stood := { row := seriPartsUptoRow, standIns := [], harness := (true, "f9da6ecac57ac20c198adfa028796954e3cfcba0c2d87b5548412f5765890cf1"), looks := false }, kinds := [], alts := [], laidByText := true, laidKinds := [.data, .data, .data], laidTests := true, laidLooks := .later }
def SeriPartsUptoCardSaid : Prop := Claim7.holds Tryd.pinned (.plain (OpenSpec.upto seriPartsSpec)) seriPartsUptoCard

/-- THE SECOND FORM's CARD OF 'oriellaw11.SeriSpaces'. -/
def seriSpacesUptoCard : Claim7 := { stood := { row := seriSpacesUptoRow, standIns := [], harness := (true, "f9da6ecac57ac20c198adfa028796954e3cfcba0c2d87b5548412f5765890cf1"), looks := false }, kinds := [], alts := [], laidByText := true, laidKinds := [.data, .data, .data], laidTests := true, laidLooks := .later }
def SeriSpacesUptoCardSaid : Prop := Claim7.holds Tryd.pinned (.plain (OpenSpec.upto seriSpacesSpec)) seriSpacesUptoCard
end Rows
end Go.Proofs.YtjboglpnpgghiaaDoor
