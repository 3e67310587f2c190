/-
  DERIVED. GIVEN WITH THE SEED: THE CARDS: each row of YtnomcldpbkinmaaGreatDoorRows.lean that lists a variable, with what it lists TIED to the program's text (the seventh form; the later family's looks); each row that meets fmt, with fmt's text TOLD by the authors' own Lean function (tested against real Go, not proved from fmt's source: count such statements apart). THE CARD IS WHAT COUNTS. Prove the row's statement (the work); the ties are given (YtnomcldpbkinmaaGreatDoorTie.lean); close each card by the builder's one call (the guide's Derived/Test/ToyasCard.lean, 'card_holds'). Laid BY PROGRAM, IN A SANDBOX (cutbox-door.mjs). By AI agents, Wed Nov 11 2026. No macro, syntax, notation, axiom, sorry.
-/
import Derived.Test.YtnomcldpbkinmaaGreatDoorRows
import GoSem.ClaimSeven
namespace Go.Proofs.YtnomcldpbkinmaaGreatDoor
namespace Rows

/-- THE TIED CARD OF 'oriellaw08.WellEvents'. -/
def wellEventsCard : Claim7 := { stood := { row := wellEventsRow, standIns := [], harness := (true, "ea8cb650c491264af26a7abc48bc30c1a36290be022033581e5220e137cdf7da"), looks := true }, kinds := [], alts := [], laidByText := true, laidKinds := [.data, .data, .data, .data, .sentinel, .sentinel, .data, .data, .pinned, .pinned], laidTests := true, laidLooks := .later }
def WellEventsCardSaid : Prop := Claim7.holds Tryz.pinned (.plain (OpenSpec.ofChange wellEventsSpec)) wellEventsCard

/-- THE TIED CARD OF 'oriellaw08.WellTakes'. -/
def wellTakesCard : Claim7 := { stood := { row := wellTakesRow, standIns := [], harness := (true, "ea8cb650c491264af26a7abc48bc30c1a36290be022033581e5220e137cdf7da"), looks := true }, kinds := [], alts := [], laidByText := true, laidKinds := [.data, .data, .data, .data, .sentinel, .sentinel, .data, .data, .pinned, .pinned], laidTests := true, laidLooks := .later }
def WellTakesCardSaid : Prop := Claim7.holds Tryz.pinned (.plain (OpenSpec.ofChange wellTakesSpec)) wellTakesCard

/-- THE TIED CARD OF 'oriellaw08.WellPrefix'. -/
def wellPrefixCard : Claim7 := { stood := { row := wellPrefixRow, standIns := [], harness := (true, "ea8cb650c491264af26a7abc48bc30c1a36290be022033581e5220e137cdf7da"), looks := true }, kinds := [], alts := [], laidByText := true, laidKinds := [.data, .data, .data, .data, .sentinel, .sentinel, .data, .data, .pinned, .pinned], laidTests := true, laidLooks := .later }
def WellPrefixCardSaid : Prop := Claim7.holds Tryz.pinned (.plain (OpenSpec.ofChange wellPrefixSpec)) wellPrefixCard

/-- THE TIED CARD OF 'oriellaw08.WellNests'. -/
def wellNestsCard : Claim7 := { stood := { row := wellNestsRow, standIns := [], harness := (true, "ea8cb650c491264af26a7abc48bc30c1a36290be022033581e5220e137cdf7da"), looks := true }, kinds := [], alts := [], laidByText := true, laidKinds := [.data, .data, .data, .data, .sentinel, .sentinel, .data, .data, .pinned, .pinned], laidTests := true, laidLooks := .later }
def WellNestsCardSaid : Prop := Claim7.holds Tryz.pinned (.plain (OpenSpec.ofChange wellNestsSpec)) wellNestsCard

/-- THE TIED CARD OF 'oriellaw08.WellTexts'. -/
def wellTextsCard : Claim7 := { stood := { row := wellTextsRow, standIns := [], harness := (true, "ea8cb650c491264af26a7abc48bc30c1a36290be022033581e5220e137cdf7da"), looks := true }, kinds := [], alts := [], laidByText := true, laidKinds := [.data, .data, .data, .data, .sentinel, .sentinel, .data, .data, .pinned, .pinned], laidTests := true, laidLooks := .later }
def WellTextsCardSaid : Prop := Claim7.holds Tryz.pinned (.plain (OpenSpec.ofChange wellTextsSpec)) wellTextsCard

/-- THE TIED CARD OF 'oriellaw08.WellKeeps'. -/
def wellKeepsCard : Claim7 := { stood := { row := wellKeepsRow, standIns := [], harness := (true, "ea8cb650c491264af26a7abc48bc30c1a36290be022033581e5220e137cdf7da"), looks := true }, kinds := [], alts := [], laidByText := true, laidKinds := [.data, .data, .data, .data, .sentinel, .sentinel, .data, .data, .pinned, .pinned], laidTests := true, laidLooks := .later }
def WellKeepsCardSaid : Prop := Claim7.holds Tryz.pinned (.plain (OpenSpec.ofChange wellKeepsSpec)) wellKeepsCard

/-- THE SECOND FORM's CARD OF 'oriellaw08.WellEvents'. -/
def wellEventsUptoCard : Claim7 := { stood := { row := wellEventsUptoRow, standIns := [], harness := (true, "ea8cb650c491264af26a7abc48bc30c1a36290be022033581e5220e137cdf7da"), looks := true }, kinds := [], alts := [], laidByText := true, laidKinds := [.data, .data, .data, .data, .sentinel, .sentinel, .data, .data, .pinned, .pinned], laidTests := true, laidLooks := .later }
def WellEventsUptoCardSaid : Prop := Claim7.holds Tryz.pinned (.plain (OpenSpec.upto wellEventsSpec)) wellEventsUptoCard

/-- THE SECOND FORM's CARD OF 'oriellaw08.WellTakes'. -/
def wellTakesUptoCard : Claim7 := { stood := { row := wellTakesUptoRow, standIns := [], harness := (true, "ea8cb650c491264af26a7abc48bc30c1a36290be022033581e5220e137cdf7da"), looks := true }, kinds := [], alts := [], laidByText := true, laidKinds := [.data, .data, .data, .data, .sentinel, .sentinel, .data, .data, .pinned, .pinned], laidTests := true, laidLooks := .later }
def WellTakesUptoCardSaid : Prop := Claim7.holds Tryz.pinned (.plain (OpenSpec.upto wellTakesSpec)) wellTakesUptoCard

/-- THE SECOND FORM's CARD OF 'oriellaw08.WellPrefix'. -/
def wellPrefixUptoCard : Claim7 := { stood := { row := wellPrefixUptoRow, standIns := [], harness := (true, "ea8cb650c491264af26a7abc48bc30c1a36290be022033581e5220e137cdf7da"), looks := true }, kinds := [], alts := [], laidByText := true, laidKinds := [.data, .data, .data, .data, .sentinel, .sentinel, .data, .data, .pinned, .pinned], laidTests := true, laidLooks := .later }
def WellPrefixUptoCardSaid : Prop := Claim7.holds Tryz.pinned (.plain (OpenSpec.upto wellPrefixSpec)) wellPrefixUptoCard

/-- THE SECOND FORM's CARD OF 'oriellaw08.WellNests'. -/
def wellNestsUptoCard : Claim7 := { stood := { row := wellNestsUptoRow, standIns := [], harness := (true, "ea8cb650c491264af26a7abc48bc30c1a36290be022033581e5220e137cdf7da"), looks := true }, kinds := [], alts := [], laidByText := true, laidKinds := [.data, .data, .data, .data, .sentinel, .sentinel, .data, .data, .pinned, .pinned], laidTests := true, laidLooks := .later }
def WellNestsUptoCardSaid : Prop := Claim7.holds Tryz.pinned (.plain (OpenSpec.upto wellNestsSpec)) wellNestsUptoCard

/-- THE SECOND FORM's CARD OF 'oriellaw08.WellTexts'. -/
def wellTextsUptoCard : Claim7 := { stood := { row := wellTextsUptoRow, standIns := [], harness := (true, "ea8cb650c491264af26a7abc48bc30c1a36290be022033581e5220e137cdf7da"), looks := true }, kinds := [], alts := [], laidByText := true, laidKinds := [.data, .data, .data, .data, .sentinel, .sentinel, .data, .data, .pinned, .pinned], laidTests := true, laidLooks := .later }
def WellTextsUptoCardSaid : Prop := Claim7.holds Tryz.pinned (.plain (OpenSpec.upto wellTextsSpec)) wellTextsUptoCard

/-- THE SECOND FORM's CARD OF 'oriellaw08.WellKeeps'. -/
def wellKeepsUptoCard : Claim7 := { stood := { row := wellKeepsUptoRow, standIns := [], harness := (true, "ea8cb650c491264af26a7abc48bc30c1a36290be022033581e5220e137cdf7da"), looks := true }, kinds := [], alts := [], laidByText := true, laidKinds := [.data, .data, .data, .data, .sentinel, .sentinel, .data, .data, .pinned, .pinned], laidTests := true, laidLooks := .later }
def WellKeepsUptoCardSaid : Prop := Claim7.holds Tryz.pinned (.plain (OpenSpec.upto wellKeepsSpec)) wellKeepsUptoCard
end Rows
end Go.Proofs.YtnomcldpbkinmaaGreatDoor
