/-
  DERIVED. GIVEN WITH THE SEED: THE CARDS: each row of YtkaimohkdkdbmaaDoorRows.lean that lists a variable, with what it lists TIED to the program's text (the seventh form; the later family's looks); each row that meets fmt, with fmt's text TOLD by the authors' own Lean function (tested against real Go, not proved from fmt's source: count such statements apart). THE CARD IS WHAT COUNTS. Prove the row's statement (the work); the ties are given (YtkaimohkdkdbmaaDoorTie.lean); close each card by the builder's one call (the guide's Derived/Test/ToyasCard.lean, 'card_holds'). Laid BY PROGRAM, IN A SANDBOX (cutbox-door.mjs). By AI agents, Wed Nov 11 2026. No macro, syntax, notation, axiom, sorry.
-/
import Derived.Test.YtkaimohkdkdbmaaDoorRows
import GoSem.ClaimSeven
namespace Go.Proofs.YtkaimohkdkdbmaaDoor
namespace Rows

/-- THE TIED CARD OF 'oriellaw04.RefReads'. -/
def refReadsCard : Claim7 := { stood := { row := refReadsRow, standIns := [], harness := (true, "298722bbe8a8dc064feac51ed8d4cc47f6ddf4d78f8f2db3412a22110e71c324"), looks := true }, kinds := [], alts := [], laidByText := true, laidKinds := [.data, .data, .data, .sentinel, .sentinel], laidTests := true, laidLooks := .later }
def RefReadsCardSaid : Prop := Claim7.holds Tryd.pinned (.plain (OpenSpec.ofChange refReadsSpec)) refReadsCard

/-- THE TIED CARD OF 'oriellaw04.RefEscapes'. -/
def refEscapesCard : Claim7 := { stood := { row := refEscapesRow, standIns := [], harness := (true, "298722bbe8a8dc064feac51ed8d4cc47f6ddf4d78f8f2db3412a22110e71c324"), looks := true }, kinds := [], alts := [], laidByText := true, laidKinds := [.data, .data, .data, .sentinel, .sentinel], laidTests := true, laidLooks := .later }
def RefEscapesCardSaid : Prop := Claim7.holds Tryd.pinned (.plain (OpenSpec.ofChange refEscapesSpec)) refEscapesCard

/-- THE TIED CARD OF 'oriellaw04.RefBack'. -/
def refBackCard : Claim7 := { stood := { row := refBackRow, standIns := [], harness := (true, "298722bbe8a8dc064feac51ed8d4cc47f6ddf4d78f8f2db3412a22110e71c324"), looks := true }, kinds := [], alts := [], laidByText := true, laidKinds := [.data, .data, .data, .sentinel, .sentinel], laidTests := true, laidLooks := .later }
def RefBackCardSaid : Prop := Claim7.holds Tryd.pinned (.plain (OpenSpec.ofChange refBackSpec)) refBackCard

/-- THE TIED CARD OF 'oriellaw04.RefJoins'. -/
def refJoinsCard : Claim7 := { stood := { row := refJoinsRow, standIns := [], harness := (true, "298722bbe8a8dc064feac51ed8d4cc47f6ddf4d78f8f2db3412a22110e71c324"), looks := true }, kinds := [], alts := [], laidByText := true, laidKinds := [.data, .data, .data, .sentinel, .sentinel], laidTests := true, laidLooks := .later }
def RefJoinsCardSaid : Prop := Claim7.holds Tryd.pinned (.plain (OpenSpec.ofChange refJoinsSpec)) refJoinsCard

/-- THE TIED CARD OF 'oriellaw04.RefPlain'. -/
def refPlainCard : Claim7 := { stood := { row := refPlainRow, standIns := [], harness := (true, "298722bbe8a8dc064feac51ed8d4cc47f6ddf4d78f8f2db3412a22110e71c324"), looks := true }, kinds := [], alts := [], laidByText := true, laidKinds := [.data, .data, .data, .sentinel, .sentinel], laidTests := true, laidLooks := .later }
def RefPlainCardSaid : Prop := Claim7.holds Tryd.pinned (.plain (OpenSpec.ofChange refPlainSpec)) refPlainCard

/-- THE SECOND FORM's CARD OF 'oriellaw04.RefReads'. -/
def refReadsUptoCard : Claim7 := { stood := { row := refReadsUptoRow, standIns := [], harness := (true, "298722bbe8a8dc064feac51ed8d4cc47f6ddf4d78f8f2db3412a22110e71c324"), looks := true }, kinds := [], alts := [], laidByText := true, laidKinds := [.data, .data, .data, .sentinel, .sentinel], laidTests := true, laidLooks := .later }
def RefReadsUptoCardSaid : Prop := Claim7.holds Tryd.pinned (.plain (OpenSpec.upto refReadsSpec)) refReadsUptoCard

/-- THE SECOND FORM's CARD OF 'oriellaw04.RefEscapes'. -/
def refEscapesUptoCard : Claim7 := { stood := { row := refEscapesUptoRow, standIns := [], harness := (true, "298722bbe8a8dc064feac51ed8d4cc47f6ddf4d78f8f2db3412a22110e71c324"), looks := true }, kinds := [], alts := [], laidByText := true, laidKinds := [.data, .data, .data, .sentinel, .sentinel], laidTests := true, laidLooks := .later }
def RefEscapesUptoCardSaid : Prop := Claim7.holds Tryd.pinned (.plain (OpenSpec.upto refEscapesSpec)) refEscapesUptoCard

/-- THE SECOND FORM's CARD OF 'oriellaw04.RefBack'. -/
def refBackUptoCard : Claim7 := { stood := { row := refBackUptoRow, standIns := [], harness := (true, "298722bbe8a8dc064feac51ed8d4cc47f6ddf4d78f8f2db3412a22110e71c324"), looks := true }, kinds := [], alts := [], laidByText := true, laidKinds := [.data, .data, .data, .sentinel, .sentinel], laidTests := true, laidLooks := .later }
def RefBackUptoCardSaid : Prop := Claim7.holds Tryd.pinned (.plain (OpenSpec.upto refBackSpec)) refBackUptoCard

/-- THE SECOND FORM's CARD OF 'oriellaw04.RefJoins'. -/
def refJoinsUptoCard : Claim7 := { stood := { row := refJoinsUptoRow, standIns := [], harness := (true, "298722bbe8a8dc064feac51ed8d4cc47f6ddf4d78f8f2db3412a22110e71c324"), looks := true }, kinds := [], alts := [], laidByText := true, laidKinds := [.data, .data, .data, .sentinel, .sentinel], laidTests := true, laidLooks := .later }
def RefJoinsUptoCardSaid : Prop := Claim7.holds Tryd.pinned (.plain (OpenSpec.upto refJoinsSpec)) refJoinsUptoCard

/-- THE SECOND FORM's CARD OF 'oriellaw04.RefPlain'. -/
def refPlainUptoCard : Claim7 := { stood := { row := refPlainUptoRow, standIns := [], harness := (true, "298722bbe8a8dc064feac51ed8d4cc47f6ddf4d78f8f2db3412a22110e71c324"), looks := true }, kinds := [], alts := [], laidByText := true, laidKinds := [.data, .data, .data, .sentinel, .sentinel], laidTests := true, laidLooks := .later }
def RefPlainUptoCardSaid : Prop := Claim7.holds Tryd.pinned (.plain (OpenSpec.upto refPlainSpec)) refPlainUptoCard
end Rows
end Go.Proofs.YtkaimohkdkdbmaaDoor
