/-
  DERIVED. GIVEN WITH THE SEED: THE CARDS: each row of YtnkmlfbnfndfpaaGreatDoorRows.lean that lists a variable, with what it lists TIED to the program's text (the seventh form; the later family's looks); each row that meets fmt, with fmt's text TOLD by the authors' own Lean function (tested against real Go, not proved from fmt's source: count such statements apart). THE CARD IS WHAT COUNTS. Prove the row's statement (the work); the ties are given (YtnkmlfbnfndfpaaGreatDoorTie.lean); close each card by the builder's one call (the guide's Derived/Test/ToyasCard.lean, 'card_holds'). Laid BY PROGRAM, IN A SANDBOX (cutbox-door.mjs). By AI agents, Wed Nov 11 2026. No macro, syntax, notation, axiom, sorry.
-/
import Derived.Test.YtnkmlfbnfndfpaaGreatDoorRows
import GoSem.ClaimSeven
namespace Go.Proofs.YtnkmlfbnfndfpaaGreatDoor
namespace Rows

/-- THE TIED CARD OF 'analemmalaw10.SourceParses'. -/
def sourceParsesCard : Claim7 := { stood := { row := sourceParsesRow, standIns := [], harness := (true, "8d1ebaaaec246495601eb1df695182fc54ebcf0ef91109f14c588e5e094844ce"), looks := true }, kinds := [], alts := [], laidByText := true, laidKinds := [.data, .data, .data, .data, .sentinel, .sentinel, .data, .data, .pinned], laidTests := true, laidLooks := .later }
def SourceParsesCardSaid : Prop := Claim7.holds Tryz.pinned (.plain (OpenSpec.ofChange sourceParsesSpec)) sourceParsesCard

/-- THE TIED CARD OF 'analemmalaw10.SourcePrints'. -/
def sourcePrintsCard : Claim7 := { stood := { row := sourcePrintsRow, standIns := [], harness := (true, "8d1ebaaaec246495601eb1df695182fc54ebcf0ef91109f14c588e5e094844ce"), looks := true }, kinds := [], alts := [], laidByText := true, laidKinds := [.data, .data, .data, .data, .sentinel, .sentinel, .data, .data, .data, .pinned], laidTests := true, laidLooks := .later }
def SourcePrintsCardSaid : Prop := Claim7.holds Tryz.pinned (.plain (OpenSpec.ofChange sourcePrintsSpec)) sourcePrintsCard

/-- THE TIED CARD OF 'analemmalaw10.SourceNames'. -/
def sourceNamesCard : Claim7 := { stood := { row := sourceNamesRow, standIns := [], harness := (true, "8d1ebaaaec246495601eb1df695182fc54ebcf0ef91109f14c588e5e094844ce"), looks := true }, kinds := [], alts := [], laidByText := true, laidKinds := [.data, .data, .data, .data, .sentinel, .sentinel, .data, .data, .pinned], laidTests := true, laidLooks := .later }
def SourceNamesCardSaid : Prop := Claim7.holds Tryz.pinned (.plain (OpenSpec.ofChange sourceNamesSpec)) sourceNamesCard

/-- THE TIED CARD OF 'analemmalaw10.SourceBack'. -/
def sourceBackCard : Claim7 := { stood := { row := sourceBackRow, standIns := [], harness := (true, "8d1ebaaaec246495601eb1df695182fc54ebcf0ef91109f14c588e5e094844ce"), looks := true }, kinds := [], alts := [], laidByText := true, laidKinds := [.data, .data, .data, .data, .sentinel, .sentinel, .data, .data, .data, .pinned], laidTests := true, laidLooks := .later }
def SourceBackCardSaid : Prop := Claim7.holds Tryz.pinned (.plain (OpenSpec.ofChange sourceBackSpec)) sourceBackCard

/-- THE TIED CARD OF 'analemmalaw10.SourceRemarks'. -/
def sourceRemarksCard : Claim7 := { stood := { row := sourceRemarksRow, standIns := [], harness := (true, "8d1ebaaaec246495601eb1df695182fc54ebcf0ef91109f14c588e5e094844ce"), looks := true }, kinds := [], alts := [], laidByText := true, laidKinds := [.data, .data, .data, .data, .sentinel, .sentinel, .data, .data, .pinned], laidTests := true, laidLooks := .later }
def SourceRemarksCardSaid : Prop := Claim7.holds Tryz.pinned (.plain (OpenSpec.ofChange sourceRemarksSpec)) sourceRemarksCard

/-- THE TIED CARD OF 'analemmalaw10.SourceAhead'. -/
def sourceAheadCard : Claim7 := { stood := { row := sourceAheadRow, standIns := [], harness := (true, "8d1ebaaaec246495601eb1df695182fc54ebcf0ef91109f14c588e5e094844ce"), looks := true }, kinds := [], alts := [], laidByText := true, laidKinds := [.data, .data, .data, .data, .sentinel, .sentinel, .data, .data, .pinned], laidTests := true, laidLooks := .later }
def SourceAheadCardSaid : Prop := Claim7.holds Tryz.pinned (.plain (OpenSpec.ofChange sourceAheadSpec)) sourceAheadCard

/-- THE SECOND FORM's CARD OF 'analemmalaw10.SourceParses'. -/
def sourceParsesUptoCard : Claim7 := { stood := { row := sourceParsesUptoRow, standIns := [], harness := (true, "8d1ebaaaec246495601eb1df695182fc54ebcf0ef91109f14c588e5e094844ce"), looks := true }, kinds := [], alts := [], laidByText := true, laidKinds := [.data, .data, .data, .data, .sentinel, .sentinel, .data, .data, .pinned], laidTests := true, laidLooks := .later }
def SourceParsesUptoCardSaid : Prop := Claim7.holds Tryz.pinned (.plain (OpenSpec.upto sourceParsesSpec)) sourceParsesUptoCard

/-- THE SECOND FORM's CARD OF 'analemmalaw10.SourcePrints'. -/
def sourcePrintsUptoCard : Claim7 := { stood := { row := sourcePrintsUptoRow, standIns := [], harness := (true, "8d1ebaaaec246495601eb1df695182fc54ebcf0ef91109f14c588e5e094844ce"), looks := true }, kinds := [], alts := [], laidByText := true, laidKinds := [.data, .data, .data, .data, .sentinel, .sentinel, .data, .data, .data, .pinned], laidTests := true, laidLooks := .later }
def SourcePrintsUptoCardSaid : Prop := Claim7.holds Tryz.pinned (.plain (OpenSpec.upto sourcePrintsSpec)) sourcePrintsUptoCard

/-- THE SECOND FORM's CARD OF 'analemmalaw10.SourceNames'. -/
def sourceNamesUptoCard : Claim7 := { stood := { row := sourceNamesUptoRow, standIns := [], harness := (true, "8d1ebaaaec246495601eb1df695182fc54ebcf0ef91109f14c588e5e094844ce"), looks := true }, kinds := [], alts := [], laidByText := true, laidKinds := [.data, .data, .data, .data, .sentinel, .sentinel, .data, .data, .pinned], laidTests := true, laidLooks := .later }
def SourceNamesUptoCardSaid : Prop := Claim7.holds Tryz.pinned (.plain (OpenSpec.upto sourceNamesSpec)) sourceNamesUptoCard

/-- THE SECOND FORM's CARD OF 'analemmalaw10.SourceBack'. -/
def sourceBackUptoCard : Claim7 := { stood := { row := sourceBackUptoRow, standIns := [], harness := (true, "8d1ebaaaec246495601eb1df695182fc54ebcf0ef91109f14c588e5e094844ce"), looks := true }, kinds := [], alts := [], laidByText := true, laidKinds := [.data, .data, .data, .data, .sentinel, .sentinel, .data, .data, .data, .pinned], laidTests := true, laidLooks := .later }
def SourceBackUptoCardSaid : Prop := Claim7.holds Tryz.pinned (.plain (OpenSpec.upto sourceBackSpec)) sourceBackUptoCard

/-- THE SECOND FORM's CARD OF 'analemmalaw10.SourceRemarks'. -/
def sourceRemarksUptoCard : Claim7 := { stood := { row := sourceRemarksUptoRow, standIns := [], harness := (true, "8d1ebaaaec246495601eb1df695182fc54ebcf0ef91109f14c588e5e094844ce"), looks := true }, kinds := [], alts := [], laidByText := true, laidKinds := [.data, .data, .data, .data, .sentinel, .sentinel, .data, .data, .pinned], laidTests := true, laidLooks := .later }
def SourceRemarksUptoCardSaid : Prop := Claim7.holds Tryz.pinned (.plain (OpenSpec.upto sourceRemarksSpec)) sourceRemarksUptoCard

/-- THE SECOND FORM's CARD OF 'analemmalaw10.SourceAhead'. -/
def sourceAheadUptoCard : Claim7 := { stood := { row := sourceAheadUptoRow, standIns := [], harness := (true, "8d1ebaaaec246495601eb1df695182fc54ebcf0ef91109f14c588e5e094844ce"), looks := true }, kinds := [], alts := [], laidByText := true, laidKinds := [.data, .data, .data, .data, .sentinel, .sentinel, .data, .data, .pinned], laidTests := true, laidLooks := .later }
def SourceAheadUptoCardSaid : Prop := Claim7.holds Tryz.pinned (.plain (OpenSpec.upto sourceAheadSpec)) sourceAheadUptoCard
end Rows
end Go.Proofs.YtnkmlfbnfndfpaaGreatDoor
