/-
  DERIVED. GIVEN WITH THE SEED: THE CARDS: each row of YtmmgppfopojnlaaDoorRows.lean that lists a variable, with what it lists TIED to the program's text (the seventh form; the later family's looks); each row that meets fmt, with fmt's text TOLD by the authors' own Lean function (tested against real Go, not proved from fmt's source: count such statements apart). THE CARD IS WHAT COUNTS. Prove the row's statement (the work); the ties are given (YtmmgppfopojnlaaDoorTie.lean); close each card by the builder's one call (the guide's Derived/Test/ToyasCard.lean, 'card_holds'). Laid BY PROGRAM, IN A SANDBOX (cutbox-door.mjs). By AI agents, Wed Nov 11 2026. No macro, syntax, notation, axiom, sorry.
-/
import Derived.Test.YtmmgppfopojnlaaDoorRows
import GoSem.ClaimSeven
namespace Go.Proofs.YtmmgppfopojnlaaDoor
namespace Rows

/-- THE TIED CARD OF 'analemmalaw05.CivilCounts'. -/
def civilCountsCard : Claim7 := { stood := { row := civilCountsRow, standIns := [], harness := (true, "aaad89e1571cfe1ee30ee0c2bfeaf55f1b4681a09eb0c84986755b6cb6fbec2e"), looks := false }, kinds := [], alts := [], laidByText := true, laidKinds := [.data], laidTests := true, laidLooks := .later }
def CivilCountsCardSaid : Prop := Claim7.holds Tryd.pinned (.plain (OpenSpec.ofChange civilCountsSpec)) civilCountsCard

/-- THE TIED CARD OF 'analemmalaw05.CivilLengths'. -/
def civilLengthsCard : Claim7 := { stood := { row := civilLengthsRow, standIns := [], harness := (true, "aaad89e1571cfe1ee30ee0c2bfeaf55f1b4681a09eb0c84986755b6cb6fbec2e"), looks := false }, kinds := [], alts := [], laidByText := true, laidKinds := [.data], laidTests := true, laidLooks := .later }
def CivilLengthsCardSaid : Prop := Claim7.holds Tryd.pinned (.plain (OpenSpec.ofChange civilLengthsSpec)) civilLengthsCard

/-- THE TIED CARD OF 'analemmalaw05.CivilWeeks'. -/
def civilWeeksCard : Claim7 := { stood := { row := civilWeeksRow, standIns := [], harness := (true, "aaad89e1571cfe1ee30ee0c2bfeaf55f1b4681a09eb0c84986755b6cb6fbec2e"), looks := false }, kinds := [], alts := [], laidByText := true, laidKinds := [.data], laidTests := true, laidLooks := .later }
def CivilWeeksCardSaid : Prop := Claim7.holds Tryd.pinned (.plain (OpenSpec.ofChange civilWeeksSpec)) civilWeeksCard

/-- THE TIED CARD OF 'analemmalaw05.CivilRegulates'. -/
def civilRegulatesCard : Claim7 := { stood := { row := civilRegulatesRow, standIns := [], harness := (true, "aaad89e1571cfe1ee30ee0c2bfeaf55f1b4681a09eb0c84986755b6cb6fbec2e"), looks := false }, kinds := [], alts := [], laidByText := true, laidKinds := [.data], laidTests := true, laidLooks := .later }
def CivilRegulatesCardSaid : Prop := Claim7.holds Tryd.pinned (.plain (OpenSpec.ofChange civilRegulatesSpec)) civilRegulatesCard

/-- THE TIED CARD OF 'analemmalaw05.CivilAdds'. -/
def civilAddsCard : Claim7 := { stood := { row := civilAddsRow, standIns := [], harness := (true, "aaad89e1571cfe1ee30ee0c2bfeaf55f1b4681a09eb0c84986755b6cb6fbec2e"), looks := false }, kinds := [], alts := [], laidByText := true, laidKinds := [.data], laidTests := true, laidLooks := .later }
def CivilAddsCardSaid : Prop := Claim7.holds Tryd.pinned (.plain (OpenSpec.ofChange civilAddsSpec)) civilAddsCard

/-- THE TIED CARD OF 'analemmalaw05.CivilNext'. -/
def civilNextCard : Claim7 := { stood := { row := civilNextRow, standIns := [], harness := (true, "aaad89e1571cfe1ee30ee0c2bfeaf55f1b4681a09eb0c84986755b6cb6fbec2e"), looks := false }, kinds := [], alts := [], laidByText := true, laidKinds := [.data], laidTests := true, laidLooks := .later }
def CivilNextCardSaid : Prop := Claim7.holds Tryd.pinned (.plain (OpenSpec.ofChange civilNextSpec)) civilNextCard

/-- THE TIED CARD OF 'analemmalaw05.CivilSevens'. -/
def civilSevensCard : Claim7 := { stood := { row := civilSevensRow, standIns := [], harness := (true, "aaad89e1571cfe1ee30ee0c2bfeaf55f1b4681a09eb0c84986755b6cb6fbec2e"), looks := false }, kinds := [], alts := [], laidByText := true, laidKinds := [.data], laidTests := true, laidLooks := .later }
def CivilSevensCardSaid : Prop := Claim7.holds Tryd.pinned (.plain (OpenSpec.ofChange civilSevensSpec)) civilSevensCard

/-- THE SECOND FORM's CARD OF 'analemmalaw05.CivilCounts'. -/
def civilCountsUptoCard : Claim7 := { stood := { row := civilCountsUptoRow, standIns := [], harness := (true, "aaad89e1571cfe1ee30ee0c2bfeaf55f1b4681a09eb0c84986755b6cb6fbec2e"), looks := false }, kinds := [], alts := [], laidByText := true, laidKinds := [.data], laidTests := true, laidLooks := .later }
def CivilCountsUptoCardSaid : Prop := Claim7.holds Tryd.pinned (.plain (OpenSpec.upto civilCountsSpec)) civilCountsUptoCard

/-- THE SECOND FORM's CARD OF 'analemmalaw05.CivilLengths'. -/
def civilLengthsUptoCard : Claim7 := { stood := { row := civilLengthsUptoRow, standIns := [], harness := (true, "aaad89e1571cfe1ee30ee0c2bfeaf55f1b4681a09eb0c84986755b6cb6fbec2e"), looks := false }, kinds := [], alts := [], laidByText := true, laidKinds := [.data], laidTests := true, laidLooks := .later }
def CivilLengthsUptoCardSaid : Prop := Claim7.holds Tryd.pinned (.plain (OpenSpec.upto civilLengthsSpec)) civilLengthsUptoCard

/-- THE SECOND FORM's CARD OF 'analemmalaw05.CivilWeeks'. -/
def civilWeeksUptoCard : Claim7 := { stood := { row := civilWeeksUptoRow, standIns := [], harness := (true, "aaad89e1571cfe1ee30ee0c2bfeaf55f1b4681a09eb0c84986755b6cb6fbec2e"), looks := false }, kinds := [], alts := [], laidByText := true, laidKinds := [.data], laidTests := true, laidLooks := .later }
def CivilWeeksUptoCardSaid : Prop := Claim7.holds Tryd.pinned (.plain (OpenSpec.upto civilWeeksSpec)) civilWeeksUptoCard

/-- THE SECOND FORM's CARD OF 'analemmalaw05.CivilRegulates'. -/
def civilRegulatesUptoCard : Claim7 := { stood := { row := civilRegulatesUptoRow, standIns := [], harness := (true, "aaad89e1571cfe1ee30ee0c2bfeaf55f1b4681a09eb0c84986755b6cb6fbec2e"), looks := false }, kinds := [], alts := [], laidByText := true, laidKinds := [.data], laidTests := true, laidLooks := .later }
def CivilRegulatesUptoCardSaid : Prop := Claim7.holds Tryd.pinned (.plain (OpenSpec.upto civilRegulatesSpec)) civilRegulatesUptoCard

/-- THE SECOND FORM's CARD OF 'analemmalaw05.CivilAdds'. -/
def civilAddsUptoCard : Claim7 := { stood := { row := civilAddsUptoRow, standIns := [], harness := (true, "aaad89e1571cfe1ee30ee0c2bfeaf55f1b4681a09eb0c84986755b6cb6fbec2e"), looks := false }, kinds := [], alts := [], laidByText := true, laidKinds := [.data], laidTests := true, laidLooks := .later }
def CivilAddsUptoCardSaid : Prop := Claim7.holds Tryd.pinned (.plain (OpenSpec.upto civilAddsSpec)) civilAddsUptoCard

/-- THE SECOND FORM's CARD OF 'analemmalaw05.CivilNext'. -/
def civilNextUptoCard : Claim7 := { stood := { row := civilNextUptoRow, standIns := [], harness := (true, "aaad89e1571cfe1ee30ee0c2bfeaf55f1b4681a09eb0c84986755b6cb6fbec2e"), looks := false }, kinds := [], alts := [], laidByText := true, laidKinds := [.data], laidTests := true, laidLooks := .later }
def CivilNextUptoCardSaid : Prop := Claim7.holds Tryd.pinned (.plain (OpenSpec.upto civilNextSpec)) civilNextUptoCard

/-- THE SECOND FORM's CARD OF 'analemmalaw05.CivilSevens'. -/
def civilSevensUptoCard : Claim7 := { stood := { row := civilSevensUptoRow, standIns := [], harness := (true, "aaad89e1571cfe1ee30ee0c2bfeaf55f1b4681a09eb0c84986755b6cb6fbec2e"), looks := false }, kinds := [], alts := [], laidByText := true, laidKinds := [.data], laidTests := true, laidLooks := .later }
def CivilSevensUptoCardSaid : Prop := Claim7.holds Tryd.pinned (.plain (OpenSpec.upto civilSevensSpec)) civilSevensUptoCard
end Rows
end Go.Proofs.YtmmgppfopojnlaaDoor
