/-
  DERIVED. GIVEN WITH THE SEED: THE CARDS: each row of YtipohfaapiiopaaDoorRows.lean that lists a variable, with what it lists TIED to the program's text (the seventh form; the later family's looks); each row that meets fmt, with fmt's text TOLD by the authors' own Lean function (tested against real Go, not proved from fmt's source: count such statements apart). THE CARD IS WHAT COUNTS. Prove the row's statement (the work); the ties are given (YtipohfaapiiopaaDoorTie.lean); close each card by the builder's one call (the guide's Derived/Test/ToyasCard.lean, 'card_holds'). Laid BY PROGRAM, IN A SANDBOX (cutbox-door.mjs). By AI agents, Wed Nov 11 2026. No macro, syntax, notation, axiom, sorry.
-/
import Derived.Test.YtipohfaapiiopaaDoorRows
import GoSem.ClaimSeven
namespace Go.Proofs.YtipohfaapiiopaaDoor
namespace Rows

/-- THE TIED CARD OF 'analemmalaw09.MomentNames'. -/
def momentNamesCard : Claim7 := { stood := { row := momentNamesRow, standIns := [], harness := (true, "288abf135957184ad58b5a6c8cbc274395897e03746b21076703fa27f6317dcb"), looks := false }, kinds := [], alts := [], laidByText := true, laidKinds := [.data, .data, .data, .data, .pinned], laidTests := true, laidLooks := .later }
def MomentNamesCardSaid : Prop := Claim7.holds Tryd.pinned (.plain (OpenSpec.ofChange momentNamesSpec)) momentNamesCard

/-- THE TIED CARD OF 'analemmalaw09.MomentClocks'. -/
def momentClocksCard : Claim7 := { stood := { row := momentClocksRow, standIns := [], harness := (true, "288abf135957184ad58b5a6c8cbc274395897e03746b21076703fa27f6317dcb"), looks := false }, kinds := [], alts := [], laidByText := true, laidKinds := [.data, .data, .data, .data, .pinned], laidTests := true, laidLooks := .later }
def MomentClocksCardSaid : Prop := Claim7.holds Tryd.pinned (.plain (OpenSpec.ofChange momentClocksSpec)) momentClocksCard

/-- THE TIED CARD OF 'analemmalaw09.MomentParses'. -/
def momentParsesCard : Claim7 := { stood := { row := momentParsesRow, standIns := [], harness := (true, "288abf135957184ad58b5a6c8cbc274395897e03746b21076703fa27f6317dcb"), looks := false }, kinds := [], alts := [], laidByText := true, laidKinds := [.data, .data, .data, .data, .pinned], laidTests := true, laidLooks := .later }
def MomentParsesCardSaid : Prop := Claim7.holds Tryd.pinned (.plain (OpenSpec.ofChange momentParsesSpec)) momentParsesCard

/-- THE TIED CARD OF 'analemmalaw09.MomentPrints'. -/
def momentPrintsCard : Claim7 := { stood := { row := momentPrintsRow, standIns := [], harness := (true, "288abf135957184ad58b5a6c8cbc274395897e03746b21076703fa27f6317dcb"), looks := false }, kinds := [], alts := [], laidByText := true, laidKinds := [.data, .data, .data, .data, .data, .data, .data, .data, .pinned], laidTests := true, laidLooks := .later }
def MomentPrintsCardSaid : Prop := Claim7.holds Tryd.pinned (.plain (OpenSpec.ofChange momentPrintsSpec)) momentPrintsCard

/-- THE TIED CARD OF 'analemmalaw09.MomentDays'. -/
def momentDaysCard : Claim7 := { stood := { row := momentDaysRow, standIns := [], harness := (true, "288abf135957184ad58b5a6c8cbc274395897e03746b21076703fa27f6317dcb"), looks := false }, kinds := [], alts := [], laidByText := true, laidKinds := [.data, .data, .data, .data, .pinned], laidTests := true, laidLooks := .later }
def MomentDaysCardSaid : Prop := Claim7.holds Tryd.pinned (.plain (OpenSpec.ofChange momentDaysSpec)) momentDaysCard

/-- THE TIED CARD OF 'analemmalaw09.MomentBack'. -/
def momentBackCard : Claim7 := { stood := { row := momentBackRow, standIns := [], harness := (true, "288abf135957184ad58b5a6c8cbc274395897e03746b21076703fa27f6317dcb"), looks := false }, kinds := [], alts := [], laidByText := true, laidKinds := [.data, .data, .data, .data, .data, .data, .data, .data, .pinned], laidTests := true, laidLooks := .later }
def MomentBackCardSaid : Prop := Claim7.holds Tryd.pinned (.plain (OpenSpec.ofChange momentBackSpec)) momentBackCard

/-- THE TIED CARD OF 'analemmalaw09.MomentWeeks'. -/
def momentWeeksCard : Claim7 := { stood := { row := momentWeeksRow, standIns := [], harness := (true, "288abf135957184ad58b5a6c8cbc274395897e03746b21076703fa27f6317dcb"), looks := false }, kinds := [], alts := [], laidByText := true, laidKinds := [.data, .data, .data, .data, .pinned], laidTests := true, laidLooks := .later }
def MomentWeeksCardSaid : Prop := Claim7.holds Tryd.pinned (.plain (OpenSpec.ofChange momentWeeksSpec)) momentWeeksCard

/-- THE SECOND FORM's CARD OF 'analemmalaw09.MomentNames'. -/
def momentNamesUptoCard : Claim7 := { stood := { row := momentNamesUptoRow, standIns := [], harness := (true, "288abf135957184ad58b5a6c8cbc274395897e03746b21076703fa27f6317dcb"), looks := false }, kinds := [], alts := [], laidByText := true, laidKinds := [.data, .data, .data, .data, .pinned], laidTests := true, laidLooks := .later }
def MomentNamesUptoCardSaid : Prop := Claim7.holds Tryd.pinned (.plain (OpenSpec.upto momentNamesSpec)) momentNamesUptoCard

/-- THE SECOND FORM's CARD OF 'analemmalaw09.MomentClocks'. -/
def momentClocksUptoCard : Claim7 := { stood := { row := momentClocksUptoRow, standIns := [], harness := (true, "288abf135957184ad58b5a6c8cbc274395897e03746b21076703fa27f6317dcb"), looks := false }, kinds := [], alts := [], laidByText := true, laidKinds := [.data, .data, .data, .data, .pinned], laidTests := true, laidLooks := .later }
def MomentClocksUptoCardSaid : Prop := Claim7.holds Tryd.pinned (.plain (OpenSpec.upto momentClocksSpec)) momentClocksUptoCard

/-- THE SECOND FORM's CARD OF 'analemmalaw09.MomentParses'. -/
def momentParsesUptoCard : Claim7 := { stood := { row := momentParsesUptoRow, standIns := [], harness := (true, "288abf135957184ad58b5a6c8cbc274395897e03746b21076703fa27f6317dcb"), looks := false }, kinds := [], alts := [], laidByText := true, laidKinds := [.data, .data, .data, .data, .pinned], laidTests := true, laidLooks := .later }
def MomentParsesUptoCardSaid : Prop := Claim7.holds Tryd.pinned (.plain (OpenSpec.upto momentParsesSpec)) momentParsesUptoCard

/-- THE SECOND FORM's CARD OF 'analemmalaw09.MomentPrints'. -/
def momentPrintsUptoCard : Claim7 := { stood := { row := momentPrintsUptoRow, standIns := [], harness := (true, "288abf135957184ad58b5a6c8cbc274395897e03746b21076703fa27f6317dcb"), looks := false }, kinds := [], alts := [], laidByText := true, laidKinds := [.data, .data, .data, .data, .data, .data, .data, .data, .pinned], laidTests := true, laidLooks := .later }
def MomentPrintsUptoCardSaid : Prop := Claim7.holds Tryd.pinned (.plain (OpenSpec.upto momentPrintsSpec)) momentPrintsUptoCard

/-- THE SECOND FORM's CARD OF 'analemmalaw09.MomentDays'. -/
def momentDaysUptoCard : Claim7 := { stood := { row := momentDaysUptoRow, standIns := [], harness := (true, "288abf135957184ad58b5a6c8cbc274395897e03746b21076703fa27f6317dcb"), looks := false }, kinds := [], alts := [], laidByText := true, laidKinds := [.data, .data, .data, .data, .pinned], laidTests := true, laidLooks := .later }
def MomentDaysUptoCardSaid : Prop := Claim7.holds Tryd.pinned (.plain (OpenSpec.upto momentDaysSpec)) momentDaysUptoCard

/-- THE SECOND FORM's CARD OF 'analemmalaw09.MomentBack'. -/
def momentBackUptoCard : Claim7 := { stood := { row := momentBackUptoRow, standIns := [], harness := (true, "288abf135957184ad58b5a6c8cbc274395897e03746b21076703fa27f6317dcb"), looks := false }, kinds := [], alts := [], laidByText := true, laidKinds := [.data, .data, .data, .data, .data, .data, .data, .data, .pinned], laidTests := true, laidLooks := .later }
def MomentBackUptoCardSaid : Prop := Claim7.holds Tryd.pinned (.plain (OpenSpec.upto momentBackSpec)) momentBackUptoCard

/-- THE SECOND FORM's CARD OF 'analemmalaw09.MomentWeeks'. -/
def momentWeeksUptoCard : Claim7 := { stood := { row := momentWeeksUptoRow, standIns := [], harness := (true, "288abf135957184ad58b5a6c8cbc274395897e03746b21076703fa27f6317dcb"), looks := false }, kinds := [], alts := [], laidByText := true, laidKinds := [.data, .data, .data, .data, .pinned], laidTests := true, laidLooks := .later }
def MomentWeeksUptoCardSaid : Prop := Claim7.holds Tryd.pinned (.plain (OpenSpec.upto momentWeeksSpec)) momentWeeksUptoCard
end Rows
end Go.Proofs.YtipohfaapiiopaaDoor
