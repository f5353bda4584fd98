/-
  DERIVED. GIVEN WITH THE SEED: THE CARDS: each row of YtkkdclibbdeejaaDoorRows.lean that lists a variable, with what it lists TIED to the program's text (the seventh form; the later family's looks); each row that meets fmt, with fmt's text TOLD by the authors' own Lean function (tested against real Go, not proved from fmt's source: count such statements apart). THE CARD IS WHAT COUNTS. Prove the row's statement (the work); the ties are given (YtkkdclibbdeejaaDoorTie.lean); close each card by the builder's one call (the guide's Derived/Test/ToyasCard.lean, 'card_holds'). Laid BY PROGRAM, IN A SANDBOX (cutbox-door.mjs). By AI agents, Wed Nov 11 2026. No macro, syntax, notation, axiom, sorry.
-/
import Derived.Test.YtkkdclibbdeejaaDoorRows
import GoSem.ClaimSeven
namespace Go.Proofs.YtkkdclibbdeejaaDoor
namespace Rows

/-- THE TIED CARD OF 'analemmalaw11.RulesTurns'. -/
def rulesTurnsCard : Claim7 := { stood := { row := rulesTurnsRow, standIns := [], harness := (true, "321cf337418e6d0401e79dbf8095bb738e88a06cc2e48a0b7aa7a351cba0e366"), looks := false }, kinds := [], alts := [], laidByText := true, laidKinds := [.data], laidTests := true, laidLooks := .later }
def RulesTurnsCardSaid : Prop := Claim7.holds Tryd.pinned (.plain (OpenSpec.ofChange rulesTurnsSpec)) rulesTurnsCard

/-- THE TIED CARD OF 'analemmalaw11.RulesNear'. -/
def rulesNearCard : Claim7 := { stood := { row := rulesNearRow, standIns := [], harness := (true, "321cf337418e6d0401e79dbf8095bb738e88a06cc2e48a0b7aa7a351cba0e366"), looks := false }, kinds := [], alts := [], laidByText := true, laidKinds := [.data], laidTests := true, laidLooks := .later }
def RulesNearCardSaid : Prop := Claim7.holds Tryd.pinned (.plain (OpenSpec.ofChange rulesNearSpec)) rulesNearCard

/-- THE TIED CARD OF 'analemmalaw11.RulesAhead'. -/
def rulesAheadCard : Claim7 := { stood := { row := rulesAheadRow, standIns := [], harness := (true, "321cf337418e6d0401e79dbf8095bb738e88a06cc2e48a0b7aa7a351cba0e366"), looks := false }, kinds := [], alts := [], laidByText := true, laidKinds := [.data], laidTests := true, laidLooks := .later }
def RulesAheadCardSaid : Prop := Claim7.holds Tryd.pinned (.plain (OpenSpec.ofChange rulesAheadSpec)) rulesAheadCard

/-- THE TIED CARD OF 'analemmalaw11.RulesForce'. -/
def rulesForceCard : Claim7 := { stood := { row := rulesForceRow, standIns := [], harness := (true, "321cf337418e6d0401e79dbf8095bb738e88a06cc2e48a0b7aa7a351cba0e366"), looks := false }, kinds := [], alts := [], laidByText := true, laidKinds := [.data], laidTests := true, laidLooks := .later }
def RulesForceCardSaid : Prop := Claim7.holds Tryd.pinned (.plain (OpenSpec.ofChange rulesForceSpec)) rulesForceCard

/-- THE TIED CARD OF 'analemmalaw11.RulesSteps'. -/
def rulesStepsCard : Claim7 := { stood := { row := rulesStepsRow, standIns := [], harness := (true, "321cf337418e6d0401e79dbf8095bb738e88a06cc2e48a0b7aa7a351cba0e366"), looks := false }, kinds := [], alts := [], laidByText := true, laidKinds := [.data], laidTests := true, laidLooks := .later }
def RulesStepsCardSaid : Prop := Claim7.holds Tryd.pinned (.plain (OpenSpec.ofChange rulesStepsSpec)) rulesStepsCard

/-- THE TIED CARD OF 'analemmalaw11.RulesTells'. -/
def rulesTellsCard : Claim7 := { stood := { row := rulesTellsRow, standIns := [], harness := (true, "321cf337418e6d0401e79dbf8095bb738e88a06cc2e48a0b7aa7a351cba0e366"), looks := false }, kinds := [], alts := [], laidByText := true, laidKinds := [.data], laidTests := true, laidLooks := .later }
def RulesTellsCardSaid : Prop := Claim7.holds Tryd.pinned (.plain (OpenSpec.ofChange rulesTellsSpec)) rulesTellsCard

/-- THE SECOND FORM's CARD OF 'analemmalaw11.RulesTurns'. -/
def rulesTurnsUptoCard : Claim7 := { stood := { row := rulesTurnsUptoRow, standIns := [], harness := (true, "321cf337418e6d0401e79dbf8095bb738e88a06cc2e48a0b7aa7a351cba0e366"), looks := false }, kinds := [], alts := [], laidByText := true, laidKinds := [.data], laidTests := true, laidLooks := .later }
def RulesTurnsUptoCardSaid : Prop := Claim7.holds Tryd.pinned (.plain (OpenSpec.upto rulesTurnsSpec)) rulesTurnsUptoCard

/-- THE SECOND FORM's CARD OF 'analemmalaw11.RulesNear'. -/
def rulesNearUptoCard : Claim7 := { stood := { row := rulesNearUptoRow, standIns := [], harness := (true, "321cf337418e6d0401e79dbf8095bb738e88a06cc2e48a0b7aa7a351cba0e366"), looks := false }, kinds := [], alts := [], laidByText := true, laidKinds := [.data], laidTests := true, laidLooks := .later }
def RulesNearUptoCardSaid : Prop := Claim7.holds Tryd.pinned (.plain (OpenSpec.upto rulesNearSpec)) rulesNearUptoCard

/-- THE SECOND FORM's CARD OF 'analemmalaw11.RulesAhead'. -/
def rulesAheadUptoCard : Claim7 := { stood := { row := rulesAheadUptoRow, standIns := [], harness := (true, "321cf337418e6d0401e79dbf8095bb738e88a06cc2e48a0b7aa7a351cba0e366"), looks := false }, kinds := [], alts := [], laidByText := true, laidKinds := [.data], laidTests := true, laidLooks := .later }
def RulesAheadUptoCardSaid : Prop := Claim7.holds Tryd.pinned (.plain (OpenSpec.upto rulesAheadSpec)) rulesAheadUptoCard

/-- THE SECOND FORM's CARD OF 'analemmalaw11.RulesForce'. -/
def rulesForceUptoCard : Claim7 := { stood := { row := rulesForceUptoRow, standIns := [], harness := (true, "321cf337418e6d0401e79dbf8095bb738e88a06cc2e48a0b7aa7a351cba0e366"), looks := false }, kinds := [], alts := [], laidByText := true, laidKinds := [.data], laidTests := true, laidLooks := .later }
def RulesForceUptoCardSaid : Prop := Claim7.holds Tryd.pinned (.plain (OpenSpec.upto rulesForceSpec)) rulesForceUptoCard

/-- THE SECOND FORM's CARD OF 'analemmalaw11.RulesSteps'. -/
def rulesStepsUptoCard : Claim7 := { stood := { row := rulesStepsUptoRow, standIns := [], harness := (true, "321cf337418e6d0401e79dbf8095bb738e88a06cc2e48a0b7aa7a351cba0e366"), looks := false }, kinds := [], alts := [], laidByText := true, laidKinds := [.data], laidTests := true, laidLooks := .later }
def RulesStepsUptoCardSaid : Prop := Claim7.holds Tryd.pinned (.plain (OpenSpec.upto rulesStepsSpec)) rulesStepsUptoCard

/-- THE SECOND FORM's CARD OF 'analemmalaw11.RulesTells'. -/
def rulesTellsUptoCard : Claim7 := { stood := { row := rulesTellsUptoRow, standIns := [], harness := (true, "321cf337418e6d0401e79dbf8095bb738e88a06cc2e48a0b7aa7a351cba0e366"), looks := false }, kinds := [], alts := [], laidByText := true, laidKinds := [.data], laidTests := true, laidLooks := .later }
def RulesTellsUptoCardSaid : Prop := Claim7.holds Tryd.pinned (.plain (OpenSpec.upto rulesTellsSpec)) rulesTellsUptoCard
end Rows
end Go.Proofs.YtkkdclibbdeejaaDoor
