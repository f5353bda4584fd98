/-
  DERIVED. GIVEN WITH THE SEED: THE CARDS: each row of YteggdabnhdjfcaaDoorRows.lean that lists a variable, with what it lists TIED to the program's text (the seventh form; the later family's looks); each row that meets fmt, with fmt's text TOLD by the authors' own Lean function (tested against real Go, not proved from fmt's source: count such statements apart). THE CARD IS WHAT COUNTS. Prove the row's statement (the work); the ties are given (YteggdabnhdjfcaaDoorTie.lean); close each card by the builder's one call (the guide's Derived/Test/ToyasCard.lean, 'card_holds'). Laid BY PROGRAM, IN A SANDBOX (cutbox-door.mjs). By AI agents, Wed Nov 11 2026. No macro, syntax, notation, axiom, sorry.
-/
import Derived.Test.YteggdabnhdjfcaaDoorRows
import GoSem.ClaimSeven
namespace Go.Proofs.YteggdabnhdjfcaaDoor
namespace Rows

/-- THE TIED CARD OF 'analemmalaw06.ClockCounts'. -/
def clockCountsCard : Claim7 := { stood := { row := clockCountsRow, standIns := [], harness := (true, "d645d014acdded7366b2134f48e28512d329cec02ebfb2c4913d8e305255bb7e"), looks := false }, kinds := [], alts := [], laidByText := true, laidKinds := [.data], laidTests := true, laidLooks := .later }
def ClockCountsCardSaid : Prop := Claim7.holds Tryd.pinned (.plain (OpenSpec.ofChange clockCountsSpec)) clockCountsCard

/-- THE TIED CARD OF 'analemmalaw06.ClockRegulates'. -/
def clockRegulatesCard : Claim7 := { stood := { row := clockRegulatesRow, standIns := [], harness := (true, "d645d014acdded7366b2134f48e28512d329cec02ebfb2c4913d8e305255bb7e"), looks := false }, kinds := [], alts := [], laidByText := true, laidKinds := [.data], laidTests := true, laidLooks := .later }
def ClockRegulatesCardSaid : Prop := Claim7.holds Tryd.pinned (.plain (OpenSpec.ofChange clockRegulatesSpec)) clockRegulatesCard

/-- THE TIED CARD OF 'analemmalaw06.ClockAdds'. -/
def clockAddsCard : Claim7 := { stood := { row := clockAddsRow, standIns := [], harness := (true, "d645d014acdded7366b2134f48e28512d329cec02ebfb2c4913d8e305255bb7e"), looks := false }, kinds := [], alts := [], laidByText := true, laidKinds := [.data], laidTests := true, laidLooks := .later }
def ClockAddsCardSaid : Prop := Claim7.holds Tryd.pinned (.plain (OpenSpec.ofChange clockAddsSpec)) clockAddsCard

/-- THE TIED CARD OF 'analemmalaw06.ClockRounds'. -/
def clockRoundsCard : Claim7 := { stood := { row := clockRoundsRow, standIns := [], harness := (true, "d645d014acdded7366b2134f48e28512d329cec02ebfb2c4913d8e305255bb7e"), looks := false }, kinds := [], alts := [], laidByText := true, laidKinds := [.data], laidTests := true, laidLooks := .later }
def ClockRoundsCardSaid : Prop := Claim7.holds Tryd.pinned (.plain (OpenSpec.ofChange clockRoundsSpec)) clockRoundsCard

/-- THE TIED CARD OF 'analemmalaw06.ClockBack'. -/
def clockBackCard : Claim7 := { stood := { row := clockBackRow, standIns := [], harness := (true, "d645d014acdded7366b2134f48e28512d329cec02ebfb2c4913d8e305255bb7e"), looks := false }, kinds := [], alts := [], laidByText := true, laidKinds := [.data], laidTests := true, laidLooks := .later }
def ClockBackCardSaid : Prop := Claim7.holds Tryd.pinned (.plain (OpenSpec.ofChange clockBackSpec)) clockBackCard

/-- THE TIED CARD OF 'analemmalaw06.ClockOrders'. -/
def clockOrdersCard : Claim7 := { stood := { row := clockOrdersRow, standIns := [], harness := (true, "d645d014acdded7366b2134f48e28512d329cec02ebfb2c4913d8e305255bb7e"), looks := false }, kinds := [], alts := [], laidByText := true, laidKinds := [.data], laidTests := true, laidLooks := .later }
def ClockOrdersCardSaid : Prop := Claim7.holds Tryd.pinned (.plain (OpenSpec.ofChange clockOrdersSpec)) clockOrdersCard

/-- THE SECOND FORM's CARD OF 'analemmalaw06.ClockCounts'. -/
def clockCountsUptoCard : Claim7 := { stood := { row := clockCountsUptoRow, standIns := [], harness := (true, "d645d014acdded7366b2134f48e28512d329cec02ebfb2c4913d8e305255bb7e"), looks := false }, kinds := [], alts := [], laidByText := true, laidKinds := [.data], laidTests := true, laidLooks := .later }
def ClockCountsUptoCardSaid : Prop := Claim7.holds Tryd.pinned (.plain (OpenSpec.upto clockCountsSpec)) clockCountsUptoCard

/-- THE SECOND FORM's CARD OF 'analemmalaw06.ClockRegulates'. -/
def clockRegulatesUptoCard : Claim7 := { stood := { row := clockRegulatesUptoRow, standIns := [], harness := (true, "d645d014acdded7366b2134f48e28512d329cec02ebfb2c4913d8e305255bb7e"), looks := false }, kinds := [], alts := [], laidByText := true, laidKinds := [.data], laidTests := true, laidLooks := .later }
def ClockRegulatesUptoCardSaid : Prop := Claim7.holds Tryd.pinned (.plain (OpenSpec.upto clockRegulatesSpec)) clockRegulatesUptoCard

/-- THE SECOND FORM's CARD OF 'analemmalaw06.ClockAdds'. -/
def clockAddsUptoCard : Claim7 := { stood := { row := clockAddsUptoRow, standIns := [], harness := (true, "d645d014acdded7366b2134f48e28512d329cec02ebfb2c4913d8e305255bb7e"), looks := false }, kinds := [], alts := [], laidByText := true, laidKinds := [.data], laidTests := true, laidLooks := .later }
def ClockAddsUptoCardSaid : Prop := Claim7.holds Tryd.pinned (.plain (OpenSpec.upto clockAddsSpec)) clockAddsUptoCard

/-- THE SECOND FORM's CARD OF 'analemmalaw06.ClockRounds'. -/
def clockRoundsUptoCard : Claim7 := { stood := { row := clockRoundsUptoRow, standIns := [], harness := (true, "d645d014acdded7366b2134f48e28512d329cec02ebfb2c4913d8e305255bb7e"), looks := false }, kinds := [], alts := [], laidByText := true, laidKinds := [.data], laidTests := true, laidLooks := .later }
def ClockRoundsUptoCardSaid : Prop := Claim7.holds Tryd.pinned (.plain (OpenSpec.upto clockRoundsSpec)) clockRoundsUptoCard

/-- THE SECOND FORM's CARD OF 'analemmalaw06.ClockBack'. -/
def clockBackUptoCard : Claim7 := { stood := { row := clockBackUptoRow, standIns := [], harness := (true, "d645d014acdded7366b2134f48e28512d329cec02ebfb2c4913d8e305255bb7e"), looks := false }, kinds := [], alts := [], laidByText := true, laidKinds := [.data], laidTests := true, laidLooks := .later }
def ClockBackUptoCardSaid : Prop := Claim7.holds Tryd.pinned (.plain (OpenSpec.upto clockBackSpec)) clockBackUptoCard

/-- THE SECOND FORM's CARD OF 'analemmalaw06.ClockOrders'. -/
def clockOrdersUptoCard : Claim7 := { stood := { row := clockOrdersUptoRow, standIns := [], harness := (true, "d645d014acdded7366b2134f48e28512d329cec02ebfb2c4913d8e305255bb7e"), looks := false }, kinds := [], alts := [], laidByText := true, laidKinds := [.data], laidTests := true, laidLooks := .later }
def ClockOrdersUptoCardSaid : Prop := Claim7.holds Tryd.pinned (.plain (OpenSpec.upto clockOrdersSpec)) clockOrdersUptoCard
end Rows
end Go.Proofs.YteggdabnhdjfcaaDoor
