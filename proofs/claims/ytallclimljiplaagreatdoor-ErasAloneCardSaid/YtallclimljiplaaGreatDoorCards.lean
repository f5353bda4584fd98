/-
  DERIVED. GIVEN WITH THE SEED: THE CARDS: each row of YtallclimljiplaaGreatDoorRows.lean that lists a variable, with what it lists TIED to the program's text (the seventh form; the later family's looks); each row that meets fmt, with fmt's text TOLD by the authors' own Lean function (tested against real Go, not proved from fmt's source: count such statements apart). THE CARD IS WHAT COUNTS. Prove the row's statement (the work); the ties are given (YtallclimljiplaaGreatDoorTie.lean); close each card by the builder's one call (the guide's Derived/Test/ToyasCard.lean, 'card_holds'). Laid BY PROGRAM, IN A SANDBOX (cutbox-door.mjs). By AI agents, Wed Nov 11 2026. No macro, syntax, notation, axiom, sorry.
-/
import Derived.Test.YtallclimljiplaaGreatDoorRows
import GoSem.ClaimSeven
namespace Go.Proofs.YtallclimljiplaaGreatDoor
namespace Rows

/-- THE TIED CARD OF 'analemmalaw12.ErasAbbrs'. -/
def erasAbbrsCard : Claim7 := { stood := { row := erasAbbrsRow, standIns := [], harness := (true, "2cb2d9ba7213ad23e30e97d162e0058abe25b39597c2f9ea9c9912475a4183a3"), looks := false }, kinds := [], alts := [], laidByText := true, laidKinds := [.data, .data, .data, .data, .data, .pinned], laidTests := true, laidLooks := .later }
def ErasAbbrsCardSaid : Prop := Claim7.holds Tryz.pinned (.plain (OpenSpec.ofChange erasAbbrsSpec)) erasAbbrsCard

/-- THE TIED CARD OF 'analemmalaw12.ErasEnds'. -/
def erasEndsCard : Claim7 := { stood := { row := erasEndsRow, standIns := [], harness := (true, "2cb2d9ba7213ad23e30e97d162e0058abe25b39597c2f9ea9c9912475a4183a3"), looks := false }, kinds := [], alts := [], laidByText := true, laidKinds := [.data, .data, .data, .data, .data, .pinned], laidTests := true, laidLooks := .later }
def ErasEndsCardSaid : Prop := Claim7.holds Tryz.pinned (.plain (OpenSpec.ofChange erasEndsSpec)) erasEndsCard

/-- THE TIED CARD OF 'analemmalaw12.ErasPhases'. -/
def erasPhasesCard : Claim7 := { stood := { row := erasPhasesRow, standIns := [], harness := (true, "2cb2d9ba7213ad23e30e97d162e0058abe25b39597c2f9ea9c9912475a4183a3"), looks := false }, kinds := [], alts := [], laidByText := true, laidKinds := [.data, .data, .data, .data, .data, .pinned], laidTests := true, laidLooks := .later }
def ErasPhasesCardSaid : Prop := Claim7.holds Tryz.pinned (.plain (OpenSpec.ofChange erasPhasesSpec)) erasPhasesCard

/-- THE TIED CARD OF 'analemmalaw12.ErasTell'. -/
def erasTellCard : Claim7 := { stood := { row := erasTellRow, standIns := [], harness := (true, "2cb2d9ba7213ad23e30e97d162e0058abe25b39597c2f9ea9c9912475a4183a3"), looks := false }, kinds := [], alts := [], laidByText := true, laidKinds := [.data, .data, .data, .data, .data, .pinned], laidTests := true, laidLooks := .later }
def ErasTellCardSaid : Prop := Claim7.holds Tryz.pinned (.plain (OpenSpec.ofChange erasTellSpec)) erasTellCard

/-- THE TIED CARD OF 'analemmalaw12.ErasAlone'. -/
def erasAloneCard : Claim7 := { stood := { row := erasAloneRow, standIns := [], harness := (true, "2cb2d9ba7213ad23e30e97d162e0058abe25b39597c2f9ea9c9912475a4183a3"), looks := false }, kinds := [], alts := [], laidByText := true, laidKinds := [.data, .data, .data, .data, .data, .pinned], laidTests := true, laidLooks := .later }
def ErasAloneCardSaid : Prop := Claim7.holds Tryz.pinned (.plain (OpenSpec.ofChange erasAloneSpec)) erasAloneCard

/-- THE TIED CARD OF 'analemmalaw12.ErasHold'. -/
def erasHoldCard : Claim7 := { stood := { row := erasHoldRow, standIns := [], harness := (true, "2cb2d9ba7213ad23e30e97d162e0058abe25b39597c2f9ea9c9912475a4183a3"), looks := false }, kinds := [], alts := [], laidByText := true, laidKinds := [.data, .data, .data, .data, .data, .pinned], laidTests := true, laidLooks := .later }
def ErasHoldCardSaid : Prop := Claim7.holds Tryz.pinned (.plain (OpenSpec.ofChange erasHoldSpec)) erasHoldCard

/-- THE SECOND FORM's CARD OF 'analemmalaw12.ErasAbbrs'. -/
def erasAbbrsUptoCard : Claim7 := { stood := { row := erasAbbrsUptoRow, standIns := [], harness := (true, "2cb2d9ba7213ad23e30e97d162e0058abe25b39597c2f9ea9c9912475a4183a3"), looks := false }, kinds := [], alts := [], laidByText := true, laidKinds := [.data, .data, .data, .data, .data, .pinned], laidTests := true, laidLooks := .later }
def ErasAbbrsUptoCardSaid : Prop := Claim7.holds Tryz.pinned (.plain (OpenSpec.upto erasAbbrsSpec)) erasAbbrsUptoCard

/-- THE SECOND FORM's CARD OF 'analemmalaw12.ErasEnds'. -/
def erasEndsUptoCard : Claim7 := { stood := { row := erasEndsUptoRow, standIns := [], harness := (true, "2cb2d9ba7213ad23e30e97d162e0058abe25b39597c2f9ea9c9912475a4183a3"), looks := false }, kinds := [], alts := [], laidByText := true, laidKinds := [.data, .data, .data, .data, .data, .pinned], laidTests := true, laidLooks := .later }
def ErasEndsUptoCardSaid : Prop := Claim7.holds Tryz.pinned (.plain (OpenSpec.upto erasEndsSpec)) erasEndsUptoCard

/-- THE SECOND FORM's CARD OF 'analemmalaw12.ErasPhases'. -/
def erasPhasesUptoCard : Claim7 := { stood := { row := erasPhasesUptoRow, standIns := [], harness := (true, "2cb2d9ba7213ad23e30e97d162e0058abe25b39597c2f9ea9c9912475a4183a3"), looks := false }, kinds := [], alts := [], laidByText := true, laidKinds := [.data, .data, .data, .data, .data, .pinned], laidTests := true, laidLooks := .later }
def ErasPhasesUptoCardSaid : Prop := Claim7.holds Tryz.pinned (.plain (OpenSpec.upto erasPhasesSpec)) erasPhasesUptoCard

/-- THE SECOND FORM's CARD OF 'analemmalaw12.ErasTell'. -/
def erasTellUptoCard : Claim7 := { stood := { row := erasTellUptoRow, standIns := [], harness := (true, "2cb2d9ba7213ad23e30e97d162e0058abe25b39597c2f9ea9c9912475a4183a3"), looks := false }, kinds := [], alts := [], laidByText := true, laidKinds := [.data, .data, .data, .data, .data, .pinned], laidTests := true, laidLooks := .later }
def ErasTellUptoCardSaid : Prop := Claim7.holds Tryz.pinned (.plain (OpenSpec.upto erasTellSpec)) erasTellUptoCard

/-- THE SECOND FORM's CARD OF 'analemmalaw12.ErasAlone'. -/
def erasAloneUptoCard : Claim7 := { stood := { row := erasAloneUptoRow, standIns := [], harness := (true, "2cb2d9ba7213ad23e30e97d162e0058abe25b39597c2f9ea9c9912475a4183a3"), looks := false }, kinds := [], alts := [], laidByText := true, laidKinds := [.data, .data, .data, .data, .data, .pinned], laidTests := true, laidLooks := .later }
def ErasAloneUptoCardSaid : Prop := Claim7.holds Tryz.pinned (.plain (OpenSpec.upto erasAloneSpec)) erasAloneUptoCard

/-- THE SECOND FORM's CARD OF 'analemmalaw12.ErasHold'. -/
def erasHoldUptoCard : Claim7 := { stood := { row := erasHoldUptoRow, standIns := [], harness := (true, "2cb2d9ba7213ad23e30e97d162e0058abe25b39597c2f9ea9c9912475a4183a3"), looks := false }, kinds := [], alts := [], laidByText := true, laidKinds := [.data, .data, .data, .data, .data, .pinned], laidTests := true, laidLooks := .later }
def ErasHoldUptoCardSaid : Prop := Claim7.holds Tryz.pinned (.plain (OpenSpec.upto erasHoldSpec)) erasHoldUptoCard
end Rows
end Go.Proofs.YtallclimljiplaaGreatDoor
