/-
  DERIVED. GIVEN WITH THE SEED: THE CARDS: each row of YtmhpnmlgfdomkaaGreatDoorRows.lean that lists a variable, with what it lists TIED to the program's text (the seventh form; the later family's looks); each row that meets fmt, with fmt's text TOLD by the authors' own Lean function (tested against real Go, not proved from fmt's source: count such statements apart). THE CARD IS WHAT COUNTS. Prove the row's statement (the work); the ties are given (YtmhpnmlgfdomkaaGreatDoorTie.lean); close each card by the builder's one call (the guide's Derived/Test/ToyasCard.lean, 'card_holds'). Laid BY PROGRAM, IN A SANDBOX (cutbox-door.mjs). By AI agents, Wed Nov 11 2026. No macro, syntax, notation, axiom, sorry.
-/
import Derived.Test.YtmhpnmlgfdomkaaGreatDoorRows
import GoSem.ClaimSeven
namespace Go.Proofs.YtmhpnmlgfdomkaaGreatDoor
namespace Rows

/-- THE TIED CARD OF 'analemmalaw13.SoundChecks'. -/
def soundChecksCard : Claim7 := { stood := { row := soundChecksRow, standIns := [], harness := (true, "f3ada5aed719b36f3c642ec020a1f6a51a2f6212e3b49da9a68a6dfae37920f3"), looks := false }, kinds := [], alts := [], laidByText := true, laidKinds := [.data, .data, .pinned], laidTests := true, laidLooks := .later }
def SoundChecksCardSaid : Prop := Claim7.holds Tryz.pinned (.plain (OpenSpec.ofChange soundChecksSpec)) soundChecksCard

/-- THE SECOND FORM's CARD OF 'analemmalaw13.SoundChecks'. -/
def soundChecksUptoCard : Claim7 := { stood := { row := soundChecksUptoRow, standIns := [], harness := (true, "f3ada5aed719b36f3c642ec020a1f6a51a2f6212e3b49da9a68a6dfae37920f3"), looks := false }, kinds := [], alts := [], laidByText := true, laidKinds := [.data, .data, .pinned], laidTests := true, laidLooks := .later }
def SoundChecksUptoCardSaid : Prop := Claim7.holds Tryz.pinned (.plain (OpenSpec.upto soundChecksSpec)) soundChecksUptoCard
end Rows
end Go.Proofs.YtmhpnmlgfdomkaaGreatDoor
