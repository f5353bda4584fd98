/-
  DERIVED. GIVEN WITH THE SEED: THE CARDS: each row of YtlidicnbmfkghaaGreatDoorRows.lean that lists a variable, with what it lists TIED to the program's text (the seventh form; the later family's looks); each row that meets fmt, with fmt's text TOLD by the authors' own Lean function (tested against real Go, not proved from fmt's source: count such statements apart). THE CARD IS WHAT COUNTS. Prove the row's statement (the work); the ties are given (YtlidicnbmfkghaaGreatDoorTie.lean); close each card by the builder's one call (the guide's Derived/Test/ToyasCard.lean, 'card_holds'). Laid BY PROGRAM, IN A SANDBOX (cutbox-door.mjs). By AI agents, Wed Nov 11 2026. No macro, syntax, notation, axiom, sorry.
-/
import Derived.Test.YtlidicnbmfkghaaGreatDoorRows
import GoSem.ClaimSeven
namespace Go.Proofs.YtlidicnbmfkghaaGreatDoor
namespace Rows

/-- THE TIED CARD OF 'analemmalaw07.PlainRounds'. -/
def plainRoundsCard : Claim7 := { stood := { row := plainRoundsRow, standIns := [], harness := (true, "0ba7419b5ca0cf6277b6ec1aae2f16bd1f93cb14825a93f21186483b985a0ae2"), looks := false }, kinds := [], alts := [], laidByText := true, laidKinds := [.data, .data], laidTests := true, laidLooks := .later }
def PlainRoundsCardSaid : Prop := Claim7.holds Tryz.pinned (.plain (OpenSpec.ofChange plainRoundsSpec)) plainRoundsCard

/-- THE SECOND FORM's CARD OF 'analemmalaw07.PlainRounds'. -/
def plainRoundsUptoCard : Claim7 := { stood := { row := plainRoundsUptoRow, standIns := [], harness := (true, "0ba7419b5ca0cf6277b6ec1aae2f16bd1f93cb14825a93f21186483b985a0ae2"), looks := false }, kinds := [], alts := [], laidByText := true, laidKinds := [.data, .data], laidTests := true, laidLooks := .later }
def PlainRoundsUptoCardSaid : Prop := Claim7.holds Tryz.pinned (.plain (OpenSpec.upto plainRoundsSpec)) plainRoundsUptoCard
end Rows
end Go.Proofs.YtlidicnbmfkghaaGreatDoor
