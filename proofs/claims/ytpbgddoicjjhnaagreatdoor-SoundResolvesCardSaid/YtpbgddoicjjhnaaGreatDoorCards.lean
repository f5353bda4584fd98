/-
  DERIVED. GIVEN WITH THE SEED: THE CARDS: each row of YtpbgddoicjjhnaaGreatDoorRows.lean that lists a variable, with what it lists TIED to the program's text (the seventh form; the later family's looks); each row that meets fmt, with fmt's text TOLD by the authors' own Lean function (tested against real Go, not proved from fmt's source: count such statements apart). THE CARD IS WHAT COUNTS. Prove the row's statement (the work); the ties are given (YtpbgddoicjjhnaaGreatDoorTie.lean); close each card by the builder's one call (the guide's Derived/Test/ToyasCard.lean, 'card_holds'). Laid BY PROGRAM, IN A SANDBOX (cutbox-door.mjs). By AI agents, Wed Nov 11 2026. No macro, syntax, notation, axiom, sorry.
-/
import Derived.Test.YtpbgddoicjjhnaaGreatDoorRows
import GoSem.ClaimSeven
namespace Go.Proofs.YtpbgddoicjjhnaaGreatDoor
namespace Rows

/-- THE TIED CARD OF 'analemmalaw13.SoundChecks'. -/
def soundChecksCard : Claim7 := { stood := { row := soundChecksRow, standIns := [], harness := (true, "0d362531f99c14e84bafc2270bcce7ee7e59bb8f68e492bda74bfe6851a513d0"), looks := false }, kinds := [], alts := [], laidByText := true, laidKinds := [.data, .data, .pinned], laidTests := true, laidLooks := .later }
def SoundChecksCardSaid : Prop := Claim7.holds Tryz.pinned (.plain (OpenSpec.ofChange soundChecksSpec)) soundChecksCard

/-- THE TIED CARD OF 'analemmalaw13.SoundResolves'. -/
def soundResolvesCard : Claim7 := { stood := { row := soundResolvesRow, standIns := [], harness := (true, "0d362531f99c14e84bafc2270bcce7ee7e59bb8f68e492bda74bfe6851a513d0"), looks := false }, kinds := [], alts := [], laidByText := true, laidKinds := [.data, .data, .pinned], laidTests := true, laidLooks := .later }
def SoundResolvesCardSaid : Prop := Claim7.holds Tryz.pinned (.plain (OpenSpec.ofChange soundResolvesSpec)) soundResolvesCard

/-- THE TIED CARD OF 'analemmalaw13.SoundNames'. -/
def soundNamesCard : Claim7 := { stood := { row := soundNamesRow, standIns := [], harness := (true, "0d362531f99c14e84bafc2270bcce7ee7e59bb8f68e492bda74bfe6851a513d0"), looks := false }, kinds := [], alts := [], laidByText := true, laidKinds := [.data, .data, .pinned], laidTests := true, laidLooks := .later }
def SoundNamesCardSaid : Prop := Claim7.holds Tryz.pinned (.plain (OpenSpec.ofChange soundNamesSpec)) soundNamesCard

/-- THE TIED CARD OF 'analemmalaw13.SoundParts'. -/
def soundPartsCard : Claim7 := { stood := { row := soundPartsRow, standIns := [], harness := (true, "0d362531f99c14e84bafc2270bcce7ee7e59bb8f68e492bda74bfe6851a513d0"), looks := false }, kinds := [], alts := [], laidByText := true, laidKinds := [.data, .data, .pinned], laidTests := true, laidLooks := .later }
def SoundPartsCardSaid : Prop := Claim7.holds Tryz.pinned (.plain (OpenSpec.ofChange soundPartsSpec)) soundPartsCard

/-- THE SECOND FORM's CARD OF 'analemmalaw13.SoundChecks'. -/
def soundChecksUptoCard : Claim7 := { stood := { row := soundChecksUptoRow, standIns := [], harness := (true, "0d362531f99c14e84bafc2270bcce7ee7e59bb8f68e492bda74bfe6851a513d0"), looks := false }, kinds := [], alts := [], laidByText := true, laidKinds := [.data, .data, .pinned], laidTests := true, laidLooks := .later }
def SoundChecksUptoCardSaid : Prop := Claim7.holds Tryz.pinned (.plain (OpenSpec.upto soundChecksSpec)) soundChecksUptoCard

/-- THE SECOND FORM's CARD OF 'analemmalaw13.SoundResolves'. -/
def soundResolvesUptoCard : Claim7 := { stood := { row := soundResolvesUptoRow, standIns := [], harness := (true, "0d362531f99c14e84bafc2270bcce7ee7e59bb8f68e492bda74bfe6851a513d0"), looks := false }, kinds := [], alts := [], laidByText := true, laidKinds := [.data, .data, .pinned], laidTests := true, laidLooks := .later }
def SoundResolvesUptoCardSaid : Prop := Claim7.holds Tryz.pinned (.plain (OpenSpec.upto soundResolvesSpec)) soundResolvesUptoCard

/-- THE SECOND FORM's CARD OF 'analemmalaw13.SoundNames'. -/
def soundNamesUptoCard : Claim7 := { stood := { row := soundNamesUptoRow, standIns := [], harness := (true, "0d362531f99c14e84bafc2270bcce7ee7e59bb8f68e492bda74bfe6851a513d0"), looks := false }, kinds := [], alts := [], laidByText := true, laidKinds := [.data, .data, .pinned], laidTests := true, laidLooks := .later }
def SoundNamesUptoCardSaid : Prop := Claim7.holds Tryz.pinned (.plain (OpenSpec.upto soundNamesSpec)) soundNamesUptoCard

/-- THE SECOND FORM's CARD OF 'analemmalaw13.SoundParts'. -/
def soundPartsUptoCard : Claim7 := { stood := { row := soundPartsUptoRow, standIns := [], harness := (true, "0d362531f99c14e84bafc2270bcce7ee7e59bb8f68e492bda74bfe6851a513d0"), looks := false }, kinds := [], alts := [], laidByText := true, laidKinds := [.data, .data, .pinned], laidTests := true, laidLooks := .later }
def SoundPartsUptoCardSaid : Prop := Claim7.holds Tryz.pinned (.plain (OpenSpec.upto soundPartsSpec)) soundPartsUptoCard
end Rows
end Go.Proofs.YtpbgddoicjjhnaaGreatDoor
