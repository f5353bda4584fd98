/-
  DERIVED. GIVEN WITH THE SEED: THE CARDS: each row of YtlidicnbmfkghaaDoorRows.lean that lists a variable, with what it lists TIED to the program's text (the seventh form; the later family's looks); each row that meets fmt, with fmt's text TOLD by the authors' own Lean function (tested against real Go, not proved from fmt's source: count such statements apart). THE CARD IS WHAT COUNTS. Prove the row's statement (the work); the ties are given (YtlidicnbmfkghaaDoorTie.lean); close each card by the builder's one call (the guide's Derived/Test/ToyasCard.lean, 'card_holds'). Laid BY PROGRAM, IN A SANDBOX (cutbox-door.mjs). By AI agents, Wed Nov 11 2026. No macro, syntax, notation, axiom, sorry.
-/
import Derived.Test.YtlidicnbmfkghaaDoorRows
import GoSem.ClaimSeven
namespace Go.Proofs.YtlidicnbmfkghaaDoor
namespace Rows

/-- THE TIED CARD OF 'analemmalaw07.PlainCounts'. -/
def plainCountsCard : Claim7 := { stood := { row := plainCountsRow, standIns := [], harness := (true, "83705989020b686515081f73d431200c2a0d6e0aba7ba5b47464a661e4ed103e"), looks := false }, kinds := [], alts := [], laidByText := true, laidKinds := [.data, .data], laidTests := true, laidLooks := .later }
def PlainCountsCardSaid : Prop := Claim7.holds Tryd.pinned (.plain (OpenSpec.ofChange plainCountsSpec)) plainCountsCard

/-- THE TIED CARD OF 'analemmalaw07.PlainAdds'. -/
def plainAddsCard : Claim7 := { stood := { row := plainAddsRow, standIns := [], harness := (true, "83705989020b686515081f73d431200c2a0d6e0aba7ba5b47464a661e4ed103e"), looks := false }, kinds := [], alts := [], laidByText := true, laidKinds := [.data, .data], laidTests := true, laidLooks := .later }
def PlainAddsCardSaid : Prop := Claim7.holds Tryd.pinned (.plain (OpenSpec.ofChange plainAddsSpec)) plainAddsCard

/-- THE TIED CARD OF 'analemmalaw07.PlainBetween'. -/
def plainBetweenCard : Claim7 := { stood := { row := plainBetweenRow, standIns := [], harness := (true, "83705989020b686515081f73d431200c2a0d6e0aba7ba5b47464a661e4ed103e"), looks := false }, kinds := [], alts := [], laidByText := true, laidKinds := [.data, .data], laidTests := true, laidLooks := .later }
def PlainBetweenCardSaid : Prop := Claim7.holds Tryd.pinned (.plain (OpenSpec.ofChange plainBetweenSpec)) plainBetweenCard

/-- THE TIED CARD OF 'analemmalaw07.PlainOrders'. -/
def plainOrdersCard : Claim7 := { stood := { row := plainOrdersRow, standIns := [], harness := (true, "83705989020b686515081f73d431200c2a0d6e0aba7ba5b47464a661e4ed103e"), looks := false }, kinds := [], alts := [], laidByText := true, laidKinds := [.data, .data], laidTests := true, laidLooks := .later }
def PlainOrdersCardSaid : Prop := Claim7.holds Tryd.pinned (.plain (OpenSpec.ofChange plainOrdersSpec)) plainOrdersCard

/-- THE TIED CARD OF 'analemmalaw07.PlainNear'. -/
def plainNearCard : Claim7 := { stood := { row := plainNearRow, standIns := [], harness := (true, "83705989020b686515081f73d431200c2a0d6e0aba7ba5b47464a661e4ed103e"), looks := false }, kinds := [], alts := [], laidByText := true, laidKinds := [.data, .data], laidTests := true, laidLooks := .later }
def PlainNearCardSaid : Prop := Claim7.holds Tryd.pinned (.plain (OpenSpec.ofChange plainNearSpec)) plainNearCard

/-- THE SECOND FORM's CARD OF 'analemmalaw07.PlainCounts'. -/
def plainCountsUptoCard : Claim7 := { stood := { row := plainCountsUptoRow, standIns := [], harness := (true, "83705989020b686515081f73d431200c2a0d6e0aba7ba5b47464a661e4ed103e"), looks := false }, kinds := [], alts := [], laidByText := true, laidKinds := [.data, .data], laidTests := true, laidLooks := .later }
def PlainCountsUptoCardSaid : Prop := Claim7.holds Tryd.pinned (.plain (OpenSpec.upto plainCountsSpec)) plainCountsUptoCard

/-- THE SECOND FORM's CARD OF 'analemmalaw07.PlainAdds'. -/
def plainAddsUptoCard : Claim7 := { stood := { row := plainAddsUptoRow, standIns := [], harness := (true, "83705989020b686515081f73d431200c2a0d6e0aba7ba5b47464a661e4ed103e"), looks := false }, kinds := [], alts := [], laidByText := true, laidKinds := [.data, .data], laidTests := true, laidLooks := .later }
def PlainAddsUptoCardSaid : Prop := Claim7.holds Tryd.pinned (.plain (OpenSpec.upto plainAddsSpec)) plainAddsUptoCard

/-- THE SECOND FORM's CARD OF 'analemmalaw07.PlainBetween'. -/
def plainBetweenUptoCard : Claim7 := { stood := { row := plainBetweenUptoRow, standIns := [], harness := (true, "83705989020b686515081f73d431200c2a0d6e0aba7ba5b47464a661e4ed103e"), looks := false }, kinds := [], alts := [], laidByText := true, laidKinds := [.data, .data], laidTests := true, laidLooks := .later }
def PlainBetweenUptoCardSaid : Prop := Claim7.holds Tryd.pinned (.plain (OpenSpec.upto plainBetweenSpec)) plainBetweenUptoCard

/-- THE SECOND FORM's CARD OF 'analemmalaw07.PlainOrders'. -/
def plainOrdersUptoCard : Claim7 := { stood := { row := plainOrdersUptoRow, standIns := [], harness := (true, "83705989020b686515081f73d431200c2a0d6e0aba7ba5b47464a661e4ed103e"), looks := false }, kinds := [], alts := [], laidByText := true, laidKinds := [.data, .data], laidTests := true, laidLooks := .later }
def PlainOrdersUptoCardSaid : Prop := Claim7.holds Tryd.pinned (.plain (OpenSpec.upto plainOrdersSpec)) plainOrdersUptoCard

/-- THE SECOND FORM's CARD OF 'analemmalaw07.PlainNear'. -/
def plainNearUptoCard : Claim7 := { stood := { row := plainNearUptoRow, standIns := [], harness := (true, "83705989020b686515081f73d431200c2a0d6e0aba7ba5b47464a661e4ed103e"), looks := false }, kinds := [], alts := [], laidByText := true, laidKinds := [.data, .data], laidTests := true, laidLooks := .later }
def PlainNearUptoCardSaid : Prop := Claim7.holds Tryd.pinned (.plain (OpenSpec.upto plainNearSpec)) plainNearUptoCard
end Rows
end Go.Proofs.YtlidicnbmfkghaaDoor
