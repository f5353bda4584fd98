/-
  NARROWER THAN 'FOR EVERY INPUT', by the rows' own cells (each row's printed sentence says how): PlainCounts: laid · PlainAdds: laid · PlainBetween: laid · PlainOrders: laid · PlainNear: laid.
  DERIVED. THE GIVEN ROWS OF THIS SEAT. 5 by the template 'for every input the law returns true; each argument reads behind the call as it read before'; 0 by the template 'total and deterministic' (their statements: YtlidicnbmfkghaaDoorTotals.lean).
  GIVEN WITH THE SEED: the statements are not yours to turn. If you find one false, say at which input.
  Laid BY PROGRAM, IN A SANDBOX (cutbox-rows.mjs): the forced cells as the released guide's own fill.sh prints them over the translation 33ca9cd1c7b4d0d1… (all of the seat's roots in one cut). By AI agents, Wed Nov 11 2026. No macro, syntax, notation, axiom, sorry.
-/
import Derived.Test.YtlidicnbmfkghaaDoorChecked
import GoSem.Claim
import GoSem.ClaimJoined
import GoSem.ClaimMapViews
import Derived.JoinedTies
import Derived.KernelRfl
namespace Go.Proofs.YtlidicnbmfkghaaDoor
/- THE CELL 'sum', in the pinned program and in every row, IS THE sha256 OF THE DUMP (.gsa) THAT YtlidicnbmfkghaaDoorProg.lean LOADS. Nothing in Lean hashes anything: it is a label: what it is worth is what the hold of that sum in a sandbox is worth. -/
noncomputable def Tryd.pinned : Pinned := { name := "ytlidicnbmfkghaadoor", sum := "33ca9cd1c7b4d0d1e4dcdc07e87b3c5d0b1c6035edab87256bd7302959d38f4d", checked := Tryd.checked }
namespace Rows
def none {H : Type} : Left H := { results := [], args := [] }

/- WHAT THE LISTED PACKAGE-LEVEL VARIABLES READ AS WHEN THE CALL BEGINS. Each datum BY PROGRAM (the guide's laid-datum.mjs) off the statement by which the dump's own 'gosem.cut.vars' lays the variable. In a bare row this is a premise. The card (YtlidicnbmfkghaaDoorCards.lean) ties it to the program's text. -/
def laid_analemma_civil_lengths {H : Type} : DataW H := .agg [.lit (.int .i64 31), .lit (.int .i64 28), .lit (.int .i64 31), .lit (.int .i64 30), .lit (.int .i64 31), .lit (.int .i64 30), .lit (.int .i64 31), .lit (.int .i64 31), .lit (.int .i64 30), .lit (.int .i64 31), .lit (.int .i64 30), .lit (.int .i64 31)]
def laid_analemma_clock_sizes {H : Type} : DataW H := .agg [.lit (.int .i64 24), .lit (.int .i64 60), .lit (.int .i64 60), .lit (.int .i64 1000000000)]

/-- 'analemmalaw07.PlainCounts': WHATEVER THE INPUT: true; the input reads as it did. -/
def plainCountsSpec : ChangeSpec := { name := "plainCounts", fn := fun _ => fun
  | [d1, d2] => { results := [.lit (.bool true)], args := [d1, d2] }
  | _ => none }
def plainCountsRow : OpenClaim := { program := "ytlidicnbmfkghaadoor", sum := "33ca9cd1c7b4d0d1e4dcdc07e87b3c5d0b1c6035edab87256bd7302959d38f4d", func := "analemma/analemmalaw07.PlainCounts", spec := "plainCounts", inPlace := ["math/bits.Add64", "math/bits.Sub64"], unfollowed := true, recurses := true, named := ["analemma/civil.lengths", "analemma/clock.sizes"], apart := false, laid := [("analemma/civil.lengths", laid_analemma_civil_lengths), ("analemma/clock.sizes", laid_analemma_clock_sizes)] }
def PlainCountsSaid : Prop := plainCountsRow.holds Tryd.pinned (OpenSpec.ofChange plainCountsSpec)

/-- ITS FALSE NEIGHBOUR: 'it returns false'. Refute it at one input. -/
def plainCountsWrong : ChangeSpec := { name := "plainCounts", fn := fun _ => fun
  | [d1, d2] => { results := [.lit (.bool false)], args := [d1, d2] }
  | _ => none }
def PlainCountsWrongFalsely : Prop := plainCountsRow.holds Tryd.pinned (OpenSpec.ofChange plainCountsWrong)

/-- 'analemmalaw07.PlainAdds': WHATEVER THE INPUT: true; the input reads as it did. -/
def plainAddsSpec : ChangeSpec := { name := "plainAdds", fn := fun _ => fun
  | [d1, d2] => { results := [.lit (.bool true)], args := [d1, d2] }
  | _ => none }
def plainAddsRow : OpenClaim := { program := "ytlidicnbmfkghaadoor", sum := "33ca9cd1c7b4d0d1e4dcdc07e87b3c5d0b1c6035edab87256bd7302959d38f4d", func := "analemma/analemmalaw07.PlainAdds", spec := "plainAdds", inPlace := ["math/bits.Add64", "math/bits.Sub64"], unfollowed := true, recurses := true, named := ["analemma/civil.lengths", "analemma/clock.sizes"], apart := false, laid := [("analemma/civil.lengths", laid_analemma_civil_lengths), ("analemma/clock.sizes", laid_analemma_clock_sizes)] }
def PlainAddsSaid : Prop := plainAddsRow.holds Tryd.pinned (OpenSpec.ofChange plainAddsSpec)

/-- ITS FALSE NEIGHBOUR: 'it returns false'. Refute it at one input. -/
def plainAddsWrong : ChangeSpec := { name := "plainAdds", fn := fun _ => fun
  | [d1, d2] => { results := [.lit (.bool false)], args := [d1, d2] }
  | _ => none }
def PlainAddsWrongFalsely : Prop := plainAddsRow.holds Tryd.pinned (OpenSpec.ofChange plainAddsWrong)

/-- 'analemmalaw07.PlainBetween': WHATEVER THE INPUT: true; the input reads as it did. -/
def plainBetweenSpec : ChangeSpec := { name := "plainBetween", fn := fun _ => fun
  | [d1, d2] => { results := [.lit (.bool true)], args := [d1, d2] }
  | _ => none }
def plainBetweenRow : OpenClaim := { program := "ytlidicnbmfkghaadoor", sum := "33ca9cd1c7b4d0d1e4dcdc07e87b3c5d0b1c6035edab87256bd7302959d38f4d", func := "analemma/analemmalaw07.PlainBetween", spec := "plainBetween", inPlace := ["math/bits.Add64", "math/bits.Sub64"], unfollowed := true, recurses := true, named := ["analemma/civil.lengths", "analemma/clock.sizes"], apart := false, laid := [("analemma/civil.lengths", laid_analemma_civil_lengths), ("analemma/clock.sizes", laid_analemma_clock_sizes)] }
def PlainBetweenSaid : Prop := plainBetweenRow.holds Tryd.pinned (OpenSpec.ofChange plainBetweenSpec)

/-- ITS FALSE NEIGHBOUR: 'it returns false'. Refute it at one input. -/
def plainBetweenWrong : ChangeSpec := { name := "plainBetween", fn := fun _ => fun
  | [d1, d2] => { results := [.lit (.bool false)], args := [d1, d2] }
  | _ => none }
def PlainBetweenWrongFalsely : Prop := plainBetweenRow.holds Tryd.pinned (OpenSpec.ofChange plainBetweenWrong)

/-- 'analemmalaw07.PlainOrders': WHATEVER THE INPUT: true; the input reads as it did. -/
def plainOrdersSpec : ChangeSpec := { name := "plainOrders", fn := fun _ => fun
  | [d1, d2, d3] => { results := [.lit (.bool true)], args := [d1, d2, d3] }
  | _ => none }
def plainOrdersRow : OpenClaim := { program := "ytlidicnbmfkghaadoor", sum := "33ca9cd1c7b4d0d1e4dcdc07e87b3c5d0b1c6035edab87256bd7302959d38f4d", func := "analemma/analemmalaw07.PlainOrders", spec := "plainOrders", inPlace := ["math/bits.Add64", "math/bits.Sub64"], unfollowed := true, recurses := true, named := ["analemma/civil.lengths", "analemma/clock.sizes"], apart := false, laid := [("analemma/civil.lengths", laid_analemma_civil_lengths), ("analemma/clock.sizes", laid_analemma_clock_sizes)] }
def PlainOrdersSaid : Prop := plainOrdersRow.holds Tryd.pinned (OpenSpec.ofChange plainOrdersSpec)

/-- ITS FALSE NEIGHBOUR: 'it returns false'. Refute it at one input. -/
def plainOrdersWrong : ChangeSpec := { name := "plainOrders", fn := fun _ => fun
  | [d1, d2, d3] => { results := [.lit (.bool false)], args := [d1, d2, d3] }
  | _ => none }
def PlainOrdersWrongFalsely : Prop := plainOrdersRow.holds Tryd.pinned (OpenSpec.ofChange plainOrdersWrong)

/-- 'analemmalaw07.PlainNear': WHATEVER THE INPUT: true; the input reads as it did. -/
def plainNearSpec : ChangeSpec := { name := "plainNear", fn := fun _ => fun
  | [d1, d2, d3] => { results := [.lit (.bool true)], args := [d1, d2, d3] }
  | _ => none }
def plainNearRow : OpenClaim := { program := "ytlidicnbmfkghaadoor", sum := "33ca9cd1c7b4d0d1e4dcdc07e87b3c5d0b1c6035edab87256bd7302959d38f4d", func := "analemma/analemmalaw07.PlainNear", spec := "plainNear", inPlace := ["math/bits.Add64", "math/bits.Sub64"], unfollowed := true, recurses := true, named := ["analemma/civil.lengths", "analemma/clock.sizes"], apart := false, laid := [("analemma/civil.lengths", laid_analemma_civil_lengths), ("analemma/clock.sizes", laid_analemma_clock_sizes)] }
def PlainNearSaid : Prop := plainNearRow.holds Tryd.pinned (OpenSpec.ofChange plainNearSpec)

/-- ITS FALSE NEIGHBOUR: 'it returns false'. Refute it at one input. -/
def plainNearWrong : ChangeSpec := { name := "plainNear", fn := fun _ => fun
  | [d1, d2, d3] => { results := [.lit (.bool false)], args := [d1, d2, d3] }
  | _ => none }
def PlainNearWrongFalsely : Prop := plainNearRow.holds Tryd.pinned (OpenSpec.ofChange plainNearWrong)

/- THE SECOND FORM. 'bulk': how many values and letters a reading holds, each counted each time it is reached (what is shared counts as often as it is met; a slice's spare places count too). A statement '..UptoSaid' is the law's where the arguments, and the package variables that the reading takes, are together of bulk at most 1048576: NARROWER than '..Said'. Prove '..Said' where nothing that the law and all that it calls make is longer than what came in: it says more and counts as full. Else prove '..UptoSaid'. A law counts once. -/
mutual
def uptoBulk {H : Type} : DataW H → Nat
  | .lit (.string bytes) => bytes.length + 1
  | .lit _ => 1
  | .nil => 1
  | .ptr d => uptoBulk d + 1
  | .slice elems spare => uptoBulkAll elems + uptoBulkAll spare + 1
  | .agg parts => uptoBulkAll parts + 1
  | .iface _ d => uptoBulk d + 1
  | .map entries => uptoBulkEntries entries + 1
  | .held _ => 1
def uptoBulkAll {H : Type} : List (DataW H) → Nat
  | [] => 0
  | d :: r => uptoBulk d + uptoBulkAll r
def uptoBulkEntries {H : Type} : List (Lit × DataW H) → Nat
  | [] => 0
  | x :: r => uptoBulkEntry x + uptoBulkEntries r
def uptoBulkEntry {H : Type} : Lit × DataW H → Nat
  | (.string bytes, d) => bytes.length + uptoBulk d + 1
  | (_, d) => uptoBulk d + 1
 end
def uptoSmall : (H : Type) → List (DataW H) → Bool := fun _ ds => decide (uptoBulkAll ds ≤ 1048576)
def OpenSpec.upto (s : _root_.Go.ChangeSpec) : _root_.Go.OpenSpec := { _root_.Go.OpenSpec.ofChange s with cond := some uptoSmall }

/-- 'analemmalaw07.PlainCounts', WHERE WHAT IT READS IS OF BULK AT MOST 1048576: true; the input reads as it did. -/
def plainCountsUptoRow : OpenClaim := { program := "ytlidicnbmfkghaadoor", sum := "33ca9cd1c7b4d0d1e4dcdc07e87b3c5d0b1c6035edab87256bd7302959d38f4d", func := "analemma/analemmalaw07.PlainCounts", spec := "plainCounts", inPlace := ["math/bits.Add64", "math/bits.Sub64"], unfollowed := true, recurses := true, named := ["analemma/civil.lengths", "analemma/clock.sizes"], apart := false, laid := [("analemma/civil.lengths", laid_analemma_civil_lengths), ("analemma/clock.sizes", laid_analemma_clock_sizes)], narrowed := true }
def PlainCountsUptoSaid : Prop := plainCountsUptoRow.holds Tryd.pinned (OpenSpec.upto plainCountsSpec)

/-- 'analemmalaw07.PlainAdds', WHERE WHAT IT READS IS OF BULK AT MOST 1048576: true; the input reads as it did. -/
def plainAddsUptoRow : OpenClaim := { program := "ytlidicnbmfkghaadoor", sum := "33ca9cd1c7b4d0d1e4dcdc07e87b3c5d0b1c6035edab87256bd7302959d38f4d", func := "analemma/analemmalaw07.PlainAdds", spec := "plainAdds", inPlace := ["math/bits.Add64", "math/bits.Sub64"], unfollowed := true, recurses := true, named := ["analemma/civil.lengths", "analemma/clock.sizes"], apart := false, laid := [("analemma/civil.lengths", laid_analemma_civil_lengths), ("analemma/clock.sizes", laid_analemma_clock_sizes)], narrowed := true }
def PlainAddsUptoSaid : Prop := plainAddsUptoRow.holds Tryd.pinned (OpenSpec.upto plainAddsSpec)

/-- 'analemmalaw07.PlainBetween', WHERE WHAT IT READS IS OF BULK AT MOST 1048576: true; the input reads as it did. -/
def plainBetweenUptoRow : OpenClaim := { program := "ytlidicnbmfkghaadoor", sum := "33ca9cd1c7b4d0d1e4dcdc07e87b3c5d0b1c6035edab87256bd7302959d38f4d", func := "analemma/analemmalaw07.PlainBetween", spec := "plainBetween", inPlace := ["math/bits.Add64", "math/bits.Sub64"], unfollowed := true, recurses := true, named := ["analemma/civil.lengths", "analemma/clock.sizes"], apart := false, laid := [("analemma/civil.lengths", laid_analemma_civil_lengths), ("analemma/clock.sizes", laid_analemma_clock_sizes)], narrowed := true }
def PlainBetweenUptoSaid : Prop := plainBetweenUptoRow.holds Tryd.pinned (OpenSpec.upto plainBetweenSpec)

/-- 'analemmalaw07.PlainOrders', WHERE WHAT IT READS IS OF BULK AT MOST 1048576: true; the input reads as it did. -/
def plainOrdersUptoRow : OpenClaim := { program := "ytlidicnbmfkghaadoor", sum := "33ca9cd1c7b4d0d1e4dcdc07e87b3c5d0b1c6035edab87256bd7302959d38f4d", func := "analemma/analemmalaw07.PlainOrders", spec := "plainOrders", inPlace := ["math/bits.Add64", "math/bits.Sub64"], unfollowed := true, recurses := true, named := ["analemma/civil.lengths", "analemma/clock.sizes"], apart := false, laid := [("analemma/civil.lengths", laid_analemma_civil_lengths), ("analemma/clock.sizes", laid_analemma_clock_sizes)], narrowed := true }
def PlainOrdersUptoSaid : Prop := plainOrdersUptoRow.holds Tryd.pinned (OpenSpec.upto plainOrdersSpec)

/-- 'analemmalaw07.PlainNear', WHERE WHAT IT READS IS OF BULK AT MOST 1048576: true; the input reads as it did. -/
def plainNearUptoRow : OpenClaim := { program := "ytlidicnbmfkghaadoor", sum := "33ca9cd1c7b4d0d1e4dcdc07e87b3c5d0b1c6035edab87256bd7302959d38f4d", func := "analemma/analemmalaw07.PlainNear", spec := "plainNear", inPlace := ["math/bits.Add64", "math/bits.Sub64"], unfollowed := true, recurses := true, named := ["analemma/civil.lengths", "analemma/clock.sizes"], apart := false, laid := [("analemma/civil.lengths", laid_analemma_civil_lengths), ("analemma/clock.sizes", laid_analemma_clock_sizes)], narrowed := true }
def PlainNearUptoSaid : Prop := plainNearUptoRow.holds Tryd.pinned (OpenSpec.upto plainNearSpec)

end Rows
end Go.Proofs.YtlidicnbmfkghaaDoor
