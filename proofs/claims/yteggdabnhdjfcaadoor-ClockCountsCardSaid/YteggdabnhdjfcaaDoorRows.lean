/-
  NARROWER THAN 'FOR EVERY INPUT', by the rows' own cells (each row's printed sentence says how): ClockCounts: laid · ClockRegulates: laid · ClockAdds: laid · ClockRounds: laid · ClockBack: laid · ClockOrders: laid.
  DERIVED. THE GIVEN ROWS OF THIS SEAT. 6 by the template 'for every input the law returns true; each argument reads behind the call as it read before'; 0 by the template 'total and deterministic' (their statements: YteggdabnhdjfcaaDoorTotals.lean).
  GIVEN WITH THE SEED: the statements are not yours to turn. If you find one false, say at which input.
  Laid BY PROGRAM, IN A SANDBOX (cutbox-rows.mjs): the forced cells as the released guide's own fill.sh prints them over the translation 727f02d203e3cf5a… (all of the seat's roots in one cut). By AI agents, Wed Nov 11 2026. No macro, syntax, notation, axiom, sorry.
-/
import Derived.Test.YteggdabnhdjfcaaDoorChecked
import GoSem.Claim
import GoSem.ClaimJoined
import GoSem.ClaimMapViews
import Derived.JoinedTies
import Derived.KernelRfl
namespace Go.Proofs.YteggdabnhdjfcaaDoor
/- THE CELL 'sum', in the pinned program and in every row, IS THE sha256 OF THE DUMP (.gsa) THAT YteggdabnhdjfcaaDoorProg.lean LOADS. Nothing in Lean hashes anything: it is a label: what it is worth is what the hold of that sum in a sandbox is worth. -/
noncomputable def Tryd.pinned : Pinned := { name := "yteggdabnhdjfcaadoor", sum := "727f02d203e3cf5a836494f9f434e575e0ef8e2a0c8ab5641e4d03b4243316ae", checked := Tryd.checked }
namespace Rows
def none {H : Type} : Left H := { results := [], args := [] }

/- WHAT THE LISTED PACKAGE-LEVEL VARIABLES READ AS WHEN THE CALL BEGINS. Each datum BY PROGRAM (the guide's laid-datum.mjs) off the statement by which the dump's own 'gosem.cut.vars' lays the variable. In a bare row this is a premise. The card (YteggdabnhdjfcaaDoorCards.lean) ties it to the program's text. -/
def laid_analemma_clock_sizes {H : Type} : DataW H := .agg [.lit (.int .i64 24), .lit (.int .i64 60), .lit (.int .i64 60), .lit (.int .i64 1000000000)]

/-- 'analemmalaw06.ClockCounts': WHATEVER THE INPUT: true; the input reads as it did. -/
def clockCountsSpec : ChangeSpec := { name := "clockCounts", fn := fun _ => fun
  | [d1, d2] => { results := [.lit (.bool true)], args := [d1, d2] }
  | _ => none }
def clockCountsRow : OpenClaim := { program := "yteggdabnhdjfcaadoor", sum := "727f02d203e3cf5a836494f9f434e575e0ef8e2a0c8ab5641e4d03b4243316ae", func := "analemma/analemmalaw06.ClockCounts", spec := "clockCounts", inPlace := ["math/bits.Add64", "math/bits.Sub64"], unfollowed := true, recurses := true, named := ["analemma/clock.sizes"], apart := false, laid := [("analemma/clock.sizes", laid_analemma_clock_sizes)] }
def ClockCountsSaid : Prop := clockCountsRow.holds Tryd.pinned (OpenSpec.ofChange clockCountsSpec)

/-- ITS FALSE NEIGHBOUR: 'it returns false'. Refute it at one input. -/
def clockCountsWrong : ChangeSpec := { name := "clockCounts", fn := fun _ => fun
  | [d1, d2] => { results := [.lit (.bool false)], args := [d1, d2] }
  | _ => none }
def ClockCountsWrongFalsely : Prop := clockCountsRow.holds Tryd.pinned (OpenSpec.ofChange clockCountsWrong)

/-- 'analemmalaw06.ClockRegulates': WHATEVER THE INPUT: true; the input reads as it did. -/
def clockRegulatesSpec : ChangeSpec := { name := "clockRegulates", fn := fun _ => fun
  | [d1, d2] => { results := [.lit (.bool true)], args := [d1, d2] }
  | _ => none }
def clockRegulatesRow : OpenClaim := { program := "yteggdabnhdjfcaadoor", sum := "727f02d203e3cf5a836494f9f434e575e0ef8e2a0c8ab5641e4d03b4243316ae", func := "analemma/analemmalaw06.ClockRegulates", spec := "clockRegulates", inPlace := ["math/bits.Add64", "math/bits.Sub64"], unfollowed := true, recurses := true, named := ["analemma/clock.sizes"], apart := false, laid := [("analemma/clock.sizes", laid_analemma_clock_sizes)] }
def ClockRegulatesSaid : Prop := clockRegulatesRow.holds Tryd.pinned (OpenSpec.ofChange clockRegulatesSpec)

/-- ITS FALSE NEIGHBOUR: 'it returns false'. Refute it at one input. -/
def clockRegulatesWrong : ChangeSpec := { name := "clockRegulates", fn := fun _ => fun
  | [d1, d2] => { results := [.lit (.bool false)], args := [d1, d2] }
  | _ => none }
def ClockRegulatesWrongFalsely : Prop := clockRegulatesRow.holds Tryd.pinned (OpenSpec.ofChange clockRegulatesWrong)

/-- 'analemmalaw06.ClockAdds': WHATEVER THE INPUT: true; the input reads as it did. -/
def clockAddsSpec : ChangeSpec := { name := "clockAdds", fn := fun _ => fun
  | [d1, d2] => { results := [.lit (.bool true)], args := [d1, d2] }
  | _ => none }
def clockAddsRow : OpenClaim := { program := "yteggdabnhdjfcaadoor", sum := "727f02d203e3cf5a836494f9f434e575e0ef8e2a0c8ab5641e4d03b4243316ae", func := "analemma/analemmalaw06.ClockAdds", spec := "clockAdds", inPlace := ["math/bits.Add64", "math/bits.Sub64"], unfollowed := true, recurses := true, named := ["analemma/clock.sizes"], apart := false, laid := [("analemma/clock.sizes", laid_analemma_clock_sizes)] }
def ClockAddsSaid : Prop := clockAddsRow.holds Tryd.pinned (OpenSpec.ofChange clockAddsSpec)

/-- ITS FALSE NEIGHBOUR: 'it returns false'. Refute it at one input. -/
def clockAddsWrong : ChangeSpec := { name := "clockAdds", fn := fun _ => fun
  | [d1, d2] => { results := [.lit (.bool false)], args := [d1, d2] }
  | _ => none }
def ClockAddsWrongFalsely : Prop := clockAddsRow.holds Tryd.pinned (OpenSpec.ofChange clockAddsWrong)

/-- 'analemmalaw06.ClockRounds': WHATEVER THE INPUT: true; the input reads as it did. -/
def clockRoundsSpec : ChangeSpec := { name := "clockRounds", fn := fun _ => fun
  | [d1, d2, d3, d4] => { results := [.lit (.bool true)], args := [d1, d2, d3, d4] }
  | _ => none }
def clockRoundsRow : OpenClaim := { program := "yteggdabnhdjfcaadoor", sum := "727f02d203e3cf5a836494f9f434e575e0ef8e2a0c8ab5641e4d03b4243316ae", func := "analemma/analemmalaw06.ClockRounds", spec := "clockRounds", inPlace := ["math/bits.Add64", "math/bits.Sub64"], unfollowed := true, recurses := true, named := ["analemma/clock.sizes"], apart := false, laid := [("analemma/clock.sizes", laid_analemma_clock_sizes)] }
def ClockRoundsSaid : Prop := clockRoundsRow.holds Tryd.pinned (OpenSpec.ofChange clockRoundsSpec)

/-- ITS FALSE NEIGHBOUR: 'it returns false'. Refute it at one input. -/
def clockRoundsWrong : ChangeSpec := { name := "clockRounds", fn := fun _ => fun
  | [d1, d2, d3, d4] => { results := [.lit (.bool false)], args := [d1, d2, d3, d4] }
  | _ => none }
def ClockRoundsWrongFalsely : Prop := clockRoundsRow.holds Tryd.pinned (OpenSpec.ofChange clockRoundsWrong)

/-- 'analemmalaw06.ClockBack': WHATEVER THE INPUT: true; the input reads as it did. -/
def clockBackSpec : ChangeSpec := { name := "clockBack", fn := fun _ => fun
  | [d1, d2] => { results := [.lit (.bool true)], args := [d1, d2] }
  | _ => none }
def clockBackRow : OpenClaim := { program := "yteggdabnhdjfcaadoor", sum := "727f02d203e3cf5a836494f9f434e575e0ef8e2a0c8ab5641e4d03b4243316ae", func := "analemma/analemmalaw06.ClockBack", spec := "clockBack", inPlace := ["math/bits.Add64", "math/bits.Sub64"], unfollowed := true, recurses := true, named := ["analemma/clock.sizes"], apart := false, laid := [("analemma/clock.sizes", laid_analemma_clock_sizes)] }
def ClockBackSaid : Prop := clockBackRow.holds Tryd.pinned (OpenSpec.ofChange clockBackSpec)

/-- ITS FALSE NEIGHBOUR: 'it returns false'. Refute it at one input. -/
def clockBackWrong : ChangeSpec := { name := "clockBack", fn := fun _ => fun
  | [d1, d2] => { results := [.lit (.bool false)], args := [d1, d2] }
  | _ => none }
def ClockBackWrongFalsely : Prop := clockBackRow.holds Tryd.pinned (OpenSpec.ofChange clockBackWrong)

/-- 'analemmalaw06.ClockOrders': WHATEVER THE INPUT: true; the input reads as it did. -/
def clockOrdersSpec : ChangeSpec := { name := "clockOrders", fn := fun _ => fun
  | [d1, d2] => { results := [.lit (.bool true)], args := [d1, d2] }
  | _ => none }
def clockOrdersRow : OpenClaim := { program := "yteggdabnhdjfcaadoor", sum := "727f02d203e3cf5a836494f9f434e575e0ef8e2a0c8ab5641e4d03b4243316ae", func := "analemma/analemmalaw06.ClockOrders", spec := "clockOrders", inPlace := ["math/bits.Add64", "math/bits.Sub64"], unfollowed := true, recurses := true, named := ["analemma/clock.sizes"], apart := false, laid := [("analemma/clock.sizes", laid_analemma_clock_sizes)] }
def ClockOrdersSaid : Prop := clockOrdersRow.holds Tryd.pinned (OpenSpec.ofChange clockOrdersSpec)

/-- ITS FALSE NEIGHBOUR: 'it returns false'. Refute it at one input. -/
def clockOrdersWrong : ChangeSpec := { name := "clockOrders", fn := fun _ => fun
  | [d1, d2] => { results := [.lit (.bool false)], args := [d1, d2] }
  | _ => none }
def ClockOrdersWrongFalsely : Prop := clockOrdersRow.holds Tryd.pinned (OpenSpec.ofChange clockOrdersWrong)

/- THE SECOND FORM. 'bulk': how many values and letters a reading holds, each counted each time it is reached (what is shared counts as often as it is met; a slice's spare places count too). A statement '..UptoSaid' is the law's where the arguments, and the package variables that the reading takes, are together of bulk at most 1048576: NARROWER than '..Said'. Prove '..Said' where nothing that the law and all that it calls make is longer than what came in: it says more and counts as full. Else prove '..UptoSaid'. A law counts once. -/
mutual
def uptoBulk {H : Type} : DataW H → Nat
  | .lit (.string bytes) => bytes.length + 1
  | .lit _ => 1
  | .nil => 1
  | .ptr d => uptoBulk d + 1
  | .slice elems spare => uptoBulkAll elems + uptoBulkAll spare + 1
  | .agg parts => uptoBulkAll parts + 1
  | .iface _ d => uptoBulk d + 1
  | .map entries => uptoBulkEntries entries + 1
  | .held _ => 1
def uptoBulkAll {H : Type} : List (DataW H) → Nat
  | [] => 0
  | d :: r => uptoBulk d + uptoBulkAll r
def uptoBulkEntries {H : Type} : List (Lit × DataW H) → Nat
  | [] => 0
  | x :: r => uptoBulkEntry x + uptoBulkEntries r
def uptoBulkEntry {H : Type} : Lit × DataW H → Nat
  | (.string bytes, d) => bytes.length + uptoBulk d + 1
  | (_, d) => uptoBulk d + 1
 end
def uptoSmall : (H : Type) → List (DataW H) → Bool := fun _ ds => decide (uptoBulkAll ds ≤ 1048576)
def OpenSpec.upto (s : _root_.Go.ChangeSpec) : _root_.Go.OpenSpec := { _root_.Go.OpenSpec.ofChange s with cond := some uptoSmall }

/-- 'analemmalaw06.ClockCounts', WHERE WHAT IT READS IS OF BULK AT MOST 1048576: true; the input reads as it did. -/
def clockCountsUptoRow : OpenClaim := { program := "yteggdabnhdjfcaadoor", sum := "727f02d203e3cf5a836494f9f434e575e0ef8e2a0c8ab5641e4d03b4243316ae", func := "analemma/analemmalaw06.ClockCounts", spec := "clockCounts", inPlace := ["math/bits.Add64", "math/bits.Sub64"], unfollowed := true, recurses := true, named := ["analemma/clock.sizes"], apart := false, laid := [("analemma/clock.sizes", laid_analemma_clock_sizes)], narrowed := true }
def ClockCountsUptoSaid : Prop := clockCountsUptoRow.holds Tryd.pinned (OpenSpec.upto clockCountsSpec)

/-- 'analemmalaw06.ClockRegulates', WHERE WHAT IT READS IS OF BULK AT MOST 1048576: true; the input reads as it did. -/
def clockRegulatesUptoRow : OpenClaim := { program := "yteggdabnhdjfcaadoor", sum := "727f02d203e3cf5a836494f9f434e575e0ef8e2a0c8ab5641e4d03b4243316ae", func := "analemma/analemmalaw06.ClockRegulates", spec := "clockRegulates", inPlace := ["math/bits.Add64", "math/bits.Sub64"], unfollowed := true, recurses := true, named := ["analemma/clock.sizes"], apart := false, laid := [("analemma/clock.sizes", laid_analemma_clock_sizes)], narrowed := true }
def ClockRegulatesUptoSaid : Prop := clockRegulatesUptoRow.holds Tryd.pinned (OpenSpec.upto clockRegulatesSpec)

/-- 'analemmalaw06.ClockAdds', WHERE WHAT IT READS IS OF BULK AT MOST 1048576: true; the input reads as it did. -/
def clockAddsUptoRow : OpenClaim := { program := "yteggdabnhdjfcaadoor", sum := "727f02d203e3cf5a836494f9f434e575e0ef8e2a0c8ab5641e4d03b4243316ae", func := "analemma/analemmalaw06.ClockAdds", spec := "clockAdds", inPlace := ["math/bits.Add64", "math/bits.Sub64"], unfollowed := true, recurses := true, named := ["analemma/clock.sizes"], apart := false, laid := [("analemma/clock.sizes", laid_analemma_clock_sizes)], narrowed := true }
def ClockAddsUptoSaid : Prop := clockAddsUptoRow.holds Tryd.pinned (OpenSpec.upto clockAddsSpec)

/-- 'analemmalaw06.ClockRounds', WHERE WHAT IT READS IS OF BULK AT MOST 1048576: true; the input reads as it did. -/
def clockRoundsUptoRow : OpenClaim := { program := "yteggdabnhdjfcaadoor", sum := "727f02d203e3cf5a836494f9f434e575e0ef8e2a0c8ab5641e4d03b4243316ae", func := "analemma/analemmalaw06.ClockRounds", spec := "clockRounds", inPlace := ["math/bits.Add64", "math/bits.Sub64"], unfollowed := true, recurses := true, named := ["analemma/clock.sizes"], apart := false, laid := [("analemma/clock.sizes", laid_analemma_clock_sizes)], narrowed := true }
def ClockRoundsUptoSaid : Prop := clockRoundsUptoRow.holds Tryd.pinned (OpenSpec.upto clockRoundsSpec)

/-- 'analemmalaw06.ClockBack', WHERE WHAT IT READS IS OF BULK AT MOST 1048576: true; the input reads as it did. -/
def clockBackUptoRow : OpenClaim := { program := "yteggdabnhdjfcaadoor", sum := "727f02d203e3cf5a836494f9f434e575e0ef8e2a0c8ab5641e4d03b4243316ae", func := "analemma/analemmalaw06.ClockBack", spec := "clockBack", inPlace := ["math/bits.Add64", "math/bits.Sub64"], unfollowed := true, recurses := true, named := ["analemma/clock.sizes"], apart := false, laid := [("analemma/clock.sizes", laid_analemma_clock_sizes)], narrowed := true }
def ClockBackUptoSaid : Prop := clockBackUptoRow.holds Tryd.pinned (OpenSpec.upto clockBackSpec)

/-- 'analemmalaw06.ClockOrders', WHERE WHAT IT READS IS OF BULK AT MOST 1048576: true; the input reads as it did. -/
def clockOrdersUptoRow : OpenClaim := { program := "yteggdabnhdjfcaadoor", sum := "727f02d203e3cf5a836494f9f434e575e0ef8e2a0c8ab5641e4d03b4243316ae", func := "analemma/analemmalaw06.ClockOrders", spec := "clockOrders", inPlace := ["math/bits.Add64", "math/bits.Sub64"], unfollowed := true, recurses := true, named := ["analemma/clock.sizes"], apart := false, laid := [("analemma/clock.sizes", laid_analemma_clock_sizes)], narrowed := true }
def ClockOrdersUptoSaid : Prop := clockOrdersUptoRow.holds Tryd.pinned (OpenSpec.upto clockOrdersSpec)

end Rows
end Go.Proofs.YteggdabnhdjfcaaDoor
