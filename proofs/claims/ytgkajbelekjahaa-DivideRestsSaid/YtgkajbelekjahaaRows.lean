/-
  No cell of these rows narrows 'for every input' (looked for: loops, veiled, ifaces, maps, wideKeys, modest, calm, conditions, laid).
  DERIVED. THE GIVEN ROWS OF THIS SEAT. 7 by the template 'for every input the law returns true; each argument reads behind the call as it read before'; 0 by the template 'total and deterministic' (their statements: YtgkajbelekjahaaTotals.lean).
  GIVEN WITH THE SEED: the statements are not yours to turn. If you find one false, say at which input.
  Laid BY PROGRAM, IN A SANDBOX (cutbox-rows.mjs): the forced cells as the released guide's own fill.sh prints them over the translation 96165dc88a9496a2… (all of the seat's roots in one cut). By AI agents, Wed Nov 11 2026. No macro, syntax, notation, axiom, sorry.
-/
import Derived.Test.YtgkajbelekjahaaChecked
import GoSem.Claim
import GoSem.ClaimJoined
import GoSem.ClaimMapViews
import Derived.JoinedTies
import Derived.KernelRfl
namespace Go.Proofs.Ytgkajbelekjahaa
/- THE CELL 'sum', in the pinned program and in every row, IS THE sha256 OF THE DUMP (.gsa) THAT YtgkajbelekjahaaProg.lean LOADS. Nothing in Lean hashes anything: it is a label: what it is worth is what the hold of that sum in a sandbox is worth. -/
noncomputable def Try.pinned : Pinned := { name := "ytgkajbelekjahaa", sum := "96165dc88a9496a271eec310ffb4c8304ce4ecf31f6eee16e16ebd1eb80e7249", checked := Try.checked }
namespace Rows
def none {H : Type} : Left H := { results := [], args := [] }

/-- 'analemmalaw03.DivideFloors': WHATEVER THE INPUT: true; the input reads as it did. -/
def divideFloorsSpec : ChangeSpec := { name := "divideFloors", fn := fun _ => fun
  | [d1, d2] => { results := [.lit (.bool true)], args := [d1, d2] }
  | _ => none }
def divideFloorsRow : OpenClaim := { program := "ytgkajbelekjahaa", sum := "96165dc88a9496a271eec310ffb4c8304ce4ecf31f6eee16e16ebd1eb80e7249", func := "analemma/analemmalaw03.DivideFloors", spec := "divideFloors", inPlace := ["math/bits.Add64", "math/bits.Sub64"], unfollowed := true, recurses := true, apart := false }
def DivideFloorsSaid : Prop := divideFloorsRow.holds Try.pinned (OpenSpec.ofChange divideFloorsSpec)

/-- ITS FALSE NEIGHBOUR: 'it returns false'. Refute it at one input. -/
def divideFloorsWrong : ChangeSpec := { name := "divideFloors", fn := fun _ => fun
  | [d1, d2] => { results := [.lit (.bool false)], args := [d1, d2] }
  | _ => none }
def DivideFloorsWrongFalsely : Prop := divideFloorsRow.holds Try.pinned (OpenSpec.ofChange divideFloorsWrong)

/-- 'analemmalaw03.DivideTruncs': WHATEVER THE INPUT: true; the input reads as it did. -/
def divideTruncsSpec : ChangeSpec := { name := "divideTruncs", fn := fun _ => fun
  | [d1, d2] => { results := [.lit (.bool true)], args := [d1, d2] }
  | _ => none }
def divideTruncsRow : OpenClaim := { program := "ytgkajbelekjahaa", sum := "96165dc88a9496a271eec310ffb4c8304ce4ecf31f6eee16e16ebd1eb80e7249", func := "analemma/analemmalaw03.DivideTruncs", spec := "divideTruncs", inPlace := ["math/bits.Add64", "math/bits.Sub64"], unfollowed := true, recurses := true, apart := false }
def DivideTruncsSaid : Prop := divideTruncsRow.holds Try.pinned (OpenSpec.ofChange divideTruncsSpec)

/-- ITS FALSE NEIGHBOUR: 'it returns false'. Refute it at one input. -/
def divideTruncsWrong : ChangeSpec := { name := "divideTruncs", fn := fun _ => fun
  | [d1, d2] => { results := [.lit (.bool false)], args := [d1, d2] }
  | _ => none }
def DivideTruncsWrongFalsely : Prop := divideTruncsRow.holds Try.pinned (OpenSpec.ofChange divideTruncsWrong)

/-- 'analemmalaw03.DivideBys': WHATEVER THE INPUT: true; the input reads as it did. -/
def divideBysSpec : ChangeSpec := { name := "divideBys", fn := fun _ => fun
  | [d1, d2] => { results := [.lit (.bool true)], args := [d1, d2] }
  | _ => none }
def divideBysRow : OpenClaim := { program := "ytgkajbelekjahaa", sum := "96165dc88a9496a271eec310ffb4c8304ce4ecf31f6eee16e16ebd1eb80e7249", func := "analemma/analemmalaw03.DivideBys", spec := "divideBys", inPlace := ["math/bits.Add64", "math/bits.Sub64"], unfollowed := true, recurses := true, apart := false }
def DivideBysSaid : Prop := divideBysRow.holds Try.pinned (OpenSpec.ofChange divideBysSpec)

/-- ITS FALSE NEIGHBOUR: 'it returns false'. Refute it at one input. -/
def divideBysWrong : ChangeSpec := { name := "divideBys", fn := fun _ => fun
  | [d1, d2] => { results := [.lit (.bool false)], args := [d1, d2] }
  | _ => none }
def DivideBysWrongFalsely : Prop := divideBysRow.holds Try.pinned (OpenSpec.ofChange divideBysWrong)

/-- 'analemmalaw03.DivideCommons': WHATEVER THE INPUT: true; the input reads as it did. -/
def divideCommonsSpec : ChangeSpec := { name := "divideCommons", fn := fun _ => fun
  | [d1, d2] => { results := [.lit (.bool true)], args := [d1, d2] }
  | _ => none }
def divideCommonsRow : OpenClaim := { program := "ytgkajbelekjahaa", sum := "96165dc88a9496a271eec310ffb4c8304ce4ecf31f6eee16e16ebd1eb80e7249", func := "analemma/analemmalaw03.DivideCommons", spec := "divideCommons", inPlace := ["math/bits.Add64", "math/bits.Sub64"], unfollowed := true, recurses := true, apart := false }
def DivideCommonsSaid : Prop := divideCommonsRow.holds Try.pinned (OpenSpec.ofChange divideCommonsSpec)

/-- ITS FALSE NEIGHBOUR: 'it returns false'. Refute it at one input. -/
def divideCommonsWrong : ChangeSpec := { name := "divideCommons", fn := fun _ => fun
  | [d1, d2] => { results := [.lit (.bool false)], args := [d1, d2] }
  | _ => none }
def DivideCommonsWrongFalsely : Prop := divideCommonsRow.holds Try.pinned (OpenSpec.ofChange divideCommonsWrong)

/-- 'analemmalaw03.DivideFractions': WHATEVER THE INPUT: true; the input reads as it did. -/
def divideFractionsSpec : ChangeSpec := { name := "divideFractions", fn := fun _ => fun
  | [d1, d2] => { results := [.lit (.bool true)], args := [d1, d2] }
  | _ => none }
def divideFractionsRow : OpenClaim := { program := "ytgkajbelekjahaa", sum := "96165dc88a9496a271eec310ffb4c8304ce4ecf31f6eee16e16ebd1eb80e7249", func := "analemma/analemmalaw03.DivideFractions", spec := "divideFractions", inPlace := ["math/bits.Add64", "math/bits.Sub64"], unfollowed := true, recurses := true, apart := false }
def DivideFractionsSaid : Prop := divideFractionsRow.holds Try.pinned (OpenSpec.ofChange divideFractionsSpec)

/-- ITS FALSE NEIGHBOUR: 'it returns false'. Refute it at one input. -/
def divideFractionsWrong : ChangeSpec := { name := "divideFractions", fn := fun _ => fun
  | [d1, d2] => { results := [.lit (.bool false)], args := [d1, d2] }
  | _ => none }
def DivideFractionsWrongFalsely : Prop := divideFractionsRow.holds Try.pinned (OpenSpec.ofChange divideFractionsWrong)

/-- 'analemmalaw03.DivideRests': WHATEVER THE INPUT: true; the input reads as it did. -/
def divideRestsSpec : ChangeSpec := { name := "divideRests", fn := fun _ => fun
  | [d1, d2] => { results := [.lit (.bool true)], args := [d1, d2] }
  | _ => none }
def divideRestsRow : OpenClaim := { program := "ytgkajbelekjahaa", sum := "96165dc88a9496a271eec310ffb4c8304ce4ecf31f6eee16e16ebd1eb80e7249", func := "analemma/analemmalaw03.DivideRests", spec := "divideRests", inPlace := ["math/bits.Add64", "math/bits.Sub64"], unfollowed := true, recurses := true, apart := false }
def DivideRestsSaid : Prop := divideRestsRow.holds Try.pinned (OpenSpec.ofChange divideRestsSpec)

/-- ITS FALSE NEIGHBOUR: 'it returns false'. Refute it at one input. -/
def divideRestsWrong : ChangeSpec := { name := "divideRests", fn := fun _ => fun
  | [d1, d2] => { results := [.lit (.bool false)], args := [d1, d2] }
  | _ => none }
def DivideRestsWrongFalsely : Prop := divideRestsRow.holds Try.pinned (OpenSpec.ofChange divideRestsWrong)

/-- 'analemmalaw03.DivideLowest': WHATEVER THE INPUT: true; the input reads as it did. -/
def divideLowestSpec : ChangeSpec := { name := "divideLowest", fn := fun _ => fun
  | [d1, d2] => { results := [.lit (.bool true)], args := [d1, d2] }
  | _ => none }
def divideLowestRow : OpenClaim := { program := "ytgkajbelekjahaa", sum := "96165dc88a9496a271eec310ffb4c8304ce4ecf31f6eee16e16ebd1eb80e7249", func := "analemma/analemmalaw03.DivideLowest", spec := "divideLowest", inPlace := ["math/bits.Add64", "math/bits.Sub64"], unfollowed := true, recurses := true, apart := false }
def DivideLowestSaid : Prop := divideLowestRow.holds Try.pinned (OpenSpec.ofChange divideLowestSpec)

/-- ITS FALSE NEIGHBOUR: 'it returns false'. Refute it at one input. -/
def divideLowestWrong : ChangeSpec := { name := "divideLowest", fn := fun _ => fun
  | [d1, d2] => { results := [.lit (.bool false)], args := [d1, d2] }
  | _ => none }
def DivideLowestWrongFalsely : Prop := divideLowestRow.holds Try.pinned (OpenSpec.ofChange divideLowestWrong)

/- THE SECOND FORM. 'bulk': how many values and letters a reading holds, each counted each time it is reached (what is shared counts as often as it is met; a slice's spare places count too). A statement '..UptoSaid' is the law's where the arguments, and the package variables that the reading takes, are together of bulk at most 1048576: NARROWER than '..Said'. Prove '..Said' where nothing that the law and all that it calls make is longer than what came in: it says more and counts as full. Else prove '..UptoSaid'. A law counts once. -/
mutual
def uptoBulk {H : Type} : DataW H → Nat
  | .lit (.string bytes) => bytes.length + 1
  | .lit _ => 1
  | .nil => 1
  | .ptr d => uptoBulk d + 1
  | .slice elems spare => uptoBulkAll elems + uptoBulkAll spare + 1
  | .agg parts => uptoBulkAll parts + 1
  | .iface _ d => uptoBulk d + 1
  | .map entries => uptoBulkEntries entries + 1
  | .held _ => 1
def uptoBulkAll {H : Type} : List (DataW H) → Nat
  | [] => 0
  | d :: r => uptoBulk d + uptoBulkAll r
def uptoBulkEntries {H : Type} : List (Lit × DataW H) → Nat
  | [] => 0
  | x :: r => uptoBulkEntry x + uptoBulkEntries r
def uptoBulkEntry {H : Type} : Lit × DataW H → Nat
  | (.string bytes, d) => bytes.length + uptoBulk d + 1
  | (_, d) => uptoBulk d + 1
 end
def uptoSmall : (H : Type) → List (DataW H) → Bool := fun _ ds => decide (uptoBulkAll ds ≤ 1048576)
def OpenSpec.upto (s : _root_.Go.ChangeSpec) : _root_.Go.OpenSpec := { _root_.Go.OpenSpec.ofChange s with cond := some uptoSmall }

/-- 'analemmalaw03.DivideFloors', WHERE WHAT IT READS IS OF BULK AT MOST 1048576: true; the input reads as it did. -/
def divideFloorsUptoRow : OpenClaim := { program := "ytgkajbelekjahaa", sum := "96165dc88a9496a271eec310ffb4c8304ce4ecf31f6eee16e16ebd1eb80e7249", func := "analemma/analemmalaw03.DivideFloors", spec := "divideFloors", inPlace := ["math/bits.Add64", "math/bits.Sub64"], unfollowed := true, recurses := true, apart := false, narrowed := true }
def DivideFloorsUptoSaid : Prop := divideFloorsUptoRow.holds Try.pinned (OpenSpec.upto divideFloorsSpec)

/-- 'analemmalaw03.DivideTruncs', WHERE WHAT IT READS IS OF BULK AT MOST 1048576: true; the input reads as it did. -/
def divideTruncsUptoRow : OpenClaim := { program := "ytgkajbelekjahaa", sum := "96165dc88a9496a271eec310ffb4c8304ce4ecf31f6eee16e16ebd1eb80e7249", func := "analemma/analemmalaw03.DivideTruncs", spec := "divideTruncs", inPlace := ["math/bits.Add64", "math/bits.Sub64"], unfollowed := true, recurses := true, apart := false, narrowed := true }
def DivideTruncsUptoSaid : Prop := divideTruncsUptoRow.holds Try.pinned (OpenSpec.upto divideTruncsSpec)

/-- 'analemmalaw03.DivideBys', WHERE WHAT IT READS IS OF BULK AT MOST 1048576: true; the input reads as it did. -/
def divideBysUptoRow : OpenClaim := { program := "ytgkajbelekjahaa", sum := "96165dc88a9496a271eec310ffb4c8304ce4ecf31f6eee16e16ebd1eb80e7249", func := "analemma/analemmalaw03.DivideBys", spec := "divideBys", inPlace := ["math/bits.Add64", "math/bits.Sub64"], unfollowed := true, recurses := true, apart := false, narrowed := true }
def DivideBysUptoSaid : Prop := divideBysUptoRow.holds Try.pinned (OpenSpec.upto divideBysSpec)

/-- 'analemmalaw03.DivideCommons', WHERE WHAT IT READS IS OF BULK AT MOST 1048576: true; the input reads as it did. -/
def divideCommonsUptoRow : OpenClaim := { program := "ytgkajbelekjahaa", sum := "96165dc88a9496a271eec310ffb4c8304ce4ecf31f6eee16e16ebd1eb80e7249", func := "analemma/analemmalaw03.DivideCommons", spec := "divideCommons", inPlace := ["math/bits.Add64", "math/bits.Sub64"], unfollowed := true, recurses := true, apart := false, narrowed := true }
def DivideCommonsUptoSaid : Prop := divideCommonsUptoRow.holds Try.pinned (OpenSpec.upto divideCommonsSpec)

/-- 'analemmalaw03.DivideFractions', WHERE WHAT IT READS IS OF BULK AT MOST 1048576: true; the input reads as it did. -/
def divideFractionsUptoRow : OpenClaim := { program := "ytgkajbelekjahaa", sum := "96165dc88a9496a271eec310ffb4c8304ce4ecf31f6eee16e16ebd1eb80e7249", func := "analemma/analemmalaw03.DivideFractions", spec := "divideFractions", inPlace := ["math/bits.Add64", "math/bits.Sub64"], unfollowed := true, recurses := true, apart := false, narrowed := true }
def DivideFractionsUptoSaid : Prop := divideFractionsUptoRow.holds Try.pinned (OpenSpec.upto divideFractionsSpec)

/-- 'analemmalaw03.DivideRests', WHERE WHAT IT READS IS OF BULK AT MOST 1048576: true; the input reads as it did. -/
def divideRestsUptoRow : OpenClaim := { program := "ytgkajbelekjahaa", sum := "96165dc88a9496a271eec310ffb4c8304ce4ecf31f6eee16e16ebd1eb80e7249", func := "analemma/analemmalaw03.DivideRests", spec := "divideRests", inPlace := ["math/bits.Add64", "math/bits.Sub64"], unfollowed := true, recurses := true, apart := false, narrowed := true }
def DivideRestsUptoSaid : Prop := divideRestsUptoRow.holds Try.pinned (OpenSpec.upto divideRestsSpec)

/-- 'analemmalaw03.DivideLowest', WHERE WHAT IT READS IS OF BULK AT MOST 1048576: true; the input reads as it did. -/
def divideLowestUptoRow : OpenClaim := { program := "ytgkajbelekjahaa", sum := "96165dc88a9496a271eec310ffb4c8304ce4ecf31f6eee16e16ebd1eb80e7249", func := "analemma/analemmalaw03.DivideLowest", spec := "divideLowest", inPlace := ["math/bits.Add64", "math/bits.Sub64"], unfollowed := true, recurses := true, apart := false, narrowed := true }
def DivideLowestUptoSaid : Prop := divideLowestUptoRow.holds Try.pinned (OpenSpec.upto divideLowestSpec)

end Rows
end Go.Proofs.Ytgkajbelekjahaa
