/-
  No cell of these rows narrows 'for every input' (looked for: loops, veiled, ifaces, maps, wideKeys, modest, calm, conditions, laid).
  DERIVED. THE GIVEN ROWS OF THIS SEAT. 6 by the template 'for every input the law returns true; each argument reads behind the call as it read before'; 0 by the template 'total and deterministic' (their statements: YtnopgdheffnfdaaTotals.lean).
  GIVEN WITH THE SEED: the statements are not yours to turn. If you find one false, say at which input.
  Laid BY PROGRAM, IN A SANDBOX (cutbox-rows.mjs): the forced cells as the released guide's own fill.sh prints them over the translation b4b0874d4e8b2a9b… (all of the seat's roots in one cut). By AI agents, Wed Nov 11 2026. No macro, syntax, notation, axiom, sorry.
-/
import Derived.Test.YtnopgdheffnfdaaChecked
import GoSem.Claim
import GoSem.ClaimJoined
import GoSem.ClaimMapViews
import Derived.JoinedTies
import Derived.KernelRfl
namespace Go.Proofs.Ytnopgdheffnfdaa
/- THE CELL 'sum', in the pinned program and in every row, IS THE sha256 OF THE DUMP (.gsa) THAT YtnopgdheffnfdaaProg.lean LOADS. Nothing in Lean hashes anything: it is a label: what it is worth is what the hold of that sum in a sandbox is worth. -/
noncomputable def Try.pinned : Pinned := { name := "ytnopgdheffnfdaa", sum := "b4b0874d4e8b2a9bceace70e51bf01a54c7e502443160b8aadab2c3afe78d4d1", checked := Try.checked }
namespace Rows
def none {H : Type} : Left H := { results := [], args := [] }

/-- 'analemmalaw04.RoundTos': WHATEVER THE INPUT: true; the input reads as it did. -/
def roundTosSpec : ChangeSpec := { name := "roundTos", fn := fun _ => fun
  | [d1, d2, d3] => { results := [.lit (.bool true)], args := [d1, d2, d3] }
  | _ => none }
def roundTosRow : OpenClaim := { program := "ytnopgdheffnfdaa", sum := "b4b0874d4e8b2a9bceace70e51bf01a54c7e502443160b8aadab2c3afe78d4d1", func := "analemma/analemmalaw04.RoundTos", spec := "roundTos", inPlace := ["math/bits.Add64", "math/bits.Sub64"], unfollowed := true, recurses := true, apart := false }
def RoundTosSaid : Prop := roundTosRow.holds Try.pinned (OpenSpec.ofChange roundTosSpec)

/-- ITS FALSE NEIGHBOUR: 'it returns false'. Refute it at one input. -/
def roundTosWrong : ChangeSpec := { name := "roundTos", fn := fun _ => fun
  | [d1, d2, d3] => { results := [.lit (.bool false)], args := [d1, d2, d3] }
  | _ => none }
def RoundTosWrongFalsely : Prop := roundTosRow.holds Try.pinned (OpenSpec.ofChange roundTosWrong)

/-- 'analemmalaw04.RoundRatios': WHATEVER THE INPUT: true; the input reads as it did. -/
def roundRatiosSpec : ChangeSpec := { name := "roundRatios", fn := fun _ => fun
  | [d1, d2, d3] => { results := [.lit (.bool true)], args := [d1, d2, d3] }
  | _ => none }
def roundRatiosRow : OpenClaim := { program := "ytnopgdheffnfdaa", sum := "b4b0874d4e8b2a9bceace70e51bf01a54c7e502443160b8aadab2c3afe78d4d1", func := "analemma/analemmalaw04.RoundRatios", spec := "roundRatios", inPlace := ["math/bits.Add64", "math/bits.Sub64"], unfollowed := true, recurses := true, apart := false }
def RoundRatiosSaid : Prop := roundRatiosRow.holds Try.pinned (OpenSpec.ofChange roundRatiosSpec)

/-- ITS FALSE NEIGHBOUR: 'it returns false'. Refute it at one input. -/
def roundRatiosWrong : ChangeSpec := { name := "roundRatios", fn := fun _ => fun
  | [d1, d2, d3] => { results := [.lit (.bool false)], args := [d1, d2, d3] }
  | _ => none }
def RoundRatiosWrongFalsely : Prop := roundRatiosRow.holds Try.pinned (OpenSpec.ofChange roundRatiosWrong)

/-- 'analemmalaw04.RoundAll': WHATEVER THE INPUT: true; the input reads as it did. -/
def roundAllSpec : ChangeSpec := { name := "roundAll", fn := fun _ => fun
  | [d1, d2, d3] => { results := [.lit (.bool true)], args := [d1, d2, d3] }
  | _ => none }
def roundAllRow : OpenClaim := { program := "ytnopgdheffnfdaa", sum := "b4b0874d4e8b2a9bceace70e51bf01a54c7e502443160b8aadab2c3afe78d4d1", func := "analemma/analemmalaw04.RoundAll", spec := "roundAll", inPlace := ["math/bits.Add64", "math/bits.Sub64"], unfollowed := true, recurses := true, apart := false }
def RoundAllSaid : Prop := roundAllRow.holds Try.pinned (OpenSpec.ofChange roundAllSpec)

/-- ITS FALSE NEIGHBOUR: 'it returns false'. Refute it at one input. -/
def roundAllWrong : ChangeSpec := { name := "roundAll", fn := fun _ => fun
  | [d1, d2, d3] => { results := [.lit (.bool false)], args := [d1, d2, d3] }
  | _ => none }
def RoundAllWrongFalsely : Prop := roundAllRow.holds Try.pinned (OpenSpec.ofChange roundAllWrong)

/-- 'analemmalaw04.RoundMirrors': WHATEVER THE INPUT: true; the input reads as it did. -/
def roundMirrorsSpec : ChangeSpec := { name := "roundMirrors", fn := fun _ => fun
  | [d1, d2, d3] => { results := [.lit (.bool true)], args := [d1, d2, d3] }
  | _ => none }
def roundMirrorsRow : OpenClaim := { program := "ytnopgdheffnfdaa", sum := "b4b0874d4e8b2a9bceace70e51bf01a54c7e502443160b8aadab2c3afe78d4d1", func := "analemma/analemmalaw04.RoundMirrors", spec := "roundMirrors", inPlace := ["math/bits.Add64", "math/bits.Sub64"], unfollowed := true, recurses := true, apart := false }
def RoundMirrorsSaid : Prop := roundMirrorsRow.holds Try.pinned (OpenSpec.ofChange roundMirrorsSpec)

/-- ITS FALSE NEIGHBOUR: 'it returns false'. Refute it at one input. -/
def roundMirrorsWrong : ChangeSpec := { name := "roundMirrors", fn := fun _ => fun
  | [d1, d2, d3] => { results := [.lit (.bool false)], args := [d1, d2, d3] }
  | _ => none }
def RoundMirrorsWrongFalsely : Prop := roundMirrorsRow.holds Try.pinned (OpenSpec.ofChange roundMirrorsWrong)

/-- 'analemmalaw04.RoundNear': WHATEVER THE INPUT: true; the input reads as it did. -/
def roundNearSpec : ChangeSpec := { name := "roundNear", fn := fun _ => fun
  | [d1, d2, d3] => { results := [.lit (.bool true)], args := [d1, d2, d3] }
  | _ => none }
def roundNearRow : OpenClaim := { program := "ytnopgdheffnfdaa", sum := "b4b0874d4e8b2a9bceace70e51bf01a54c7e502443160b8aadab2c3afe78d4d1", func := "analemma/analemmalaw04.RoundNear", spec := "roundNear", inPlace := ["math/bits.Add64", "math/bits.Sub64"], unfollowed := true, recurses := true, apart := false }
def RoundNearSaid : Prop := roundNearRow.holds Try.pinned (OpenSpec.ofChange roundNearSpec)

/-- ITS FALSE NEIGHBOUR: 'it returns false'. Refute it at one input. -/
def roundNearWrong : ChangeSpec := { name := "roundNear", fn := fun _ => fun
  | [d1, d2, d3] => { results := [.lit (.bool false)], args := [d1, d2, d3] }
  | _ => none }
def RoundNearWrongFalsely : Prop := roundNearRow.holds Try.pinned (OpenSpec.ofChange roundNearWrong)

/-- 'analemmalaw04.RoundRises': WHATEVER THE INPUT: true; the input reads as it did. -/
def roundRisesSpec : ChangeSpec := { name := "roundRises", fn := fun _ => fun
  | [d1, d2, d3, d4] => { results := [.lit (.bool true)], args := [d1, d2, d3, d4] }
  | _ => none }
def roundRisesRow : OpenClaim := { program := "ytnopgdheffnfdaa", sum := "b4b0874d4e8b2a9bceace70e51bf01a54c7e502443160b8aadab2c3afe78d4d1", func := "analemma/analemmalaw04.RoundRises", spec := "roundRises", inPlace := ["math/bits.Add64", "math/bits.Sub64"], unfollowed := true, recurses := true, apart := false }
def RoundRisesSaid : Prop := roundRisesRow.holds Try.pinned (OpenSpec.ofChange roundRisesSpec)

/-- ITS FALSE NEIGHBOUR: 'it returns false'. Refute it at one input. -/
def roundRisesWrong : ChangeSpec := { name := "roundRises", fn := fun _ => fun
  | [d1, d2, d3, d4] => { results := [.lit (.bool false)], args := [d1, d2, d3, d4] }
  | _ => none }
def RoundRisesWrongFalsely : Prop := roundRisesRow.holds Try.pinned (OpenSpec.ofChange roundRisesWrong)

/- THE SECOND FORM. 'bulk': how many values and letters a reading holds, each counted each time it is reached (what is shared counts as often as it is met; a slice's spare places count too). A statement '..UptoSaid' is the law's where the arguments, and the package variables that the reading takes, are together of bulk at most 1048576: NARROWER than '..Said'. Prove '..Said' where nothing that the law and all that it calls make is longer than what came in: it says more and counts as full. Else prove '..UptoSaid'. A law counts once. -/
mutual
def uptoBulk {H : Type} : DataW H → Nat
  | .lit (.string bytes) => bytes.length + 1
  | .lit _ => 1
  | .nil => 1
  | .ptr d => uptoBulk d + 1
  | .slice elems spare => uptoBulkAll elems + uptoBulkAll spare + 1
  | .agg parts => uptoBulkAll parts + 1
  | .iface _ d => uptoBulk d + 1
  | .map entries => uptoBulkEntries entries + 1
  | .held _ => 1
def uptoBulkAll {H : Type} : List (DataW H) → Nat
  | [] => 0
  | d :: r => uptoBulk d + uptoBulkAll r
def uptoBulkEntries {H : Type} : List (Lit × DataW H) → Nat
  | [] => 0
  | x :: r => uptoBulkEntry x + uptoBulkEntries r
def uptoBulkEntry {H : Type} : Lit × DataW H → Nat
  | (.string bytes, d) => bytes.length + uptoBulk d + 1
  | (_, d) => uptoBulk d + 1
 end
def uptoSmall : (H : Type) → List (DataW H) → Bool := fun _ ds => decide (uptoBulkAll ds ≤ 1048576)
def OpenSpec.upto (s : _root_.Go.ChangeSpec) : _root_.Go.OpenSpec := { _root_.Go.OpenSpec.ofChange s with cond := some uptoSmall }

/-- 'analemmalaw04.RoundTos', WHERE WHAT IT READS IS OF BULK AT MOST 1048576: true; the input reads as it did. -/
def roundTosUptoRow : OpenClaim := { program := "ytnopgdheffnfdaa", sum := "b4b0874d4e8b2a9bceace70e51bf01a54c7e502443160b8aadab2c3afe78d4d1", func := "analemma/analemmalaw04.RoundTos", spec := "roundTos", inPlace := ["math/bits.Add64", "math/bits.Sub64"], unfollowed := true, recurses := true, apart := false, narrowed := true }
def RoundTosUptoSaid : Prop := roundTosUptoRow.holds Try.pinned (OpenSpec.upto roundTosSpec)

/-- 'analemmalaw04.RoundRatios', WHERE WHAT IT READS IS OF BULK AT MOST 1048576: true; the input reads as it did. -/
def roundRatiosUptoRow : OpenClaim := { program := "ytnopgdheffnfdaa", sum := "b4b0874d4e8b2a9bceace70e51bf01a54c7e502443160b8aadab2c3afe78d4d1", func := "analemma/analemmalaw04.RoundRatios", spec := "roundRatios", inPlace := ["math/bits.Add64", "math/bits.Sub64"], unfollowed := true, recurses := true, apart := false, narrowed := true }
def RoundRatiosUptoSaid : Prop := roundRatiosUptoRow.holds Try.pinned (OpenSpec.upto roundRatiosSpec)

/-- 'analemmalaw04.RoundAll', WHERE WHAT IT READS IS OF BULK AT MOST 1048576: true; the input reads as it did. -/
def roundAllUptoRow : OpenClaim := { program := "ytnopgdheffnfdaa", sum := "b4b0874d4e8b2a9bceace70e51bf01a54c7e502443160b8aadab2c3afe78d4d1", func := "analemma/analemmalaw04.RoundAll", spec := "roundAll", inPlace := ["math/bits.Add64", "math/bits.Sub64"], unfollowed := true, recurses := true, apart := false, narrowed := true }
def RoundAllUptoSaid : Prop := roundAllUptoRow.holds Try.pinned (OpenSpec.upto roundAllSpec)

/-- 'analemmalaw04.RoundMirrors', WHERE WHAT IT READS IS OF BULK AT MOST 1048576: true; the input reads as it did. -/
def roundMirrorsUptoRow : OpenClaim := { program := "ytnopgdheffnfdaa", sum := "b4b0874d4e8b2a9bceace70e51bf01a54c7e502443160b8aadab2c3afe78d4d1", func := "analemma/analemmalaw04.RoundMirrors", spec := "roundMirrors", inPlace := ["math/bits.Add64", "math/bits.Sub64"], unfollowed := true, recurses := true, apart := false, narrowed := true }
def RoundMirrorsUptoSaid : Prop := roundMirrorsUptoRow.holds Try.pinned (OpenSpec.upto roundMirrorsSpec)

/-- 'analemmalaw04.RoundNear', WHERE WHAT IT READS IS OF BULK AT MOST 1048576: true; the input reads as it did. -/
def roundNearUptoRow : OpenClaim := { program := "ytnopgdheffnfdaa", sum := "b4b0874d4e8b2a9bceace70e51bf01a54c7e502443160b8aadab2c3afe78d4d1", func := "analemma/analemmalaw04.RoundNear", spec := "roundNear", inPlace := ["math/bits.Add64", "math/bits.Sub64"], unfollowed := true, recurses := true, apart := false, narrowed := true }
def RoundNearUptoSaid : Prop := roundNearUptoRow.holds Try.pinned (OpenSpec.upto roundNearSpec)

/-- 'analemmalaw04.RoundRises', WHERE WHAT IT READS IS OF BULK AT MOST 1048576: true; the input reads as it did. -/
def roundRisesUptoRow : OpenClaim := { program := "ytnopgdheffnfdaa", sum := "b4b0874d4e8b2a9bceace70e51bf01a54c7e502443160b8aadab2c3afe78d4d1", func := "analemma/analemmalaw04.RoundRises", spec := "roundRises", inPlace := ["math/bits.Add64", "math/bits.Sub64"], unfollowed := true, recurses := true, apart := false, narrowed := true }
def RoundRisesUptoSaid : Prop := roundRisesUptoRow.holds Try.pinned (OpenSpec.upto roundRisesSpec)

end Rows
end Go.Proofs.Ytnopgdheffnfdaa
