/-
  NARROWER THAN 'FOR EVERY INPUT', by the rows' own cells (each row's printed sentence says how): RulesTurns: laid · RulesNear: laid · RulesAhead: laid · RulesForce: laid · RulesSteps: laid · RulesTells: laid.
  DERIVED. THE GIVEN ROWS OF THIS SEAT. 6 by the template 'for every input the law returns true; each argument reads behind the call as it read before'; 0 by the template 'total and deterministic' (their statements: YtkkdclibbdeejaaDoorTotals.lean).
  GIVEN WITH THE SEED: the statements are not yours to turn. If you find one false, say at which input.
  Laid BY PROGRAM, IN A SANDBOX (cutbox-rows.mjs): the forced cells as the released guide's own fill.sh prints them over the translation 27ee9ff75352c48a… (all of the seat's roots in one cut). By AI agents, Wed Nov 11 2026. No macro, syntax, notation, axiom, sorry.
-/
import Derived.Test.YtkkdclibbdeejaaDoorChecked
import GoSem.Claim
import GoSem.ClaimJoined
import GoSem.ClaimMapViews
import Derived.JoinedTies
import Derived.KernelRfl
namespace Go.Proofs.YtkkdclibbdeejaaDoor
/- THE CELL 'sum', in the pinned program and in every row, IS THE sha256 OF THE DUMP (.gsa) THAT YtkkdclibbdeejaaDoorProg.lean LOADS. Nothing in Lean hashes anything: it is a label: what it is worth is what the hold of that sum in a sandbox is worth. -/
noncomputable def Tryd.pinned : Pinned := { name := "ytkkdclibbdeejaadoor", sum := "27ee9ff75352c48a7562739fd69b6e6b49aff8d4d9356dff78ec22e93f0eb430", checked := Tryd.checked }
namespace Rows
def none {H : Type} : Left H := { results := [], args := [] }

/- WHAT THE LISTED PACKAGE-LEVEL VARIABLES READ AS WHEN THE CALL BEGINS. Each datum BY PROGRAM (the guide's laid-datum.mjs) off the statement by which the dump's own 'gosem.cut.vars' lays the variable. In a bare row this is a premise. The card (YtkkdclibbdeejaaDoorCards.lean) ties it to the program's text. -/
def laid_analemma_civil_lengths {H : Type} : DataW H := .agg [.lit (.int .i64 31), .lit (.int .i64 28), .lit (.int .i64 31), .lit (.int .i64 30), .lit (.int .i64 31), .lit (.int .i64 30), .lit (.int .i64 31), .lit (.int .i64 31), .lit (.int .i64 30), .lit (.int .i64 31), .lit (.int .i64 30), .lit (.int .i64 31)]

/-- 'analemmalaw11.RulesTurns': WHATEVER THE INPUT: true; the input reads as it did. -/
def rulesTurnsSpec : ChangeSpec := { name := "rulesTurns", fn := fun _ => fun
  | [d1, d2] => { results := [.lit (.bool true)], args := [d1, d2] }
  | _ => none }
def rulesTurnsRow : OpenClaim := { program := "ytkkdclibbdeejaadoor", sum := "27ee9ff75352c48a7562739fd69b6e6b49aff8d4d9356dff78ec22e93f0eb430", func := "analemma/analemmalaw11.RulesTurns", spec := "rulesTurns", unfollowed := true, recurses := true, named := ["analemma/civil.lengths"], apart := false, laid := [("analemma/civil.lengths", laid_analemma_civil_lengths)] }
def RulesTurnsSaid : Prop := rulesTurnsRow.holds Tryd.pinned (OpenSpec.ofChange rulesTurnsSpec)

/-- ITS FALSE NEIGHBOUR: 'it returns false'. Refute it at one input. -/
def rulesTurnsWrong : ChangeSpec := { name := "rulesTurns", fn := fun _ => fun
  | [d1, d2] => { results := [.lit (.bool false)], args := [d1, d2] }
  | _ => none }
def RulesTurnsWrongFalsely : Prop := rulesTurnsRow.holds Tryd.pinned (OpenSpec.ofChange rulesTurnsWrong)

/-- 'analemmalaw11.RulesNear': WHATEVER THE INPUT: true; the input reads as it did. -/
def rulesNearSpec : ChangeSpec := { name := "rulesNear", fn := fun _ => fun
  | [d] => { results := [.lit (.bool true)], args := [d] }
  | _ => none }
def rulesNearRow : OpenClaim := { program := "ytkkdclibbdeejaadoor", sum := "27ee9ff75352c48a7562739fd69b6e6b49aff8d4d9356dff78ec22e93f0eb430", func := "analemma/analemmalaw11.RulesNear", spec := "rulesNear", unfollowed := true, recurses := true, named := ["analemma/civil.lengths"], apart := false, laid := [("analemma/civil.lengths", laid_analemma_civil_lengths)] }
def RulesNearSaid : Prop := rulesNearRow.holds Tryd.pinned (OpenSpec.ofChange rulesNearSpec)

/-- ITS FALSE NEIGHBOUR: 'it returns false'. Refute it at one input. -/
def rulesNearWrong : ChangeSpec := { name := "rulesNear", fn := fun _ => fun
  | [d] => { results := [.lit (.bool false)], args := [d] }
  | _ => none }
def RulesNearWrongFalsely : Prop := rulesNearRow.holds Tryd.pinned (OpenSpec.ofChange rulesNearWrong)

/-- 'analemmalaw11.RulesAhead': WHATEVER THE INPUT: true; the input reads as it did. -/
def rulesAheadSpec : ChangeSpec := { name := "rulesAhead", fn := fun _ => fun
  | [d1, d2] => { results := [.lit (.bool true)], args := [d1, d2] }
  | _ => none }
def rulesAheadRow : OpenClaim := { program := "ytkkdclibbdeejaadoor", sum := "27ee9ff75352c48a7562739fd69b6e6b49aff8d4d9356dff78ec22e93f0eb430", func := "analemma/analemmalaw11.RulesAhead", spec := "rulesAhead", unfollowed := true, recurses := true, named := ["analemma/civil.lengths"], apart := false, laid := [("analemma/civil.lengths", laid_analemma_civil_lengths)] }
def RulesAheadSaid : Prop := rulesAheadRow.holds Tryd.pinned (OpenSpec.ofChange rulesAheadSpec)

/-- ITS FALSE NEIGHBOUR: 'it returns false'. Refute it at one input. -/
def rulesAheadWrong : ChangeSpec := { name := "rulesAhead", fn := fun _ => fun
  | [d1, d2] => { results := [.lit (.bool false)], args := [d1, d2] }
  | _ => none }
def RulesAheadWrongFalsely : Prop := rulesAheadRow.holds Tryd.pinned (OpenSpec.ofChange rulesAheadWrong)

/-- 'analemmalaw11.RulesForce': WHATEVER THE INPUT: true; the input reads as it did. -/
def rulesForceSpec : ChangeSpec := { name := "rulesForce", fn := fun _ => fun
  | [d1, d2, d3] => { results := [.lit (.bool true)], args := [d1, d2, d3] }
  | _ => none }
def rulesForceRow : OpenClaim := { program := "ytkkdclibbdeejaadoor", sum := "27ee9ff75352c48a7562739fd69b6e6b49aff8d4d9356dff78ec22e93f0eb430", func := "analemma/analemmalaw11.RulesForce", spec := "rulesForce", unfollowed := true, recurses := true, named := ["analemma/civil.lengths"], apart := false, laid := [("analemma/civil.lengths", laid_analemma_civil_lengths)] }
def RulesForceSaid : Prop := rulesForceRow.holds Tryd.pinned (OpenSpec.ofChange rulesForceSpec)

/-- ITS FALSE NEIGHBOUR: 'it returns false'. Refute it at one input. -/
def rulesForceWrong : ChangeSpec := { name := "rulesForce", fn := fun _ => fun
  | [d1, d2, d3] => { results := [.lit (.bool false)], args := [d1, d2, d3] }
  | _ => none }
def RulesForceWrongFalsely : Prop := rulesForceRow.holds Tryd.pinned (OpenSpec.ofChange rulesForceWrong)

/-- 'analemmalaw11.RulesSteps': WHATEVER THE INPUT: true; the input reads as it did. -/
def rulesStepsSpec : ChangeSpec := { name := "rulesSteps", fn := fun _ => fun
  | [d1, d2, d3] => { results := [.lit (.bool true)], args := [d1, d2, d3] }
  | _ => none }
def rulesStepsRow : OpenClaim := { program := "ytkkdclibbdeejaadoor", sum := "27ee9ff75352c48a7562739fd69b6e6b49aff8d4d9356dff78ec22e93f0eb430", func := "analemma/analemmalaw11.RulesSteps", spec := "rulesSteps", unfollowed := true, recurses := true, named := ["analemma/civil.lengths"], apart := false, laid := [("analemma/civil.lengths", laid_analemma_civil_lengths)] }
def RulesStepsSaid : Prop := rulesStepsRow.holds Tryd.pinned (OpenSpec.ofChange rulesStepsSpec)

/-- ITS FALSE NEIGHBOUR: 'it returns false'. Refute it at one input. -/
def rulesStepsWrong : ChangeSpec := { name := "rulesSteps", fn := fun _ => fun
  | [d1, d2, d3] => { results := [.lit (.bool false)], args := [d1, d2, d3] }
  | _ => none }
def RulesStepsWrongFalsely : Prop := rulesStepsRow.holds Tryd.pinned (OpenSpec.ofChange rulesStepsWrong)

/-- 'analemmalaw11.RulesTells': WHATEVER THE INPUT: true; the input reads as it did. -/
def rulesTellsSpec : ChangeSpec := { name := "rulesTells", fn := fun _ => fun
  | [d1, d2, d3, d4] => { results := [.lit (.bool true)], args := [d1, d2, d3, d4] }
  | _ => none }
def rulesTellsRow : OpenClaim := { program := "ytkkdclibbdeejaadoor", sum := "27ee9ff75352c48a7562739fd69b6e6b49aff8d4d9356dff78ec22e93f0eb430", func := "analemma/analemmalaw11.RulesTells", spec := "rulesTells", unfollowed := true, recurses := true, named := ["analemma/civil.lengths"], apart := false, laid := [("analemma/civil.lengths", laid_analemma_civil_lengths)] }
def RulesTellsSaid : Prop := rulesTellsRow.holds Tryd.pinned (OpenSpec.ofChange rulesTellsSpec)

/-- ITS FALSE NEIGHBOUR: 'it returns false'. Refute it at one input. -/
def rulesTellsWrong : ChangeSpec := { name := "rulesTells", fn := fun _ => fun
  | [d1, d2, d3, d4] => { results := [.lit (.bool false)], args := [d1, d2, d3, d4] }
  | _ => none }
def RulesTellsWrongFalsely : Prop := rulesTellsRow.holds Tryd.pinned (OpenSpec.ofChange rulesTellsWrong)

/- THE SECOND FORM. 'bulk': how many values and letters a reading holds, each counted each time it is reached (what is shared counts as often as it is met; a slice's spare places count too). A statement '..UptoSaid' is the law's where the arguments, and the package variables that the reading takes, are together of bulk at most 1048576: NARROWER than '..Said'. Prove '..Said' where nothing that the law and all that it calls make is longer than what came in: it says more and counts as full. Else prove '..UptoSaid'. A law counts once. -/
mutual
def uptoBulk {H : Type} : DataW H → Nat
  | .lit (.string bytes) => bytes.length + 1
  | .lit _ => 1
  | .nil => 1
  | .ptr d => uptoBulk d + 1
  | .slice elems spare => uptoBulkAll elems + uptoBulkAll spare + 1
  | .agg parts => uptoBulkAll parts + 1
  | .iface _ d => uptoBulk d + 1
  | .map entries => uptoBulkEntries entries + 1
  | .held _ => 1
def uptoBulkAll {H : Type} : List (DataW H) → Nat
  | [] => 0
  | d :: r => uptoBulk d + uptoBulkAll r
def uptoBulkEntries {H : Type} : List (Lit × DataW H) → Nat
  | [] => 0
  | x :: r => uptoBulkEntry x + uptoBulkEntries r
def uptoBulkEntry {H : Type} : Lit × DataW H → Nat
  | (.string bytes, d) => bytes.length + uptoBulk d + 1
  | (_, d) => uptoBulk d + 1
 end
def uptoSmall : (H : Type) → List (DataW H) → Bool := fun _ ds => decide (uptoBulkAll ds ≤ 1048576)
def OpenSpec.upto (s : _root_.Go.ChangeSpec) : _root_.Go.OpenSpec := { _root_.Go.OpenSpec.ofChange s with cond := some uptoSmall }

/-- 'analemmalaw11.RulesTurns', WHERE WHAT IT READS IS OF BULK AT MOST 1048576: true; the input reads as it did. -/
def rulesTurnsUptoRow : OpenClaim := { program := "ytkkdclibbdeejaadoor", sum := "27ee9ff75352c48a7562739fd69b6e6b49aff8d4d9356dff78ec22e93f0eb430", func := "analemma/analemmalaw11.RulesTurns", spec := "rulesTurns", unfollowed := true, recurses := true, named := ["analemma/civil.lengths"], apart := false, laid := [("analemma/civil.lengths", laid_analemma_civil_lengths)], narrowed := true }
def RulesTurnsUptoSaid : Prop := rulesTurnsUptoRow.holds Tryd.pinned (OpenSpec.upto rulesTurnsSpec)

/-- 'analemmalaw11.RulesNear', WHERE WHAT IT READS IS OF BULK AT MOST 1048576: true; the input reads as it did. -/
def rulesNearUptoRow : OpenClaim := { program := "ytkkdclibbdeejaadoor", sum := "27ee9ff75352c48a7562739fd69b6e6b49aff8d4d9356dff78ec22e93f0eb430", func := "analemma/analemmalaw11.RulesNear", spec := "rulesNear", unfollowed := true, recurses := true, named := ["analemma/civil.lengths"], apart := false, laid := [("analemma/civil.lengths", laid_analemma_civil_lengths)], narrowed := true }
def RulesNearUptoSaid : Prop := rulesNearUptoRow.holds Tryd.pinned (OpenSpec.upto rulesNearSpec)

/-- 'analemmalaw11.RulesAhead', WHERE WHAT IT READS IS OF BULK AT MOST 1048576: true; the input reads as it did. -/
def rulesAheadUptoRow : OpenClaim := { program := "ytkkdclibbdeejaadoor", sum := "27ee9ff75352c48a7562739fd69b6e6b49aff8d4d9356dff78ec22e93f0eb430", func := "analemma/analemmalaw11.RulesAhead", spec := "rulesAhead", unfollowed := true, recurses := true, named := ["analemma/civil.lengths"], apart := false, laid := [("analemma/civil.lengths", laid_analemma_civil_lengths)], narrowed := true }
def RulesAheadUptoSaid : Prop := rulesAheadUptoRow.holds Tryd.pinned (OpenSpec.upto rulesAheadSpec)

/-- 'analemmalaw11.RulesForce', WHERE WHAT IT READS IS OF BULK AT MOST 1048576: true; the input reads as it did. -/
def rulesForceUptoRow : OpenClaim := { program := "ytkkdclibbdeejaadoor", sum := "27ee9ff75352c48a7562739fd69b6e6b49aff8d4d9356dff78ec22e93f0eb430", func := "analemma/analemmalaw11.RulesForce", spec := "rulesForce", unfollowed := true, recurses := true, named := ["analemma/civil.lengths"], apart := false, laid := [("analemma/civil.lengths", laid_analemma_civil_lengths)], narrowed := true }
def RulesForceUptoSaid : Prop := rulesForceUptoRow.holds Tryd.pinned (OpenSpec.upto rulesForceSpec)

/-- 'analemmalaw11.RulesSteps', WHERE WHAT IT READS IS OF BULK AT MOST 1048576: true; the input reads as it did. -/
def rulesStepsUptoRow : OpenClaim := { program := "ytkkdclibbdeejaadoor", sum := "27ee9ff75352c48a7562739fd69b6e6b49aff8d4d9356dff78ec22e93f0eb430", func := "analemma/analemmalaw11.RulesSteps", spec := "rulesSteps", unfollowed := true, recurses := true, named := ["analemma/civil.lengths"], apart := false, laid := [("analemma/civil.lengths", laid_analemma_civil_lengths)], narrowed := true }
def RulesStepsUptoSaid : Prop := rulesStepsUptoRow.holds Tryd.pinned (OpenSpec.upto rulesStepsSpec)

/-- 'analemmalaw11.RulesTells', WHERE WHAT IT READS IS OF BULK AT MOST 1048576: true; the input reads as it did. -/
def rulesTellsUptoRow : OpenClaim := { program := "ytkkdclibbdeejaadoor", sum := "27ee9ff75352c48a7562739fd69b6e6b49aff8d4d9356dff78ec22e93f0eb430", func := "analemma/analemmalaw11.RulesTells", spec := "rulesTells", unfollowed := true, recurses := true, named := ["analemma/civil.lengths"], apart := false, laid := [("analemma/civil.lengths", laid_analemma_civil_lengths)], narrowed := true }
def RulesTellsUptoSaid : Prop := rulesTellsUptoRow.holds Tryd.pinned (OpenSpec.upto rulesTellsSpec)

end Rows
end Go.Proofs.YtkkdclibbdeejaaDoor
