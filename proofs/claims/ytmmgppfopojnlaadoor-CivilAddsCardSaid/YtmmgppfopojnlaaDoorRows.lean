/-
  NARROWER THAN 'FOR EVERY INPUT', by the rows' own cells (each row's printed sentence says how): CivilCounts: laid · CivilLengths: laid · CivilWeeks: laid · CivilRegulates: laid · CivilAdds: laid · CivilNext: laid · CivilSevens: laid.
  DERIVED. THE GIVEN ROWS OF THIS SEAT. 7 by the template 'for every input the law returns true; each argument reads behind the call as it read before'; 0 by the template 'total and deterministic' (their statements: YtmmgppfopojnlaaDoorTotals.lean).
  GIVEN WITH THE SEED: the statements are not yours to turn. If you find one false, say at which input.
  Laid BY PROGRAM, IN A SANDBOX (cutbox-rows.mjs): the forced cells as the released guide's own fill.sh prints them over the translation 138367b12e36a21a… (all of the seat's roots in one cut). By AI agents, Wed Nov 11 2026. No macro, syntax, notation, axiom, sorry.
-/
import Derived.Test.YtmmgppfopojnlaaDoorChecked
import GoSem.Claim
import GoSem.ClaimJoined
import GoSem.ClaimMapViews
import Derived.JoinedTies
import Derived.KernelRfl
namespace Go.Proofs.YtmmgppfopojnlaaDoor
/- THE CELL 'sum', in the pinned program and in every row, IS THE sha256 OF THE DUMP (.gsa) THAT YtmmgppfopojnlaaDoorProg.lean LOADS. Nothing in Lean hashes anything: it is a label: what it is worth is what the hold of that sum in a sandbox is worth. -/
noncomputable def Tryd.pinned : Pinned := { name := "ytmmgppfopojnlaadoor", sum := "138367b12e36a21ac9f83445fbfc0139a04dbe3adb93534b1967cbc796902dac", checked := Tryd.checked }
namespace Rows
def none {H : Type} : Left H := { results := [], args := [] }

/- WHAT THE LISTED PACKAGE-LEVEL VARIABLES READ AS WHEN THE CALL BEGINS. Each datum BY PROGRAM (the guide's laid-datum.mjs) off the statement by which the dump's own 'gosem.cut.vars' lays the variable. In a bare row this is a premise. The card (YtmmgppfopojnlaaDoorCards.lean) ties it to the program's text. -/
def laid_analemma_civil_lengths {H : Type} : DataW H := .agg [.lit (.int .i64 31), .lit (.int .i64 28), .lit (.int .i64 31), .lit (.int .i64 30), .lit (.int .i64 31), .lit (.int .i64 30), .lit (.int .i64 31), .lit (.int .i64 31), .lit (.int .i64 30), .lit (.int .i64 31), .lit (.int .i64 30), .lit (.int .i64 31)]

/-- 'analemmalaw05.CivilCounts': WHATEVER THE INPUT: true; the input reads as it did. -/
def civilCountsSpec : ChangeSpec := { name := "civilCounts", fn := fun _ => fun
  | [d1, d2] => { results := [.lit (.bool true)], args := [d1, d2] }
  | _ => none }
def civilCountsRow : OpenClaim := { program := "ytmmgppfopojnlaadoor", sum := "138367b12e36a21ac9f83445fbfc0139a04dbe3adb93534b1967cbc796902dac", func := "analemma/analemmalaw05.CivilCounts", spec := "civilCounts", named := ["analemma/civil.lengths"], apart := false, laid := [("analemma/civil.lengths", laid_analemma_civil_lengths)] }
def CivilCountsSaid : Prop := civilCountsRow.holds Tryd.pinned (OpenSpec.ofChange civilCountsSpec)

/-- ITS FALSE NEIGHBOUR: 'it returns false'. Refute it at one input. -/
def civilCountsWrong : ChangeSpec := { name := "civilCounts", fn := fun _ => fun
  | [d1, d2] => { results := [.lit (.bool false)], args := [d1, d2] }
  | _ => none }
def CivilCountsWrongFalsely : Prop := civilCountsRow.holds Tryd.pinned (OpenSpec.ofChange civilCountsWrong)

/-- 'analemmalaw05.CivilLengths': WHATEVER THE INPUT: true; the input reads as it did. -/
def civilLengthsSpec : ChangeSpec := { name := "civilLengths", fn := fun _ => fun
  | [d1, d2] => { results := [.lit (.bool true)], args := [d1, d2] }
  | _ => none }
def civilLengthsRow : OpenClaim := { program := "ytmmgppfopojnlaadoor", sum := "138367b12e36a21ac9f83445fbfc0139a04dbe3adb93534b1967cbc796902dac", func := "analemma/analemmalaw05.CivilLengths", spec := "civilLengths", named := ["analemma/civil.lengths"], apart := false, laid := [("analemma/civil.lengths", laid_analemma_civil_lengths)] }
def CivilLengthsSaid : Prop := civilLengthsRow.holds Tryd.pinned (OpenSpec.ofChange civilLengthsSpec)

/-- ITS FALSE NEIGHBOUR: 'it returns false'. Refute it at one input. -/
def civilLengthsWrong : ChangeSpec := { name := "civilLengths", fn := fun _ => fun
  | [d1, d2] => { results := [.lit (.bool false)], args := [d1, d2] }
  | _ => none }
def CivilLengthsWrongFalsely : Prop := civilLengthsRow.holds Tryd.pinned (OpenSpec.ofChange civilLengthsWrong)

/-- 'analemmalaw05.CivilWeeks': WHATEVER THE INPUT: true; the input reads as it did. -/
def civilWeeksSpec : ChangeSpec := { name := "civilWeeks", fn := fun _ => fun
  | [d] => { results := [.lit (.bool true)], args := [d] }
  | _ => none }
def civilWeeksRow : OpenClaim := { program := "ytmmgppfopojnlaadoor", sum := "138367b12e36a21ac9f83445fbfc0139a04dbe3adb93534b1967cbc796902dac", func := "analemma/analemmalaw05.CivilWeeks", spec := "civilWeeks", named := ["analemma/civil.lengths"], apart := false, laid := [("analemma/civil.lengths", laid_analemma_civil_lengths)] }
def CivilWeeksSaid : Prop := civilWeeksRow.holds Tryd.pinned (OpenSpec.ofChange civilWeeksSpec)

/-- ITS FALSE NEIGHBOUR: 'it returns false'. Refute it at one input. -/
def civilWeeksWrong : ChangeSpec := { name := "civilWeeks", fn := fun _ => fun
  | [d] => { results := [.lit (.bool false)], args := [d] }
  | _ => none }
def CivilWeeksWrongFalsely : Prop := civilWeeksRow.holds Tryd.pinned (OpenSpec.ofChange civilWeeksWrong)

/-- 'analemmalaw05.CivilRegulates': WHATEVER THE INPUT: true; the input reads as it did. -/
def civilRegulatesSpec : ChangeSpec := { name := "civilRegulates", fn := fun _ => fun
  | [d1, d2, d3, d4] => { results := [.lit (.bool true)], args := [d1, d2, d3, d4] }
  | _ => none }
def civilRegulatesRow : OpenClaim := { program := "ytmmgppfopojnlaadoor", sum := "138367b12e36a21ac9f83445fbfc0139a04dbe3adb93534b1967cbc796902dac", func := "analemma/analemmalaw05.CivilRegulates", spec := "civilRegulates", named := ["analemma/civil.lengths"], apart := false, laid := [("analemma/civil.lengths", laid_analemma_civil_lengths)] }
def CivilRegulatesSaid : Prop := civilRegulatesRow.holds Tryd.pinned (OpenSpec.ofChange civilRegulatesSpec)

/-- ITS FALSE NEIGHBOUR: 'it returns false'. Refute it at one input. -/
def civilRegulatesWrong : ChangeSpec := { name := "civilRegulates", fn := fun _ => fun
  | [d1, d2, d3, d4] => { results := [.lit (.bool false)], args := [d1, d2, d3, d4] }
  | _ => none }
def CivilRegulatesWrongFalsely : Prop := civilRegulatesRow.holds Tryd.pinned (OpenSpec.ofChange civilRegulatesWrong)

/-- 'analemmalaw05.CivilAdds': WHATEVER THE INPUT: true; the input reads as it did. -/
def civilAddsSpec : ChangeSpec := { name := "civilAdds", fn := fun _ => fun
  | [d1, d2, d3] => { results := [.lit (.bool true)], args := [d1, d2, d3] }
  | _ => none }
def civilAddsRow : OpenClaim := { program := "ytmmgppfopojnlaadoor", sum := "138367b12e36a21ac9f83445fbfc0139a04dbe3adb93534b1967cbc796902dac", func := "analemma/analemmalaw05.CivilAdds", spec := "civilAdds", named := ["analemma/civil.lengths"], apart := false, laid := [("analemma/civil.lengths", laid_analemma_civil_lengths)] }
def CivilAddsSaid : Prop := civilAddsRow.holds Tryd.pinned (OpenSpec.ofChange civilAddsSpec)

/-- ITS FALSE NEIGHBOUR: 'it returns false'. Refute it at one input. -/
def civilAddsWrong : ChangeSpec := { name := "civilAdds", fn := fun _ => fun
  | [d1, d2, d3] => { results := [.lit (.bool false)], args := [d1, d2, d3] }
  | _ => none }
def CivilAddsWrongFalsely : Prop := civilAddsRow.holds Tryd.pinned (OpenSpec.ofChange civilAddsWrong)

/-- 'analemmalaw05.CivilNext': WHATEVER THE INPUT: true; the input reads as it did. -/
def civilNextSpec : ChangeSpec := { name := "civilNext", fn := fun _ => fun
  | [d] => { results := [.lit (.bool true)], args := [d] }
  | _ => none }
def civilNextRow : OpenClaim := { program := "ytmmgppfopojnlaadoor", sum := "138367b12e36a21ac9f83445fbfc0139a04dbe3adb93534b1967cbc796902dac", func := "analemma/analemmalaw05.CivilNext", spec := "civilNext", named := ["analemma/civil.lengths"], apart := false, laid := [("analemma/civil.lengths", laid_analemma_civil_lengths)] }
def CivilNextSaid : Prop := civilNextRow.holds Tryd.pinned (OpenSpec.ofChange civilNextSpec)

/-- ITS FALSE NEIGHBOUR: 'it returns false'. Refute it at one input. -/
def civilNextWrong : ChangeSpec := { name := "civilNext", fn := fun _ => fun
  | [d] => { results := [.lit (.bool false)], args := [d] }
  | _ => none }
def CivilNextWrongFalsely : Prop := civilNextRow.holds Tryd.pinned (OpenSpec.ofChange civilNextWrong)

/-- 'analemmalaw05.CivilSevens': WHATEVER THE INPUT: true; the input reads as it did. -/
def civilSevensSpec : ChangeSpec := { name := "civilSevens", fn := fun _ => fun
  | [d] => { results := [.lit (.bool true)], args := [d] }
  | _ => none }
def civilSevensRow : OpenClaim := { program := "ytmmgppfopojnlaadoor", sum := "138367b12e36a21ac9f83445fbfc0139a04dbe3adb93534b1967cbc796902dac", func := "analemma/analemmalaw05.CivilSevens", spec := "civilSevens", named := ["analemma/civil.lengths"], apart := false, laid := [("analemma/civil.lengths", laid_analemma_civil_lengths)] }
def CivilSevensSaid : Prop := civilSevensRow.holds Tryd.pinned (OpenSpec.ofChange civilSevensSpec)

/-- ITS FALSE NEIGHBOUR: 'it returns false'. Refute it at one input. -/
def civilSevensWrong : ChangeSpec := { name := "civilSevens", fn := fun _ => fun
  | [d] => { results := [.lit (.bool false)], args := [d] }
  | _ => none }
def CivilSevensWrongFalsely : Prop := civilSevensRow.holds Tryd.pinned (OpenSpec.ofChange civilSevensWrong)

/- THE SECOND FORM. 'bulk': how many values and letters a reading holds, each counted each time it is reached (what is shared counts as often as it is met; a slice's spare places count too). A statement '..UptoSaid' is the law's where the arguments, and the package variables that the reading takes, are together of bulk at most 1048576: NARROWER than '..Said'. Prove '..Said' where nothing that the law and all that it calls make is longer than what came in: it says more and counts as full. Else prove '..UptoSaid'. A law counts once. -/
mutual
def uptoBulk {H : Type} : DataW H → Nat
  | .lit (.string bytes) => bytes.length + 1
  | .lit _ => 1
  | .nil => 1
  | .ptr d => uptoBulk d + 1
  | .slice elems spare => uptoBulkAll elems + uptoBulkAll spare + 1
  | .agg parts => uptoBulkAll parts + 1
  | .iface _ d => uptoBulk d + 1
  | .map entries => uptoBulkEntries entries + 1
  | .held _ => 1
def uptoBulkAll {H : Type} : List (DataW H) → Nat
  | [] => 0
  | d :: r => uptoBulk d + uptoBulkAll r
def uptoBulkEntries {H : Type} : List (Lit × DataW H) → Nat
  | [] => 0
  | x :: r => uptoBulkEntry x + uptoBulkEntries r
def uptoBulkEntry {H : Type} : Lit × DataW H → Nat
  | (.string bytes, d) => bytes.length + uptoBulk d + 1
  | (_, d) => uptoBulk d + 1
 end
def uptoSmall : (H : Type) → List (DataW H) → Bool := fun _ ds => decide (uptoBulkAll ds ≤ 1048576)
def OpenSpec.upto (s : _root_.Go.ChangeSpec) : _root_.Go.OpenSpec := { _root_.Go.OpenSpec.ofChange s with cond := some uptoSmall }

/-- 'analemmalaw05.CivilCounts', WHERE WHAT IT READS IS OF BULK AT MOST 1048576: true; the input reads as it did. -/
def civilCountsUptoRow : OpenClaim := { program := "ytmmgppfopojnlaadoor", sum := "138367b12e36a21ac9f83445fbfc0139a04dbe3adb93534b1967cbc796902dac", func := "analemma/analemmalaw05.CivilCounts", spec := "civilCounts", named := ["analemma/civil.lengths"], apart := false, laid := [("analemma/civil.lengths", laid_analemma_civil_lengths)], narrowed := true }
def CivilCountsUptoSaid : Prop := civilCountsUptoRow.holds Tryd.pinned (OpenSpec.upto civilCountsSpec)

/-- 'analemmalaw05.CivilLengths', WHERE WHAT IT READS IS OF BULK AT MOST 1048576: true; the input reads as it did. -/
def civilLengthsUptoRow : OpenClaim := { program := "ytmmgppfopojnlaadoor", sum := "138367b12e36a21ac9f83445fbfc0139a04dbe3adb93534b1967cbc796902dac", func := "analemma/analemmalaw05.CivilLengths", spec := "civilLengths", named := ["analemma/civil.lengths"], apart := false, laid := [("analemma/civil.lengths", laid_analemma_civil_lengths)], narrowed := true }
def CivilLengthsUptoSaid : Prop := civilLengthsUptoRow.holds Tryd.pinned (OpenSpec.upto civilLengthsSpec)

/-- 'analemmalaw05.CivilWeeks', WHERE WHAT IT READS IS OF BULK AT MOST 1048576: true; the input reads as it did. -/
def civilWeeksUptoRow : OpenClaim := { program := "ytmmgppfopojnlaadoor", sum := "138367b12e36a21ac9f83445fbfc0139a04dbe3adb93534b1967cbc796902dac", func := "analemma/analemmalaw05.CivilWeeks", spec := "civilWeeks", named := ["analemma/civil.lengths"], apart := false, laid := [("analemma/civil.lengths", laid_analemma_civil_lengths)], narrowed := true }
def CivilWeeksUptoSaid : Prop := civilWeeksUptoRow.holds Tryd.pinned (OpenSpec.upto civilWeeksSpec)

/-- 'analemmalaw05.CivilRegulates', WHERE WHAT IT READS IS OF BULK AT MOST 1048576: true; the input reads as it did. -/
def civilRegulatesUptoRow : OpenClaim := { program := "ytmmgppfopojnlaadoor", sum := "138367b12e36a21ac9f83445fbfc0139a04dbe3adb93534b1967cbc796902dac", func := "analemma/analemmalaw05.CivilRegulates", spec := "civilRegulates", named := ["analemma/civil.lengths"], apart := false, laid := [("analemma/civil.lengths", laid_analemma_civil_lengths)], narrowed := true }
def CivilRegulatesUptoSaid : Prop := civilRegulatesUptoRow.holds Tryd.pinned (OpenSpec.upto civilRegulatesSpec)

/-- 'analemmalaw05.CivilAdds', WHERE WHAT IT READS IS OF BULK AT MOST 1048576: true; the input reads as it did. -/
def civilAddsUptoRow : OpenClaim := { program := "ytmmgppfopojnlaadoor", sum := "138367b12e36a21ac9f83445fbfc0139a04dbe3adb93534b1967cbc796902dac", func := "analemma/analemmalaw05.CivilAdds", spec := "civilAdds", named := ["analemma/civil.lengths"], apart := false, laid := [("analemma/civil.lengths", laid_analemma_civil_lengths)], narrowed := true }
def CivilAddsUptoSaid : Prop := civilAddsUptoRow.holds Tryd.pinned (OpenSpec.upto civilAddsSpec)

/-- 'analemmalaw05.CivilNext', WHERE WHAT IT READS IS OF BULK AT MOST 1048576: true; the input reads as it did. -/
def civilNextUptoRow : OpenClaim := { program := "ytmmgppfopojnlaadoor", sum := "138367b12e36a21ac9f83445fbfc0139a04dbe3adb93534b1967cbc796902dac", func := "analemma/analemmalaw05.CivilNext", spec := "civilNext", named := ["analemma/civil.lengths"], apart := false, laid := [("analemma/civil.lengths", laid_analemma_civil_lengths)], narrowed := true }
def CivilNextUptoSaid : Prop := civilNextUptoRow.holds Tryd.pinned (OpenSpec.upto civilNextSpec)

/-- 'analemmalaw05.CivilSevens', WHERE WHAT IT READS IS OF BULK AT MOST 1048576: true; the input reads as it did. -/
def civilSevensUptoRow : OpenClaim := { program := "ytmmgppfopojnlaadoor", sum := "138367b12e36a21ac9f83445fbfc0139a04dbe3adb93534b1967cbc796902dac", func := "analemma/analemmalaw05.CivilSevens", spec := "civilSevens", named := ["analemma/civil.lengths"], apart := false, laid := [("analemma/civil.lengths", laid_analemma_civil_lengths)], narrowed := true }
def CivilSevensUptoSaid : Prop := civilSevensUptoRow.holds Tryd.pinned (OpenSpec.upto civilSevensSpec)

end Rows
end Go.Proofs.YtmmgppfopojnlaaDoor
