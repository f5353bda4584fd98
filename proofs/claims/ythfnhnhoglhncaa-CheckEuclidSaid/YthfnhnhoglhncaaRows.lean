/-
  No cell of these rows narrows 'for every input' (looked for: loops, veiled, ifaces, maps, wideKeys, modest, calm, conditions, laid).
  DERIVED. THE GIVEN ROWS OF THIS SEAT. 7 by the template 'for every input the law returns true; each argument reads behind the call as it read before'; 0 by the template 'total and deterministic' (their statements: YthfnhnhoglhncaaTotals.lean).
  GIVEN WITH THE SEED: the statements are not yours to turn. If you find one false, say at which input.
  Laid BY PROGRAM, IN A SANDBOX (cutbox-rows.mjs): the forced cells as the released guide's own fill.sh prints them over the translation df8db4f9a8228eb4… (all of the seat's roots in one cut). By AI agents, Wed Nov 11 2026. No macro, syntax, notation, axiom, sorry.
-/
import Derived.Test.YthfnhnhoglhncaaChecked
import GoSem.Claim
import GoSem.ClaimJoined
import GoSem.ClaimMapViews
import Derived.JoinedTies
import Derived.KernelRfl
namespace Go.Proofs.Ythfnhnhoglhncaa
/- THE CELL 'sum', in the pinned program and in every row, IS THE sha256 OF THE DUMP (.gsa) THAT YthfnhnhoglhncaaProg.lean LOADS. Nothing in Lean hashes anything: it is a label: what it is worth is what the hold of that sum in a sandbox is worth. -/
noncomputable def Try.pinned : Pinned := { name := "ythfnhnhoglhncaa", sum := "df8db4f9a8228eb40d49ae1cfde263c4792c68d2afef6ad3e39278c0b8a607b4", checked := Try.checked }
namespace Rows
def none {H : Type} : Left H := { results := [], args := [] }

/-- 'analemmalaw01.CheckSums': WHATEVER THE INPUT: true; the input reads as it did. -/
def checkSumsSpec : ChangeSpec := { name := "checkSums", fn := fun _ => fun
  | [d1, d2] => { results := [.lit (.bool true)], args := [d1, d2] }
  | _ => none }
def checkSumsRow : OpenClaim := { program := "ythfnhnhoglhncaa", sum := "df8db4f9a8228eb40d49ae1cfde263c4792c68d2afef6ad3e39278c0b8a607b4", func := "analemma/analemmalaw01.CheckSums", spec := "checkSums", apart := false }
def CheckSumsSaid : Prop := checkSumsRow.holds Try.pinned (OpenSpec.ofChange checkSumsSpec)

/-- ITS FALSE NEIGHBOUR: 'it returns false'. Refute it at one input. -/
def checkSumsWrong : ChangeSpec := { name := "checkSums", fn := fun _ => fun
  | [d1, d2] => { results := [.lit (.bool false)], args := [d1, d2] }
  | _ => none }
def CheckSumsWrongFalsely : Prop := checkSumsRow.holds Try.pinned (OpenSpec.ofChange checkSumsWrong)

/-- 'analemmalaw01.CheckProducts': WHATEVER THE INPUT: true; the input reads as it did. -/
def checkProductsSpec : ChangeSpec := { name := "checkProducts", fn := fun _ => fun
  | [d1, d2] => { results := [.lit (.bool true)], args := [d1, d2] }
  | _ => none }
def checkProductsRow : OpenClaim := { program := "ythfnhnhoglhncaa", sum := "df8db4f9a8228eb40d49ae1cfde263c4792c68d2afef6ad3e39278c0b8a607b4", func := "analemma/analemmalaw01.CheckProducts", spec := "checkProducts", apart := false }
def CheckProductsSaid : Prop := checkProductsRow.holds Try.pinned (OpenSpec.ofChange checkProductsSpec)

/-- ITS FALSE NEIGHBOUR: 'it returns false'. Refute it at one input. -/
def checkProductsWrong : ChangeSpec := { name := "checkProducts", fn := fun _ => fun
  | [d1, d2] => { results := [.lit (.bool false)], args := [d1, d2] }
  | _ => none }
def CheckProductsWrongFalsely : Prop := checkProductsRow.holds Try.pinned (OpenSpec.ofChange checkProductsWrong)

/-- 'analemmalaw01.CheckSigns': WHATEVER THE INPUT: true; the input reads as it did. -/
def checkSignsSpec : ChangeSpec := { name := "checkSigns", fn := fun _ => fun
  | [d] => { results := [.lit (.bool true)], args := [d] }
  | _ => none }
def checkSignsRow : OpenClaim := { program := "ythfnhnhoglhncaa", sum := "df8db4f9a8228eb40d49ae1cfde263c4792c68d2afef6ad3e39278c0b8a607b4", func := "analemma/analemmalaw01.CheckSigns", spec := "checkSigns", apart := false }
def CheckSignsSaid : Prop := checkSignsRow.holds Try.pinned (OpenSpec.ofChange checkSignsSpec)

/-- ITS FALSE NEIGHBOUR: 'it returns false'. Refute it at one input. -/
def checkSignsWrong : ChangeSpec := { name := "checkSigns", fn := fun _ => fun
  | [d] => { results := [.lit (.bool false)], args := [d] }
  | _ => none }
def CheckSignsWrongFalsely : Prop := checkSignsRow.holds Try.pinned (OpenSpec.ofChange checkSignsWrong)

/-- 'analemmalaw01.CheckDivs': WHATEVER THE INPUT: true; the input reads as it did. -/
def checkDivsSpec : ChangeSpec := { name := "checkDivs", fn := fun _ => fun
  | [d1, d2] => { results := [.lit (.bool true)], args := [d1, d2] }
  | _ => none }
def checkDivsRow : OpenClaim := { program := "ythfnhnhoglhncaa", sum := "df8db4f9a8228eb40d49ae1cfde263c4792c68d2afef6ad3e39278c0b8a607b4", func := "analemma/analemmalaw01.CheckDivs", spec := "checkDivs", apart := false }
def CheckDivsSaid : Prop := checkDivsRow.holds Try.pinned (OpenSpec.ofChange checkDivsSpec)

/-- ITS FALSE NEIGHBOUR: 'it returns false'. Refute it at one input. -/
def checkDivsWrong : ChangeSpec := { name := "checkDivs", fn := fun _ => fun
  | [d1, d2] => { results := [.lit (.bool false)], args := [d1, d2] }
  | _ => none }
def CheckDivsWrongFalsely : Prop := checkDivsRow.holds Try.pinned (OpenSpec.ofChange checkDivsWrong)

/-- 'analemmalaw01.CheckEuclid': WHATEVER THE INPUT: true; the input reads as it did. -/
def checkEuclidSpec : ChangeSpec := { name := "checkEuclid", fn := fun _ => fun
  | [d1, d2] => { results := [.lit (.bool true)], args := [d1, d2] }
  | _ => none }
def checkEuclidRow : OpenClaim := { program := "ythfnhnhoglhncaa", sum := "df8db4f9a8228eb40d49ae1cfde263c4792c68d2afef6ad3e39278c0b8a607b4", func := "analemma/analemmalaw01.CheckEuclid", spec := "checkEuclid", apart := false }
def CheckEuclidSaid : Prop := checkEuclidRow.holds Try.pinned (OpenSpec.ofChange checkEuclidSpec)

/-- ITS FALSE NEIGHBOUR: 'it returns false'. Refute it at one input. -/
def checkEuclidWrong : ChangeSpec := { name := "checkEuclid", fn := fun _ => fun
  | [d1, d2] => { results := [.lit (.bool false)], args := [d1, d2] }
  | _ => none }
def CheckEuclidWrongFalsely : Prop := checkEuclidRow.holds Try.pinned (OpenSpec.ofChange checkEuclidWrong)

/-- 'analemmalaw01.CheckBack': WHATEVER THE INPUT: true; the input reads as it did. -/
def checkBackSpec : ChangeSpec := { name := "checkBack", fn := fun _ => fun
  | [d1, d2] => { results := [.lit (.bool true)], args := [d1, d2] }
  | _ => none }
def checkBackRow : OpenClaim := { program := "ythfnhnhoglhncaa", sum := "df8db4f9a8228eb40d49ae1cfde263c4792c68d2afef6ad3e39278c0b8a607b4", func := "analemma/analemmalaw01.CheckBack", spec := "checkBack", apart := false }
def CheckBackSaid : Prop := checkBackRow.holds Try.pinned (OpenSpec.ofChange checkBackSpec)

/-- ITS FALSE NEIGHBOUR: 'it returns false'. Refute it at one input. -/
def checkBackWrong : ChangeSpec := { name := "checkBack", fn := fun _ => fun
  | [d1, d2] => { results := [.lit (.bool false)], args := [d1, d2] }
  | _ => none }
def CheckBackWrongFalsely : Prop := checkBackRow.holds Try.pinned (OpenSpec.ofChange checkBackWrong)

/-- 'analemmalaw01.CheckRests': WHATEVER THE INPUT: true; the input reads as it did. -/
def checkRestsSpec : ChangeSpec := { name := "checkRests", fn := fun _ => fun
  | [d1, d2] => { results := [.lit (.bool true)], args := [d1, d2] }
  | _ => none }
def checkRestsRow : OpenClaim := { program := "ythfnhnhoglhncaa", sum := "df8db4f9a8228eb40d49ae1cfde263c4792c68d2afef6ad3e39278c0b8a607b4", func := "analemma/analemmalaw01.CheckRests", spec := "checkRests", apart := false }
def CheckRestsSaid : Prop := checkRestsRow.holds Try.pinned (OpenSpec.ofChange checkRestsSpec)

/-- ITS FALSE NEIGHBOUR: 'it returns false'. Refute it at one input. -/
def checkRestsWrong : ChangeSpec := { name := "checkRests", fn := fun _ => fun
  | [d1, d2] => { results := [.lit (.bool false)], args := [d1, d2] }
  | _ => none }
def CheckRestsWrongFalsely : Prop := checkRestsRow.holds Try.pinned (OpenSpec.ofChange checkRestsWrong)

/- THE SECOND FORM. 'bulk': how many values and letters a reading holds, each counted each time it is reached (what is shared counts as often as it is met; a slice's spare places count too). A statement '..UptoSaid' is the law's where the arguments, and the package variables that the reading takes, are together of bulk at most 1048576: NARROWER than '..Said'. Prove '..Said' where nothing that the law and all that it calls make is longer than what came in: it says more and counts as full. Else prove '..UptoSaid'. A law counts once. -/
mutual
def uptoBulk {H : Type} : DataW H → Nat
  | .lit (.string bytes) => bytes.length + 1
  | .lit _ => 1
  | .nil => 1
  | .ptr d => uptoBulk d + 1
  | .slice elems spare => uptoBulkAll elems + uptoBulkAll spare + 1
  | .agg parts => uptoBulkAll parts + 1
  | .iface _ d => uptoBulk d + 1
  | .map entries => uptoBulkEntries entries + 1
  | .held _ => 1
def uptoBulkAll {H : Type} : List (DataW H) → Nat
  | [] => 0
  | d :: r => uptoBulk d + uptoBulkAll r
def uptoBulkEntries {H : Type} : List (Lit × DataW H) → Nat
  | [] => 0
  | x :: r => uptoBulkEntry x + uptoBulkEntries r
def uptoBulkEntry {H : Type} : Lit × DataW H → Nat
  | (.string bytes, d) => bytes.length + uptoBulk d + 1
  | (_, d) => uptoBulk d + 1
 end
def uptoSmall : (H : Type) → List (DataW H) → Bool := fun _ ds => decide (uptoBulkAll ds ≤ 1048576)
def OpenSpec.upto (s : _root_.Go.ChangeSpec) : _root_.Go.OpenSpec := { _root_.Go.OpenSpec.ofChange s with cond := some uptoSmall }

/-- 'analemmalaw01.CheckSums', WHERE WHAT IT READS IS OF BULK AT MOST 1048576: true; the input reads as it did. -/
def checkSumsUptoRow : OpenClaim := { program := "ythfnhnhoglhncaa", sum := "df8db4f9a8228eb40d49ae1cfde263c4792c68d2afef6ad3e39278c0b8a607b4", func := "analemma/analemmalaw01.CheckSums", spec := "checkSums", apart := false, narrowed := true }
def CheckSumsUptoSaid : Prop := checkSumsUptoRow.holds Try.pinned (OpenSpec.upto checkSumsSpec)

/-- 'analemmalaw01.CheckProducts', WHERE WHAT IT READS IS OF BULK AT MOST 1048576: true; the input reads as it did. -/
def checkProductsUptoRow : OpenClaim := { program := "ythfnhnhoglhncaa", sum := "df8db4f9a8228eb40d49ae1cfde263c4792c68d2afef6ad3e39278c0b8a607b4", func := "analemma/analemmalaw01.CheckProducts", spec := "checkProducts", apart := false, narrowed := true }
def CheckProductsUptoSaid : Prop := checkProductsUptoRow.holds Try.pinned (OpenSpec.upto checkProductsSpec)

/-- 'analemmalaw01.CheckSigns', WHERE WHAT IT READS IS OF BULK AT MOST 1048576: true; the input reads as it did. -/
def checkSignsUptoRow : OpenClaim := { program := "ythfnhnhoglhncaa", sum := "df8db4f9a8228eb40d49ae1cfde263c4792c68d2afef6ad3e39278c0b8a607b4", func := "analemma/analemmalaw01.CheckSigns", spec := "checkSigns", apart := false, narrowed := true }
def CheckSignsUptoSaid : Prop := checkSignsUptoRow.holds Try.pinned (OpenSpec.upto checkSignsSpec)

/-- 'analemmalaw01.CheckDivs', WHERE WHAT IT READS IS OF BULK AT MOST 1048576: true; the input reads as it did. -/
def checkDivsUptoRow : OpenClaim := { program := "ythfnhnhoglhncaa", sum := "df8db4f9a8228eb40d49ae1cfde263c4792c68d2afef6ad3e39278c0b8a607b4", func := "analemma/analemmalaw01.CheckDivs", spec := "checkDivs", apart := false, narrowed := true }
def CheckDivsUptoSaid : Prop := checkDivsUptoRow.holds Try.pinned (OpenSpec.upto checkDivsSpec)

/-- 'analemmalaw01.CheckEuclid', WHERE WHAT IT READS IS OF BULK AT MOST 1048576: true; the input reads as it did. -/
def checkEuclidUptoRow : OpenClaim := { program := "ythfnhnhoglhncaa", sum := "df8db4f9a8228eb40d49ae1cfde263c4792c68d2afef6ad3e39278c0b8a607b4", func := "analemma/analemmalaw01.CheckEuclid", spec := "checkEuclid", apart := false, narrowed := true }
def CheckEuclidUptoSaid : Prop := checkEuclidUptoRow.holds Try.pinned (OpenSpec.upto checkEuclidSpec)

/-- 'analemmalaw01.CheckBack', WHERE WHAT IT READS IS OF BULK AT MOST 1048576: true; the input reads as it did. -/
def checkBackUptoRow : OpenClaim := { program := "ythfnhnhoglhncaa", sum := "df8db4f9a8228eb40d49ae1cfde263c4792c68d2afef6ad3e39278c0b8a607b4", func := "analemma/analemmalaw01.CheckBack", spec := "checkBack", apart := false, narrowed := true }
def CheckBackUptoSaid : Prop := checkBackUptoRow.holds Try.pinned (OpenSpec.upto checkBackSpec)

/-- 'analemmalaw01.CheckRests', WHERE WHAT IT READS IS OF BULK AT MOST 1048576: true; the input reads as it did. -/
def checkRestsUptoRow : OpenClaim := { program := "ythfnhnhoglhncaa", sum := "df8db4f9a8228eb40d49ae1cfde263c4792c68d2afef6ad3e39278c0b8a607b4", func := "analemma/analemmalaw01.CheckRests", spec := "checkRests", apart := false, narrowed := true }
def CheckRestsUptoSaid : Prop := checkRestsUptoRow.holds Try.pinned (OpenSpec.upto checkRestsSpec)

end Rows
end Go.Proofs.Ythfnhnhoglhncaa
