/-
  NARROWER THAN 'FOR EVERY INPUT', by the rows' own cells (each row's printed sentence says how): SoundChecks: laid · SoundResolves: laid · SoundNames: laid · SoundParts: laid.
  DERIVED. THE GIVEN ROWS OF THIS SEAT. 4 by the template 'for every input the law returns true; each argument reads behind the call as it read before'; 0 by the template 'total and deterministic' (their statements: YtpbgddoicjjhnaaGreatDoorTotals.lean).
  GIVEN WITH THE SEED: the statements are not yours to turn. If you find one false, say at which input.
  Laid BY PROGRAM, IN A SANDBOX (cutbox-rows.mjs): the forced cells as the released guide's own fill.sh prints them over the translation a99176bf29466442… (all of the seat's roots in one cut). By AI agents, Wed Nov 11 2026. No macro, syntax, notation, axiom, sorry.
-/
import Derived.Test.YtpbgddoicjjhnaaGreatDoorChecked
import GoSem.PinnedTables
import GoSem.Claim
import GoSem.ClaimJoined
import GoSem.ClaimMapViews
import Derived.JoinedTies
import Derived.KernelRfl
namespace Go.Proofs.YtpbgddoicjjhnaaGreatDoor
/- THE CELL 'sum', in the pinned program and in every row, IS THE sha256 OF THE DUMP (.gsa) THAT YtpbgddoicjjhnaaGreatDoorProg.lean LOADS. Nothing in Lean hashes anything: it is a label: what it is worth is what the hold of that sum in a sandbox is worth. -/
noncomputable def Tryz.pinned : Pinned := { name := "ytpbgddoicjjhnaagreatdoor", sum := "a99176bf2946644236d14c5e1afce131360a2a08332369c2e2475c6ec6115272", checked := Tryz.checked }
namespace Rows
def none {H : Type} : Left H := { results := [], args := [] }

/- WHAT THE LISTED PACKAGE-LEVEL VARIABLES READ AS WHEN THE CALL BEGINS. Each datum BY PROGRAM (the guide's laid-datum.mjs) off the statement by which the dump's own 'gosem.cut.vars' lays the variable. In a bare row this is a premise. The card (YtpbgddoicjjhnaaGreatDoorCards.lean) ties it to the program's text. -/
def laid_analemma_civil_lengths {H : Type} : DataW H := .agg [.lit (.int .i64 31), .lit (.int .i64 28), .lit (.int .i64 31), .lit (.int .i64 30), .lit (.int .i64 31), .lit (.int .i64 30), .lit (.int .i64 31), .lit (.int .i64 31), .lit (.int .i64 30), .lit (.int .i64 31), .lit (.int .i64 30), .lit (.int .i64 31)]
def laid_unicode_utf8_acceptRanges {H : Type} : DataW H := .agg [.agg [.lit (.int .u8 128), .lit (.int .u8 191)], .agg [.lit (.int .u8 160), .lit (.int .u8 191)], .agg [.lit (.int .u8 128), .lit (.int .u8 159)], .agg [.lit (.int .u8 144), .lit (.int .u8 191)], .agg [.lit (.int .u8 128), .lit (.int .u8 143)], .agg [.lit (.int .u8 0), .lit (.int .u8 0)], .agg [.lit (.int .u8 0), .lit (.int .u8 0)], .agg [.lit (.int .u8 0), .lit (.int .u8 0)], .agg [.lit (.int .u8 0), .lit (.int .u8 0)], .agg [.lit (.int .u8 0), .lit (.int .u8 0)], .agg [.lit (.int .u8 0), .lit (.int .u8 0)], .agg [.lit (.int .u8 0), .lit (.int .u8 0)], .agg [.lit (.int .u8 0), .lit (.int .u8 0)], .agg [.lit (.int .u8 0), .lit (.int .u8 0)], .agg [.lit (.int .u8 0), .lit (.int .u8 0)], .agg [.lit (.int .u8 0), .lit (.int .u8 0)]]
/-- One of Go's own tables, pinned by name: the form's constant. -/
def laid_unicode_utf8_first : DataW Unit := Go.Pinned.utf8First

/-- 'analemmalaw13.SoundChecks': WHATEVER THE INPUT: true; the input reads as it did. -/
def soundChecksSpec : ChangeSpec := { name := "soundChecks", fn := fun _ => fun
  | [d] => { results := [.lit (.bool true)], args := [d] }
  | _ => none }
def soundChecksRow : OpenClaim := { program := "ytpbgddoicjjhnaagreatdoor", sum := "a99176bf2946644236d14c5e1afce131360a2a08332369c2e2475c6ec6115272", func := "analemma/analemmalaw13.SoundChecks", spec := "soundChecks", inPlace := ["internal/bytealg.IndexByteString", "internal/bytealg.IndexString"], unfollowed := true, recurses := true, named := ["unicode/utf8.first", "unicode/utf8.acceptRanges", "internal/bytealg.MaxLen", "analemma/civil.lengths"], apart := false, laid := [("analemma/civil.lengths", laid_analemma_civil_lengths), ("unicode/utf8.acceptRanges", laid_unicode_utf8_acceptRanges), ("unicode/utf8.first", laid_unicode_utf8_first)] }
def SoundChecksSaid : Prop := soundChecksRow.holds Tryz.pinned (OpenSpec.ofChange soundChecksSpec)

/-- ITS FALSE NEIGHBOUR: 'it returns false'. Refute it at one input. -/
def soundChecksWrong : ChangeSpec := { name := "soundChecks", fn := fun _ => fun
  | [d] => { results := [.lit (.bool false)], args := [d] }
  | _ => none }
def SoundChecksWrongFalsely : Prop := soundChecksRow.holds Tryz.pinned (OpenSpec.ofChange soundChecksWrong)

/-- 'analemmalaw13.SoundResolves': WHATEVER THE INPUT: true; the input reads as it did. -/
def soundResolvesSpec : ChangeSpec := { name := "soundResolves", fn := fun _ => fun
  | [d1, d2] => { results := [.lit (.bool true)], args := [d1, d2] }
  | _ => none }
def soundResolvesRow : OpenClaim := { program := "ytpbgddoicjjhnaagreatdoor", sum := "a99176bf2946644236d14c5e1afce131360a2a08332369c2e2475c6ec6115272", func := "analemma/analemmalaw13.SoundResolves", spec := "soundResolves", inPlace := ["internal/bytealg.IndexByteString", "internal/bytealg.IndexString"], unfollowed := true, recurses := true, named := ["unicode/utf8.first", "unicode/utf8.acceptRanges", "internal/bytealg.MaxLen", "analemma/civil.lengths"], apart := false, laid := [("analemma/civil.lengths", laid_analemma_civil_lengths), ("unicode/utf8.acceptRanges", laid_unicode_utf8_acceptRanges), ("unicode/utf8.first", laid_unicode_utf8_first)] }
def SoundResolvesSaid : Prop := soundResolvesRow.holds Tryz.pinned (OpenSpec.ofChange soundResolvesSpec)

/-- ITS FALSE NEIGHBOUR: 'it returns false'. Refute it at one input. -/
def soundResolvesWrong : ChangeSpec := { name := "soundResolves", fn := fun _ => fun
  | [d1, d2] => { results := [.lit (.bool false)], args := [d1, d2] }
  | _ => none }
def SoundResolvesWrongFalsely : Prop := soundResolvesRow.holds Tryz.pinned (OpenSpec.ofChange soundResolvesWrong)

/-- 'analemmalaw13.SoundNames': WHATEVER THE INPUT: true; the input reads as it did. -/
def soundNamesSpec : ChangeSpec := { name := "soundNames", fn := fun _ => fun
  | [d1, d2] => { results := [.lit (.bool true)], args := [d1, d2] }
  | _ => none }
def soundNamesRow : OpenClaim := { program := "ytpbgddoicjjhnaagreatdoor", sum := "a99176bf2946644236d14c5e1afce131360a2a08332369c2e2475c6ec6115272", func := "analemma/analemmalaw13.SoundNames", spec := "soundNames", inPlace := ["internal/bytealg.IndexByteString", "internal/bytealg.IndexString"], unfollowed := true, recurses := true, named := ["unicode/utf8.first", "unicode/utf8.acceptRanges", "internal/bytealg.MaxLen", "analemma/civil.lengths"], apart := false, laid := [("analemma/civil.lengths", laid_analemma_civil_lengths), ("unicode/utf8.acceptRanges", laid_unicode_utf8_acceptRanges), ("unicode/utf8.first", laid_unicode_utf8_first)] }
def SoundNamesSaid : Prop := soundNamesRow.holds Tryz.pinned (OpenSpec.ofChange soundNamesSpec)

/-- ITS FALSE NEIGHBOUR: 'it returns false'. Refute it at one input. -/
def soundNamesWrong : ChangeSpec := { name := "soundNames", fn := fun _ => fun
  | [d1, d2] => { results := [.lit (.bool false)], args := [d1, d2] }
  | _ => none }
def SoundNamesWrongFalsely : Prop := soundNamesRow.holds Tryz.pinned (OpenSpec.ofChange soundNamesWrong)

/-- 'analemmalaw13.SoundParts': WHATEVER THE INPUT: true; the input reads as it did. -/
def soundPartsSpec : ChangeSpec := { name := "soundParts", fn := fun _ => fun
  | [d1, d2] => { results := [.lit (.bool true)], args := [d1, d2] }
  | _ => none }
def soundPartsRow : OpenClaim := { program := "ytpbgddoicjjhnaagreatdoor", sum := "a99176bf2946644236d14c5e1afce131360a2a08332369c2e2475c6ec6115272", func := "analemma/analemmalaw13.SoundParts", spec := "soundParts", inPlace := ["internal/bytealg.IndexByteString", "internal/bytealg.IndexString"], unfollowed := true, recurses := true, named := ["unicode/utf8.first", "unicode/utf8.acceptRanges", "internal/bytealg.MaxLen", "analemma/civil.lengths"], apart := false, laid := [("analemma/civil.lengths", laid_analemma_civil_lengths), ("unicode/utf8.acceptRanges", laid_unicode_utf8_acceptRanges), ("unicode/utf8.first", laid_unicode_utf8_first)] }
def SoundPartsSaid : Prop := soundPartsRow.holds Tryz.pinned (OpenSpec.ofChange soundPartsSpec)

/-- ITS FALSE NEIGHBOUR: 'it returns false'. Refute it at one input. -/
def soundPartsWrong : ChangeSpec := { name := "soundParts", fn := fun _ => fun
  | [d1, d2] => { results := [.lit (.bool false)], args := [d1, d2] }
  | _ => none }
def SoundPartsWrongFalsely : Prop := soundPartsRow.holds Tryz.pinned (OpenSpec.ofChange soundPartsWrong)

/- THE SECOND FORM. 'bulk': how many values and letters a reading holds, each counted each time it is reached (what is shared counts as often as it is met; a slice's spare places count too). A statement '..UptoSaid' is the law's where the arguments, and the package variables that the reading takes, are together of bulk at most 1048576: NARROWER than '..Said'. Prove '..Said' where nothing that the law and all that it calls make is longer than what came in: it says more and counts as full. Else prove '..UptoSaid'. A law counts once. -/
mutual
def uptoBulk {H : Type} : DataW H → Nat
  | .lit (.string bytes) => bytes.length + 1
  | .lit _ => 1
  | .nil => 1
  | .ptr d => uptoBulk d + 1
  | .slice elems spare => uptoBulkAll elems + uptoBulkAll spare + 1
  | .agg parts => uptoBulkAll parts + 1
  | .iface _ d => uptoBulk d + 1
  | .map entries => uptoBulkEntries entries + 1
  | .held _ => 1
def uptoBulkAll {H : Type} : List (DataW H) → Nat
  | [] => 0
  | d :: r => uptoBulk d + uptoBulkAll r
def uptoBulkEntries {H : Type} : List (Lit × DataW H) → Nat
  | [] => 0
  | x :: r => uptoBulkEntry x + uptoBulkEntries r
def uptoBulkEntry {H : Type} : Lit × DataW H → Nat
  | (.string bytes, d) => bytes.length + uptoBulk d + 1
  | (_, d) => uptoBulk d + 1
 end
def uptoSmall : (H : Type) → List (DataW H) → Bool := fun _ ds => decide (uptoBulkAll ds ≤ 1048576)
def OpenSpec.upto (s : _root_.Go.ChangeSpec) : _root_.Go.OpenSpec := { _root_.Go.OpenSpec.ofChange s with cond := some uptoSmall }

/-- 'analemmalaw13.SoundChecks', WHERE WHAT IT READS IS OF BULK AT MOST 1048576: true; the input reads as it did. -/
def soundChecksUptoRow : OpenClaim := { program := "ytpbgddoicjjhnaagreatdoor", sum := "a99176bf2946644236d14c5e1afce131360a2a08332369c2e2475c6ec6115272", func := "analemma/analemmalaw13.SoundChecks", spec := "soundChecks", inPlace := ["internal/bytealg.IndexByteString", "internal/bytealg.IndexString"], unfollowed := true, recurses := true, named := ["unicode/utf8.first", "unicode/utf8.acceptRanges", "internal/bytealg.MaxLen", "analemma/civil.lengths"], apart := false, laid := [("analemma/civil.lengths", laid_analemma_civil_lengths), ("unicode/utf8.acceptRanges", laid_unicode_utf8_acceptRanges), ("unicode/utf8.first", laid_unicode_utf8_first)], narrowed := true }
def SoundChecksUptoSaid : Prop := soundChecksUptoRow.holds Tryz.pinned (OpenSpec.upto soundChecksSpec)

/-- 'analemmalaw13.SoundResolves', WHERE WHAT IT READS IS OF BULK AT MOST 1048576: true; the input reads as it did. -/
def soundResolvesUptoRow : OpenClaim := { program := "ytpbgddoicjjhnaagreatdoor", sum := "a99176bf2946644236d14c5e1afce131360a2a08332369c2e2475c6ec6115272", func := "analemma/analemmalaw13.SoundResolves", spec := "soundResolves", inPlace := ["internal/bytealg.IndexByteString", "internal/bytealg.IndexString"], unfollowed := true, recurses := true, named := ["unicode/utf8.first", "unicode/utf8.acceptRanges", "internal/bytealg.MaxLen", "analemma/civil.lengths"], apart := false, laid := [("analemma/civil.lengths", laid_analemma_civil_lengths), ("unicode/utf8.acceptRanges", laid_unicode_utf8_acceptRanges), ("unicode/utf8.first", laid_unicode_utf8_first)], narrowed := true }
def SoundResolvesUptoSaid : Prop := soundResolvesUptoRow.holds Tryz.pinned (OpenSpec.upto soundResolvesSpec)

/-- 'analemmalaw13.SoundNames', WHERE WHAT IT READS IS OF BULK AT MOST 1048576: true; the input reads as it did. -/
def soundNamesUptoRow : OpenClaim := { program := "ytpbgddoicjjhnaagreatdoor", sum := "a99176bf2946644236d14c5e1afce131360a2a08332369c2e2475c6ec6115272", func := "analemma/analemmalaw13.SoundNames", spec := "soundNames", inPlace := ["internal/bytealg.IndexByteString", "internal/bytealg.IndexString"], unfollowed := true, recurses := true, named := ["unicode/utf8.first", "unicode/utf8.acceptRanges", "internal/bytealg.MaxLen", "analemma/civil.lengths"], apart := false, laid := [("analemma/civil.lengths", laid_analemma_civil_lengths), ("unicode/utf8.acceptRanges", laid_unicode_utf8_acceptRanges), ("unicode/utf8.first", laid_unicode_utf8_first)], narrowed := true }
def SoundNamesUptoSaid : Prop := soundNamesUptoRow.holds Tryz.pinned (OpenSpec.upto soundNamesSpec)

/-- 'analemmalaw13.SoundParts', WHERE WHAT IT READS IS OF BULK AT MOST 1048576: true; the input reads as it did. -/
def soundPartsUptoRow : OpenClaim := { program := "ytpbgddoicjjhnaagreatdoor", sum := "a99176bf2946644236d14c5e1afce131360a2a08332369c2e2475c6ec6115272", func := "analemma/analemmalaw13.SoundParts", spec := "soundParts", inPlace := ["internal/bytealg.IndexByteString", "internal/bytealg.IndexString"], unfollowed := true, recurses := true, named := ["unicode/utf8.first", "unicode/utf8.acceptRanges", "internal/bytealg.MaxLen", "analemma/civil.lengths"], apart := false, laid := [("analemma/civil.lengths", laid_analemma_civil_lengths), ("unicode/utf8.acceptRanges", laid_unicode_utf8_acceptRanges), ("unicode/utf8.first", laid_unicode_utf8_first)], narrowed := true }
def SoundPartsUptoSaid : Prop := soundPartsUptoRow.holds Tryz.pinned (OpenSpec.upto soundPartsSpec)

end Rows
end Go.Proofs.YtpbgddoicjjhnaaGreatDoor
