/-
  NARROWER THAN 'FOR EVERY INPUT', by the rows' own cells (each row's printed sentence says how): MomentNames: laid · MomentClocks: laid · MomentParses: laid · MomentPrints: laid · MomentDays: laid · MomentBack: laid · MomentWeeks: laid.
  DERIVED. THE GIVEN ROWS OF THIS SEAT. 7 by the template 'for every input the law returns true; each argument reads behind the call as it read before'; 0 by the template 'total and deterministic' (their statements: YtipohfaapiiopaaDoorTotals.lean).
  GIVEN WITH THE SEED: the statements are not yours to turn. If you find one false, say at which input.
  Laid BY PROGRAM, IN A SANDBOX (cutbox-rows.mjs): the forced cells as the released guide's own fill.sh prints them over the translation f53198192ef142d9… (all of the seat's roots in one cut). By AI agents, Wed Nov 11 2026. No macro, syntax, notation, axiom, sorry.
-/
import Derived.Test.YtipohfaapiiopaaDoorChecked
import GoSem.PinnedTables
import GoSem.Claim
import GoSem.ClaimJoined
import GoSem.ClaimMapViews
import Derived.JoinedTies
import Derived.KernelRfl
namespace Go.Proofs.YtipohfaapiiopaaDoor
/- THE CELL 'sum', in the pinned program and in every row, IS THE sha256 OF THE DUMP (.gsa) THAT YtipohfaapiiopaaDoorProg.lean LOADS. Nothing in Lean hashes anything: it is a label: what it is worth is what the hold of that sum in a sandbox is worth. -/
noncomputable def Tryd.pinned : Pinned := { name := "ytipohfaapiiopaadoor", sum := "f53198192ef142d995d9196f059534b3145c8009248ba829328c8bf03d152ca6", checked := Tryd.checked }
namespace Rows
def none {H : Type} : Left H := { results := [], args := [] }

/- WHAT THE LISTED PACKAGE-LEVEL VARIABLES READ AS WHEN THE CALL BEGINS. Each datum BY PROGRAM (the guide's laid-datum.mjs) off the statement by which the dump's own 'gosem.cut.vars' lays the variable. In a bare row this is a premise. The card (YtipohfaapiiopaaDoorCards.lean) ties it to the program's text. -/
def laid_analemma_civil_lengths {H : Type} : DataW H := .agg [.lit (.int .i64 31), .lit (.int .i64 28), .lit (.int .i64 31), .lit (.int .i64 30), .lit (.int .i64 31), .lit (.int .i64 30), .lit (.int .i64 31), .lit (.int .i64 31), .lit (.int .i64 30), .lit (.int .i64 31), .lit (.int .i64 30), .lit (.int .i64 31)]
def laid_unicode_utf8_acceptRanges {H : Type} : DataW H := .agg [.agg [.lit (.int .u8 128), .lit (.int .u8 191)], .agg [.lit (.int .u8 160), .lit (.int .u8 191)], .agg [.lit (.int .u8 128), .lit (.int .u8 159)], .agg [.lit (.int .u8 144), .lit (.int .u8 191)], .agg [.lit (.int .u8 128), .lit (.int .u8 143)], .agg [.lit (.int .u8 0), .lit (.int .u8 0)], .agg [.lit (.int .u8 0), .lit (.int .u8 0)], .agg [.lit (.int .u8 0), .lit (.int .u8 0)], .agg [.lit (.int .u8 0), .lit (.int .u8 0)], .agg [.lit (.int .u8 0), .lit (.int .u8 0)], .agg [.lit (.int .u8 0), .lit (.int .u8 0)], .agg [.lit (.int .u8 0), .lit (.int .u8 0)], .agg [.lit (.int .u8 0), .lit (.int .u8 0)], .agg [.lit (.int .u8 0), .lit (.int .u8 0)], .agg [.lit (.int .u8 0), .lit (.int .u8 0)], .agg [.lit (.int .u8 0), .lit (.int .u8 0)]]
def laid_analemma_moment_months {H : Type} : DataW H := .agg [.lit (.string [74, 97, 110, 117, 97, 114, 121]), .lit (.string [70, 101, 98, 114, 117, 97, 114, 121]), .lit (.string [77, 97, 114, 99, 104]), .lit (.string [65, 112, 114, 105, 108]), .lit (.string [77, 97, 121]), .lit (.string [74, 117, 110, 101]), .lit (.string [74, 117, 108, 121]), .lit (.string [65, 117, 103, 117, 115, 116]), .lit (.string [83, 101, 112, 116, 101, 109, 98, 101, 114]), .lit (.string [79, 99, 116, 111, 98, 101, 114]), .lit (.string [78, 111, 118, 101, 109, 98, 101, 114]), .lit (.string [68, 101, 99, 101, 109, 98, 101, 114])]
def laid_analemma_moment_weekdays {H : Type} : DataW H := .agg [.lit (.string [77, 111, 110, 100, 97, 121]), .lit (.string [84, 117, 101, 115, 100, 97, 121]), .lit (.string [87, 101, 100, 110, 101, 115, 100, 97, 121]), .lit (.string [84, 104, 117, 114, 115, 100, 97, 121]), .lit (.string [70, 114, 105, 100, 97, 121]), .lit (.string [83, 97, 116, 117, 114, 100, 97, 121]), .lit (.string [83, 117, 110, 100, 97, 121])]
/-- One of Go's own tables, pinned by name: the form's constant. -/
def laid_unicode_utf8_first : DataW Unit := Go.Pinned.utf8First
def laid_math_bits_deBruijn32tab {H : Type} : DataW H := .agg [.lit (.int .u8 0), .lit (.int .u8 1), .lit (.int .u8 28), .lit (.int .u8 2), .lit (.int .u8 29), .lit (.int .u8 14), .lit (.int .u8 24), .lit (.int .u8 3), .lit (.int .u8 30), .lit (.int .u8 22), .lit (.int .u8 20), .lit (.int .u8 15), .lit (.int .u8 25), .lit (.int .u8 17), .lit (.int .u8 4), .lit (.int .u8 8), .lit (.int .u8 31), .lit (.int .u8 27), .lit (.int .u8 13), .lit (.int .u8 23), .lit (.int .u8 21), .lit (.int .u8 19), .lit (.int .u8 16), .lit (.int .u8 7), .lit (.int .u8 26), .lit (.int .u8 12), .lit (.int .u8 18), .lit (.int .u8 6), .lit (.int .u8 11), .lit (.int .u8 5), .lit (.int .u8 10), .lit (.int .u8 9)]
def laid_math_bits_deBruijn64tab {H : Type} : DataW H := .agg [.lit (.int .u8 0), .lit (.int .u8 1), .lit (.int .u8 56), .lit (.int .u8 2), .lit (.int .u8 57), .lit (.int .u8 49), .lit (.int .u8 28), .lit (.int .u8 3), .lit (.int .u8 61), .lit (.int .u8 58), .lit (.int .u8 42), .lit (.int .u8 50), .lit (.int .u8 38), .lit (.int .u8 29), .lit (.int .u8 17), .lit (.int .u8 4), .lit (.int .u8 62), .lit (.int .u8 47), .lit (.int .u8 59), .lit (.int .u8 36), .lit (.int .u8 45), .lit (.int .u8 43), .lit (.int .u8 51), .lit (.int .u8 22), .lit (.int .u8 53), .lit (.int .u8 39), .lit (.int .u8 33), .lit (.int .u8 30), .lit (.int .u8 24), .lit (.int .u8 18), .lit (.int .u8 12), .lit (.int .u8 5), .lit (.int .u8 63), .lit (.int .u8 55), .lit (.int .u8 48), .lit (.int .u8 27), .lit (.int .u8 60), .lit (.int .u8 41), .lit (.int .u8 37), .lit (.int .u8 16), .lit (.int .u8 46), .lit (.int .u8 35), .lit (.int .u8 44), .lit (.int .u8 21), .lit (.int .u8 52), .lit (.int .u8 32), .lit (.int .u8 23), .lit (.int .u8 11), .lit (.int .u8 54), .lit (.int .u8 26), .lit (.int .u8 40), .lit (.int .u8 15), .lit (.int .u8 34), .lit (.int .u8 20), .lit (.int .u8 31), .lit (.int .u8 10), .lit (.int .u8 25), .lit (.int .u8 14), .lit (.int .u8 19), .lit (.int .u8 9), .lit (.int .u8 13), .lit (.int .u8 8), .lit (.int .u8 7), .lit (.int .u8 6)]
def laid_internal_strconv_uint64pow10 {H : Type} : DataW H := .agg [.lit (.int .u64 1), .lit (.int .u64 10), .lit (.int .u64 100), .lit (.int .u64 1000), .lit (.int .u64 10000), .lit (.int .u64 100000), .lit (.int .u64 1000000), .lit (.int .u64 10000000), .lit (.int .u64 100000000), .lit (.int .u64 1000000000), .lit (.int .u64 10000000000), .lit (.int .u64 100000000000), .lit (.int .u64 1000000000000), .lit (.int .u64 10000000000000), .lit (.int .u64 100000000000000), .lit (.int .u64 1000000000000000), .lit (.int .u64 10000000000000000), .lit (.int .u64 100000000000000000), .lit (.int .u64 1000000000000000000), .lit (.int .u64 10000000000000000000)]
def laid_analemma_moment_letters {H : Type} : DataW H := .agg [.lit (.string []), .lit (.string [115]), .lit (.string [117])]

/-- 'analemmalaw09.MomentNames': WHATEVER THE INPUT: true; the input reads as it did. -/
def momentNamesSpec : ChangeSpec := { name := "momentNames", fn := fun _ => fun
  | [d] => { results := [.lit (.bool true)], args := [d] }
  | _ => none }
def momentNamesRow : OpenClaim := { program := "ytipohfaapiiopaadoor", sum := "f53198192ef142d995d9196f059534b3145c8009248ba829328c8bf03d152ca6", func := "analemma/analemmalaw09.MomentNames", spec := "momentNames", inPlace := ["internal/bytealg.CountString", "internal/bytealg.IndexByteString", "internal/bytealg.IndexString"], unfollowed := true, recurses := true, named := ["analemma/moment.months", "analemma/moment.weekdays", "unicode/utf8.first", "unicode/utf8.acceptRanges", "internal/bytealg.MaxLen", "analemma/civil.lengths"], apart := false, laid := [("analemma/civil.lengths", laid_analemma_civil_lengths), ("unicode/utf8.acceptRanges", laid_unicode_utf8_acceptRanges), ("analemma/moment.months", laid_analemma_moment_months), ("analemma/moment.weekdays", laid_analemma_moment_weekdays), ("unicode/utf8.first", laid_unicode_utf8_first)] }
def MomentNamesSaid : Prop := momentNamesRow.holds Tryd.pinned (OpenSpec.ofChange momentNamesSpec)

/-- ITS FALSE NEIGHBOUR: 'it returns false'. Refute it at one input. -/
def momentNamesWrong : ChangeSpec := { name := "momentNames", fn := fun _ => fun
  | [d] => { results := [.lit (.bool false)], args := [d] }
  | _ => none }
def MomentNamesWrongFalsely : Prop := momentNamesRow.holds Tryd.pinned (OpenSpec.ofChange momentNamesWrong)

/-- 'analemmalaw09.MomentClocks': WHATEVER THE INPUT: true; the input reads as it did. -/
def momentClocksSpec : ChangeSpec := { name := "momentClocks", fn := fun _ => fun
  | [d] => { results := [.lit (.bool true)], args := [d] }
  | _ => none }
def momentClocksRow : OpenClaim := { program := "ytipohfaapiiopaadoor", sum := "f53198192ef142d995d9196f059534b3145c8009248ba829328c8bf03d152ca6", func := "analemma/analemmalaw09.MomentClocks", spec := "momentClocks", inPlace := ["internal/bytealg.CountString", "internal/bytealg.IndexByteString", "internal/bytealg.IndexString"], unfollowed := true, recurses := true, named := ["unicode/utf8.first", "unicode/utf8.acceptRanges", "internal/bytealg.MaxLen", "analemma/moment.weekdays", "analemma/moment.months", "analemma/civil.lengths"], apart := false, laid := [("analemma/civil.lengths", laid_analemma_civil_lengths), ("unicode/utf8.acceptRanges", laid_unicode_utf8_acceptRanges), ("analemma/moment.months", laid_analemma_moment_months), ("analemma/moment.weekdays", laid_analemma_moment_weekdays), ("unicode/utf8.first", laid_unicode_utf8_first)] }
def MomentClocksSaid : Prop := momentClocksRow.holds Tryd.pinned (OpenSpec.ofChange momentClocksSpec)

/-- ITS FALSE NEIGHBOUR: 'it returns false'. Refute it at one input. -/
def momentClocksWrong : ChangeSpec := { name := "momentClocks", fn := fun _ => fun
  | [d] => { results := [.lit (.bool false)], args := [d] }
  | _ => none }
def MomentClocksWrongFalsely : Prop := momentClocksRow.holds Tryd.pinned (OpenSpec.ofChange momentClocksWrong)

/-- 'analemmalaw09.MomentParses': WHATEVER THE INPUT: true; the input reads as it did. -/
def momentParsesSpec : ChangeSpec := { name := "momentParses", fn := fun _ => fun
  | [d] => { results := [.lit (.bool true)], args := [d] }
  | _ => none }
def momentParsesRow : OpenClaim := { program := "ytipohfaapiiopaadoor", sum := "f53198192ef142d995d9196f059534b3145c8009248ba829328c8bf03d152ca6", func := "analemma/analemmalaw09.MomentParses", spec := "momentParses", inPlace := ["internal/bytealg.CountString", "internal/bytealg.IndexByteString", "internal/bytealg.IndexString"], unfollowed := true, recurses := true, named := ["unicode/utf8.first", "unicode/utf8.acceptRanges", "internal/bytealg.MaxLen", "analemma/moment.weekdays", "analemma/moment.months", "analemma/civil.lengths"], apart := false, laid := [("analemma/civil.lengths", laid_analemma_civil_lengths), ("unicode/utf8.acceptRanges", laid_unicode_utf8_acceptRanges), ("analemma/moment.months", laid_analemma_moment_months), ("analemma/moment.weekdays", laid_analemma_moment_weekdays), ("unicode/utf8.first", laid_unicode_utf8_first)] }
def MomentParsesSaid : Prop := momentParsesRow.holds Tryd.pinned (OpenSpec.ofChange momentParsesSpec)

/-- ITS FALSE NEIGHBOUR: 'it returns false'. Refute it at one input. -/
def momentParsesWrong : ChangeSpec := { name := "momentParses", fn := fun _ => fun
  | [d] => { results := [.lit (.bool false)], args := [d] }
  | _ => none }
def MomentParsesWrongFalsely : Prop := momentParsesRow.holds Tryd.pinned (OpenSpec.ofChange momentParsesWrong)

/-- 'analemmalaw09.MomentPrints': WHATEVER THE INPUT: true; the input reads as it did. -/
def momentPrintsSpec : ChangeSpec := { name := "momentPrints", fn := fun _ => fun
  | [d1, d2] => { results := [.lit (.bool true)], args := [d1, d2] }
  | _ => none }
def momentPrintsRow : OpenClaim := { program := "ytipohfaapiiopaadoor", sum := "f53198192ef142d995d9196f059534b3145c8009248ba829328c8bf03d152ca6", func := "analemma/analemmalaw09.MomentPrints", spec := "momentPrints", inPlace := ["internal/bytealg.CountString", "internal/bytealg.IndexByteString", "internal/bytealg.IndexString"], unfollowed := true, recurses := true, named := ["analemma/moment.months", "analemma/moment.letters", "analemma/moment.weekdays", "internal/strconv.uint64pow10", "math/bits.deBruijn32tab", "math/bits.deBruijn64tab", "unicode/utf8.first", "unicode/utf8.acceptRanges", "internal/bytealg.MaxLen", "analemma/civil.lengths"], apart := false, laid := [("analemma/civil.lengths", laid_analemma_civil_lengths), ("math/bits.deBruijn32tab", laid_math_bits_deBruijn32tab), ("math/bits.deBruijn64tab", laid_math_bits_deBruijn64tab), ("internal/strconv.uint64pow10", laid_internal_strconv_uint64pow10), ("unicode/utf8.acceptRanges", laid_unicode_utf8_acceptRanges), ("analemma/moment.months", laid_analemma_moment_months), ("analemma/moment.weekdays", laid_analemma_moment_weekdays), ("analemma/moment.letters", laid_analemma_moment_letters), ("unicode/utf8.first", laid_unicode_utf8_first)] }
def MomentPrintsSaid : Prop := momentPrintsRow.holds Tryd.pinned (OpenSpec.ofChange momentPrintsSpec)

/-- ITS FALSE NEIGHBOUR: 'it returns false'. Refute it at one input. -/
def momentPrintsWrong : ChangeSpec := { name := "momentPrints", fn := fun _ => fun
  | [d1, d2] => { results := [.lit (.bool false)], args := [d1, d2] }
  | _ => none }
def MomentPrintsWrongFalsely : Prop := momentPrintsRow.holds Tryd.pinned (OpenSpec.ofChange momentPrintsWrong)

/-- 'analemmalaw09.MomentDays': WHATEVER THE INPUT: true; the input reads as it did. -/
def momentDaysSpec : ChangeSpec := { name := "momentDays", fn := fun _ => fun
  | [d1, d2] => { results := [.lit (.bool true)], args := [d1, d2] }
  | _ => none }
def momentDaysRow : OpenClaim := { program := "ytipohfaapiiopaadoor", sum := "f53198192ef142d995d9196f059534b3145c8009248ba829328c8bf03d152ca6", func := "analemma/analemmalaw09.MomentDays", spec := "momentDays", inPlace := ["internal/bytealg.CountString", "internal/bytealg.IndexByteString", "internal/bytealg.IndexString"], unfollowed := true, recurses := true, named := ["analemma/civil.lengths", "unicode/utf8.first", "unicode/utf8.acceptRanges", "internal/bytealg.MaxLen", "analemma/moment.weekdays", "analemma/moment.months"], apart := false, laid := [("analemma/civil.lengths", laid_analemma_civil_lengths), ("unicode/utf8.acceptRanges", laid_unicode_utf8_acceptRanges), ("analemma/moment.months", laid_analemma_moment_months), ("analemma/moment.weekdays", laid_analemma_moment_weekdays), ("unicode/utf8.first", laid_unicode_utf8_first)] }
def MomentDaysSaid : Prop := momentDaysRow.holds Tryd.pinned (OpenSpec.ofChange momentDaysSpec)

/-- ITS FALSE NEIGHBOUR: 'it returns false'. Refute it at one input. -/
def momentDaysWrong : ChangeSpec := { name := "momentDays", fn := fun _ => fun
  | [d1, d2] => { results := [.lit (.bool false)], args := [d1, d2] }
  | _ => none }
def MomentDaysWrongFalsely : Prop := momentDaysRow.holds Tryd.pinned (OpenSpec.ofChange momentDaysWrong)

/-- 'analemmalaw09.MomentBack': WHATEVER THE INPUT: true; the input reads as it did. -/
def momentBackSpec : ChangeSpec := { name := "momentBack", fn := fun _ => fun
  | [d] => { results := [.lit (.bool true)], args := [d] }
  | _ => none }
def momentBackRow : OpenClaim := { program := "ytipohfaapiiopaadoor", sum := "f53198192ef142d995d9196f059534b3145c8009248ba829328c8bf03d152ca6", func := "analemma/analemmalaw09.MomentBack", spec := "momentBack", inPlace := ["internal/bytealg.CountString", "internal/bytealg.IndexByteString", "internal/bytealg.IndexString"], unfollowed := true, recurses := true, named := ["analemma/moment.months", "analemma/moment.letters", "analemma/moment.weekdays", "internal/strconv.uint64pow10", "math/bits.deBruijn32tab", "math/bits.deBruijn64tab", "unicode/utf8.first", "unicode/utf8.acceptRanges", "internal/bytealg.MaxLen", "analemma/civil.lengths"], apart := false, laid := [("analemma/civil.lengths", laid_analemma_civil_lengths), ("math/bits.deBruijn32tab", laid_math_bits_deBruijn32tab), ("math/bits.deBruijn64tab", laid_math_bits_deBruijn64tab), ("internal/strconv.uint64pow10", laid_internal_strconv_uint64pow10), ("unicode/utf8.acceptRanges", laid_unicode_utf8_acceptRanges), ("analemma/moment.months", laid_analemma_moment_months), ("analemma/moment.weekdays", laid_analemma_moment_weekdays), ("analemma/moment.letters", laid_analemma_moment_letters), ("unicode/utf8.first", laid_unicode_utf8_first)] }
def MomentBackSaid : Prop := momentBackRow.holds Tryd.pinned (OpenSpec.ofChange momentBackSpec)

/-- ITS FALSE NEIGHBOUR: 'it returns false'. Refute it at one input. -/
def momentBackWrong : ChangeSpec := { name := "momentBack", fn := fun _ => fun
  | [d] => { results := [.lit (.bool false)], args := [d] }
  | _ => none }
def MomentBackWrongFalsely : Prop := momentBackRow.holds Tryd.pinned (OpenSpec.ofChange momentBackWrong)

/-- 'analemmalaw09.MomentWeeks': WHATEVER THE INPUT: true; the input reads as it did. -/
def momentWeeksSpec : ChangeSpec := { name := "momentWeeks", fn := fun _ => fun
  | [d1, d2] => { results := [.lit (.bool true)], args := [d1, d2] }
  | _ => none }
def momentWeeksRow : OpenClaim := { program := "ytipohfaapiiopaadoor", sum := "f53198192ef142d995d9196f059534b3145c8009248ba829328c8bf03d152ca6", func := "analemma/analemmalaw09.MomentWeeks", spec := "momentWeeks", inPlace := ["internal/bytealg.CountString", "internal/bytealg.IndexByteString", "internal/bytealg.IndexString"], unfollowed := true, recurses := true, named := ["unicode/utf8.first", "unicode/utf8.acceptRanges", "internal/bytealg.MaxLen", "analemma/moment.weekdays", "analemma/moment.months", "analemma/civil.lengths"], apart := false, laid := [("analemma/civil.lengths", laid_analemma_civil_lengths), ("unicode/utf8.acceptRanges", laid_unicode_utf8_acceptRanges), ("analemma/moment.months", laid_analemma_moment_months), ("analemma/moment.weekdays", laid_analemma_moment_weekdays), ("unicode/utf8.first", laid_unicode_utf8_first)] }
def MomentWeeksSaid : Prop := momentWeeksRow.holds Tryd.pinned (OpenSpec.ofChange momentWeeksSpec)

/-- ITS FALSE NEIGHBOUR: 'it returns false'. Refute it at one input. -/
def momentWeeksWrong : ChangeSpec := { name := "momentWeeks", fn := fun _ => fun
  | [d1, d2] => { results := [.lit (.bool false)], args := [d1, d2] }
  | _ => none }
def MomentWeeksWrongFalsely : Prop := momentWeeksRow.holds Tryd.pinned (OpenSpec.ofChange momentWeeksWrong)

/- THE SECOND FORM. 'bulk': how many values and letters a reading holds, each counted each time it is reached (what is shared counts as often as it is met; a slice's spare places count too). A statement '..UptoSaid' is the law's where the arguments, and the package variables that the reading takes, are together of bulk at most 1048576: NARROWER than '..Said'. Prove '..Said' where nothing that the law and all that it calls make is longer than what came in: it says more and counts as full. Else prove '..UptoSaid'. A law counts once. -/
mutual
def uptoBulk {H : Type} : DataW H → Nat
  | .lit (.string bytes) => bytes.length + 1
  | .lit _ => 1
  | .nil => 1
  | .ptr d => uptoBulk d + 1
  | .slice elems spare => uptoBulkAll elems + uptoBulkAll spare + 1
  | .agg parts => uptoBulkAll parts + 1
  | .iface _ d => uptoBulk d + 1
  | .map entries => uptoBulkEntries entries + 1
  | .held _ => 1
def uptoBulkAll {H : Type} : List (DataW H) → Nat
  | [] => 0
  | d :: r => uptoBulk d + uptoBulkAll r
def uptoBulkEntries {H : Type} : List (Lit × DataW H) → Nat
  | [] => 0
  | x :: r => uptoBulkEntry x + uptoBulkEntries r
def uptoBulkEntry {H : Type} : Lit × DataW H → Nat
  | (.string bytes, d) => bytes.length + uptoBulk d + 1
  | (_, d) => uptoBulk d + 1
 end
def uptoSmall : (H : Type) → List (DataW H) → Bool := fun _ ds => decide (uptoBulkAll ds ≤ 1048576)
def OpenSpec.upto (s : _root_.Go.ChangeSpec) : _root_.Go.OpenSpec := { _root_.Go.OpenSpec.ofChange s with cond := some uptoSmall }

/-- 'analemmalaw09.MomentNames', WHERE WHAT IT READS IS OF BULK AT MOST 1048576: true; the input reads as it did. -/
def momentNamesUptoRow : OpenClaim := { program := "ytipohfaapiiopaadoor", sum := "f53198192ef142d995d9196f059534b3145c8009248ba829328c8bf03d152ca6", func := "analemma/analemmalaw09.MomentNames", spec := "momentNames", inPlace := ["internal/bytealg.CountString", "internal/bytealg.IndexByteString", "internal/bytealg.IndexString"], unfollowed := true, recurses := true, named := ["analemma/moment.months", "analemma/moment.weekdays", "unicode/utf8.first", "unicode/utf8.acceptRanges", "internal/bytealg.MaxLen", "analemma/civil.lengths"], apart := false, laid := [("analemma/civil.lengths", laid_analemma_civil_lengths), ("unicode/utf8.acceptRanges", laid_unicode_utf8_acceptRanges), ("analemma/moment.months", laid_analemma_moment_months), ("analemma/moment.weekdays", laid_analemma_moment_weekdays), ("unicode/utf8.first", laid_unicode_utf8_first)], narrowed := true }
def MomentNamesUptoSaid : Prop := momentNamesUptoRow.holds Tryd.pinned (OpenSpec.upto momentNamesSpec)

/-- 'analemmalaw09.MomentClocks', WHERE WHAT IT READS IS OF BULK AT MOST 1048576: true; the input reads as it did. -/
def momentClocksUptoRow : OpenClaim := { program := "ytipohfaapiiopaadoor", sum := "f53198192ef142d995d9196f059534b3145c8009248ba829328c8bf03d152ca6", func := "analemma/analemmalaw09.MomentClocks", spec := "momentClocks", inPlace := ["internal/bytealg.CountString", "internal/bytealg.IndexByteString", "internal/bytealg.IndexString"], unfollowed := true, recurses := true, named := ["unicode/utf8.first", "unicode/utf8.acceptRanges", "internal/bytealg.MaxLen", "analemma/moment.weekdays", "analemma/moment.months", "analemma/civil.lengths"], apart := false, laid := [("analemma/civil.lengths", laid_analemma_civil_lengths), ("unicode/utf8.acceptRanges", laid_unicode_utf8_acceptRanges), ("analemma/moment.months", laid_analemma_moment_months), ("analemma/moment.weekdays", laid_analemma_moment_weekdays), ("unicode/utf8.first", laid_unicode_utf8_first)], narrowed := true }
def MomentClocksUptoSaid : Prop := momentClocksUptoRow.holds Tryd.pinned (OpenSpec.upto momentClocksSpec)

/-- 'analemmalaw09.MomentParses', WHERE WHAT IT READS IS OF BULK AT MOST 1048576: true; the input reads as it did. -/
def momentParsesUptoRow : OpenClaim := { program := "ytipohfaapiiopaadoor", sum := "f53198192ef142d995d9196f059534b3145c8009248ba829328c8bf03d152ca6", func := "analemma/analemmalaw09.MomentParses", spec := "momentParses", inPlace := ["internal/bytealg.CountString", "internal/bytealg.IndexByteString", "internal/bytealg.IndexString"], unfollowed := true, recurses := true, named := ["unicode/utf8.first", "unicode/utf8.acceptRanges", "internal/bytealg.MaxLen", "analemma/moment.weekdays", "analemma/moment.months", "analemma/civil.lengths"], apart := false, laid := [("analemma/civil.lengths", laid_analemma_civil_lengths), ("unicode/utf8.acceptRanges", laid_unicode_utf8_acceptRanges), ("analemma/moment.months", laid_analemma_moment_months), ("analemma/moment.weekdays", laid_analemma_moment_weekdays), ("unicode/utf8.first", laid_unicode_utf8_first)], narrowed := true }
def MomentParsesUptoSaid : Prop := momentParsesUptoRow.holds Tryd.pinned (OpenSpec.upto momentParsesSpec)

/-- 'analemmalaw09.MomentPrints', WHERE WHAT IT READS IS OF BULK AT MOST 1048576: true; the input reads as it did. -/
def momentPrintsUptoRow : OpenClaim := { program := "ytipohfaapiiopaadoor", sum := "f53198192ef142d995d9196f059534b3145c8009248ba829328c8bf03d152ca6", func := "analemma/analemmalaw09.MomentPrints", spec := "momentPrints", inPlace := ["internal/bytealg.CountString", "internal/bytealg.IndexByteString", "internal/bytealg.IndexString"], unfollowed := true, recurses := true, named := ["analemma/moment.months", "analemma/moment.letters", "analemma/moment.weekdays", "internal/strconv.uint64pow10", "math/bits.deBruijn32tab", "math/bits.deBruijn64tab", "unicode/utf8.first", "unicode/utf8.acceptRanges", "internal/bytealg.MaxLen", "analemma/civil.lengths"], apart := false, laid := [("analemma/civil.lengths", laid_analemma_civil_lengths), ("math/bits.deBruijn32tab", laid_math_bits_deBruijn32tab), ("math/bits.deBruijn64tab", laid_math_bits_deBruijn64tab), ("internal/strconv.uint64pow10", laid_internal_strconv_uint64pow10), ("unicode/utf8.acceptRanges", laid_unicode_utf8_acceptRanges), ("analemma/moment.months", laid_analemma_moment_months), ("analemma/moment.weekdays", laid_analemma_moment_weekdays), ("analemma/moment.letters", laid_analemma_moment_letters), ("unicode/utf8.first", laid_unicode_utf8_first)], narrowed := true }
def MomentPrintsUptoSaid : Prop := momentPrintsUptoRow.holds Tryd.pinned (OpenSpec.upto momentPrintsSpec)

/-- 'analemmalaw09.MomentDays', WHERE WHAT IT READS IS OF BULK AT MOST 1048576: true; the input reads as it did. -/
def momentDaysUptoRow : OpenClaim := { program := "ytipohfaapiiopaadoor", sum := "f53198192ef142d995d9196f059534b3145c8009248ba829328c8bf03d152ca6", func := "analemma/analemmalaw09.MomentDays", spec := "momentDays", inPlace := ["internal/bytealg.CountString", "internal/bytealg.IndexByteString", "internal/bytealg.IndexString"], unfollowed := true, recurses := true, named := ["analemma/civil.lengths", "unicode/utf8.first", "unicode/utf8.acceptRanges", "internal/bytealg.MaxLen", "analemma/moment.weekdays", "analemma/moment.months"], apart := false, laid := [("analemma/civil.lengths", laid_analemma_civil_lengths), ("unicode/utf8.acceptRanges", laid_unicode_utf8_acceptRanges), ("analemma/moment.months", laid_analemma_moment_months), ("analemma/moment.weekdays", laid_analemma_moment_weekdays), ("unicode/utf8.first", laid_unicode_utf8_first)], narrowed := true }
def MomentDaysUptoSaid : Prop := momentDaysUptoRow.holds Tryd.pinned (OpenSpec.upto momentDaysSpec)

/-- 'analemmalaw09.MomentBack', WHERE WHAT IT READS IS OF BULK AT MOST 1048576: true; the input reads as it did. -/
def momentBackUptoRow : OpenClaim := { program := "ytipohfaapiiopaadoor", sum := "f53198192ef142d995d9196f059534b3145c8009248ba829328c8bf03d152ca6", func := "analemma/analemmalaw09.MomentBack", spec := "momentBack", inPlace := ["internal/bytealg.CountString", "internal/bytealg.IndexByteString", "internal/bytealg.IndexString"], unfollowed := true, recurses := true, named := ["analemma/moment.months", "analemma/moment.letters", "analemma/moment.weekdays", "internal/strconv.uint64pow10", "math/bits.deBruijn32tab", "math/bits.deBruijn64tab", "unicode/utf8.first", "unicode/utf8.acceptRanges", "internal/bytealg.MaxLen", "analemma/civil.lengths"], apart := false, laid := [("analemma/civil.lengths", laid_analemma_civil_lengths), ("math/bits.deBruijn32tab", laid_math_bits_deBruijn32tab), ("math/bits.deBruijn64tab", laid_math_bits_deBruijn64tab), ("internal/strconv.uint64pow10", laid_internal_strconv_uint64pow10), ("unicode/utf8.acceptRanges", laid_unicode_utf8_acceptRanges), ("analemma/moment.months", laid_analemma_moment_months), ("analemma/moment.weekdays", laid_analemma_moment_weekdays), ("analemma/moment.letters", laid_analemma_moment_letters), ("unicode/utf8.first", laid_unicode_utf8_first)], narrowed := true }
def MomentBackUptoSaid : Prop := momentBackUptoRow.holds Tryd.pinned (OpenSpec.upto momentBackSpec)

/-- 'analemmalaw09.MomentWeeks', WHERE WHAT IT READS IS OF BULK AT MOST 1048576: true; the input reads as it did. -/
def momentWeeksUptoRow : OpenClaim := { program := "ytipohfaapiiopaadoor", sum := "f53198192ef142d995d9196f059534b3145c8009248ba829328c8bf03d152ca6", func := "analemma/analemmalaw09.MomentWeeks", spec := "momentWeeks", inPlace := ["internal/bytealg.CountString", "internal/bytealg.IndexByteString", "internal/bytealg.IndexString"], unfollowed := true, recurses := true, named := ["unicode/utf8.first", "unicode/utf8.acceptRanges", "internal/bytealg.MaxLen", "analemma/moment.weekdays", "analemma/moment.months", "analemma/civil.lengths"], apart := false, laid := [("analemma/civil.lengths", laid_analemma_civil_lengths), ("unicode/utf8.acceptRanges", laid_unicode_utf8_acceptRanges), ("analemma/moment.months", laid_analemma_moment_months), ("analemma/moment.weekdays", laid_analemma_moment_weekdays), ("unicode/utf8.first", laid_unicode_utf8_first)], narrowed := true }
def MomentWeeksUptoSaid : Prop := momentWeeksUptoRow.holds Tryd.pinned (OpenSpec.upto momentWeeksSpec)

end Rows
end Go.Proofs.YtipohfaapiiopaaDoor
