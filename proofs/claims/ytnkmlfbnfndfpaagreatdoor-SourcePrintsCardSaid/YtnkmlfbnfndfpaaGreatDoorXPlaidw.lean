/- From the row's condition to what the walks of package source ask of memory where it writes too; a world that meets it. -/
import Derived.Test.YtnkmlfbnfndfpaaGreatDoorXZlaid
import Derived.Test.YtnkmlfbnfndfpaaGreatDoorXPprint
set_option maxRecDepth 100000
set_option maxHeartbeats 64000000
namespace Go.Proofs.YtnkmlfbnfndfpaaGreatDoor
open Go.RowKit Go.WideShapes Go.ChangeShapes
def srcWLaid : List (String × DataW Unit) := [("math/bits.deBruijn32tab", Rows.laid_math_bits_deBruijn32tab), ("math/bits.deBruijn64tab", Rows.laid_math_bits_deBruijn64tab), ("internal/strconv.uint64pow10", Rows.laid_internal_strconv_uint64pow10), ("unicode/utf8.acceptRanges", Rows.laid_unicode_utf8_acceptRanges), ("strconv.ErrRange", Rows.laid_strconv_ErrRange), ("strconv.ErrSyntax", Rows.laid_strconv_ErrSyntax), ("analemma/moment.months", Rows.laid_analemma_moment_months), ("analemma/moment.weekdays", Rows.laid_analemma_moment_weekdays), ("analemma/moment.letters", Rows.laid_analemma_moment_letters), ("unicode/utf8.first", Rows.laid_unicode_utf8_first)]
theorem srcw_let {W : World} (h : Lib.VarReads Tryz.prog W "analemma/moment.letters" Rows.laid_analemma_moment_letters) : TabS 1 letB W :=
  have c := texts_of_reads (g := 1) (l := letB) (by kernel_rfl) (by kernel_rfl) Tryz.underlying167 cStr (by kernel_rfl) rfl h
  ⟨cell_lt (c 0 (by decide)), c⟩
theorem srcw_pow {W : World} (h : Lib.VarReads Tryz.prog W "internal/strconv.uint64pow10" Rows.laid_internal_strconv_uint64pow10) : Pow10 W :=
  tab_of_reads (g := 6) (zs := Lib.pow10Tab) (by kernel_rfl) (by kernel_rfl) Tryz.underlying202 Tryz.underlying145 (by kernel_rfl) (by kernel_rfl) h
theorem srcw_of_laid {W : World} (h : laidMetH Tryz.prog srcWLaid W) (hsh : W.ShapedOpen Tryz.prog) : SrcP W := by
  obtain ⟨m, hm⟩ := max_len hsh
  rw [MakeChecks.laidMetH_plain _ _ _ (by kernel_rfl)] at h
  obtain ⟨s1, s2⟩ := err_of_reads (g := 7) (t := 116) (by kernel_rfl) (by kernel_rfl) Tryz.underlying116 (Lib.laidMet.reads h (n := "strconv.ErrSyntax") (d := Rows.laid_strconv_ErrSyntax) (by unfold srcWLaid; simp))
  obtain ⟨r1, r2⟩ := err_of_reads (g := 8) (t := 116) (by kernel_rfl) (by kernel_rfl) Tryz.underlying116 (Lib.laidMet.reads h (n := "strconv.ErrRange") (d := Rows.laid_strconv_ErrRange) (by unfold srcWLaid; simp))
  exact ⟨⟨⟨⟨⟩, mom_mon (Lib.laidMet.reads h (by unfold srcWLaid; simp)), mom_wd (Lib.laidMet.reads h (by unfold srcWLaid; simp)), cell_lt hm, m, hm⟩, srcw_let (Lib.laidMet.reads h (by unfold srcWLaid; simp)), srcw_pow (Lib.laidMet.reads h (by unfold srcWLaid; simp))⟩, ⟨s1, s2, r1, r2⟩⟩
theorem srcWLaid_met (os : Os) (args : Array Value) : laidMetH Tryz.prog srcWLaid ((World.laidAll Tryz.prog os srcWLaid).forCall (fun _ _ => 0) ⟨#[], args, []⟩).memory := by
  rw [MakeChecks.laidMetH_plain _ _ _ (by kernel_rfl)]
  exact laidMet_laidAll _ (by kernel_rfl) (by kernel_rfl)
end Go.Proofs.YtnkmlfbnfndfpaaGreatDoor
