/- From the row's condition (the listed tables read as the program's text lays them) to what the walks of package moment ask of memory; a world that meets it. -/
import Derived.Test.YtipohfaapiiopaaDoorYhand
import Derived.Test.YtipohfaapiiopaaDoorElaid
import Derived.Test.YtipohfaapiiopaaDoorYprt
namespace Go.Proofs.YtipohfaapiiopaaDoor
open Go.RowKit Go.WideShapes Go.ChangeShapes

/-- what the rows of layer 9 list: those that write nothing, those that do -/
def momLaid : List (String × DataW Unit) := [("analemma/civil.lengths", Rows.laid_analemma_civil_lengths), ("unicode/utf8.acceptRanges", Rows.laid_unicode_utf8_acceptRanges), ("analemma/moment.months", Rows.laid_analemma_moment_months), ("analemma/moment.weekdays", Rows.laid_analemma_moment_weekdays), ("unicode/utf8.first", Rows.laid_unicode_utf8_first)]
def momPLaid : List (String × DataW Unit) := [("analemma/civil.lengths", Rows.laid_analemma_civil_lengths), ("math/bits.deBruijn32tab", Rows.laid_math_bits_deBruijn32tab), ("math/bits.deBruijn64tab", Rows.laid_math_bits_deBruijn64tab), ("internal/strconv.uint64pow10", Rows.laid_internal_strconv_uint64pow10), ("unicode/utf8.acceptRanges", Rows.laid_unicode_utf8_acceptRanges), ("analemma/moment.months", Rows.laid_analemma_moment_months), ("analemma/moment.weekdays", Rows.laid_analemma_moment_weekdays), ("analemma/moment.letters", Rows.laid_analemma_moment_letters), ("unicode/utf8.first", Rows.laid_unicode_utf8_first)]
theorem cStr : Tryd.prog.cellsOf 9 = 1 := by kernel_rfl
theorem mom_mon {W : World} (h : Lib.VarReads Tryd.prog W "analemma/moment.months" Rows.laid_analemma_moment_months) : TabS 0 monB W :=
  have c := texts_of_reads (g := 0) (l := monB) (by kernel_rfl) (by kernel_rfl) Tryd.underlying58 cStr (by kernel_rfl) rfl h
  ⟨cell_lt (c 0 (by decide)), c⟩
theorem mom_wd {W : World} (h : Lib.VarReads Tryd.prog W "analemma/moment.weekdays" Rows.laid_analemma_moment_weekdays) : TabS 1 wdB W :=
  have c := texts_of_reads (g := 1) (l := wdB) (by kernel_rfl) (by kernel_rfl) Tryd.underlying60 cStr (by kernel_rfl) rfl h
  ⟨cell_lt (c 0 (by decide)), c⟩
theorem mom_let {W : World} (h : Lib.VarReads Tryd.prog W "analemma/moment.letters" Rows.laid_analemma_moment_letters) : TabS 2 letB W :=
  have c := texts_of_reads (g := 2) (l := letB) (by kernel_rfl) (by kernel_rfl) Tryd.underlying64 cStr (by kernel_rfl) rfl h
  ⟨cell_lt (c 0 (by decide)), c⟩
theorem mom_pow {W : World} (h : Lib.VarReads Tryd.prog W "internal/strconv.uint64pow10" Rows.laid_internal_strconv_uint64pow10) : Pow10 W :=
  tab_of_reads (g := 4) (zs := Lib.pow10Tab) (by kernel_rfl) (by kernel_rfl) Tryd.underlying107 Tryd.underlying73 (by kernel_rfl) (by kernel_rfl) h
theorem max_len {W : World} (hsh : W.ShapedOpen Tryd.prog) : ∃ m, W.cell? ⟨5, 0, none⟩ = some (.int .i64 m) :=
  cell_of_shapedOpen_int (P := Tryd.prog) (g := 5) (t := 3) (zero := #[.int .i64 0]) hsh (of_decide_eq_true (by kernel_rfl)) (by kernel_rfl) rfl (by kernel_rfl) (by kernel_rfl) Tryd.underlying3
theorem mom_of {W : World} (hl : Lens W) (h1 : Lib.VarReads Tryd.prog W "analemma/moment.months" Rows.laid_analemma_moment_months) (h2 : Lib.VarReads Tryd.prog W "analemma/moment.weekdays" Rows.laid_analemma_moment_weekdays) (hsh : W.ShapedOpen Tryd.prog) : Mom W := by
  obtain ⟨m, hm⟩ := max_len hsh
  exact ⟨hl, mom_mon h1, mom_wd h2, cell_lt hm, m, hm⟩
theorem lens_of_list {W : World} {l : List (String × DataW Unit)} (e : (l.filter fun x => x.1 == "analemma/civil.lengths") = lensLaid) (h : laidMetH Tryd.prog l W) : Lens W := by
  have a := h.filter (fun x => x.1 == "analemma/civil.lengths")
  rw [e] at a
  exact lens_of_laid a
theorem mom_of_laid {W : World} (h : laidMetH Tryd.prog momLaid W) (hsh : W.ShapedOpen Tryd.prog) : Mom W := by
  have hl := lens_of_list (by simp [momLaid, lensLaid]) h
  rw [MakeChecks.laidMetH_plain _ _ _ (by kernel_rfl)] at h
  exact mom_of hl (Lib.laidMet.reads h (by unfold momLaid; simp)) (Lib.laidMet.reads h (by unfold momLaid; simp)) hsh
theorem momP_of_laid {W : World} (h : laidMetH Tryd.prog momPLaid W) (hsh : W.ShapedOpen Tryd.prog) : MomP W := by
  have hl := lens_of_list (by simp [momPLaid, lensLaid]) h
  rw [MakeChecks.laidMetH_plain _ _ _ (by kernel_rfl)] at h
  exact ⟨mom_of hl (Lib.laidMet.reads h (by unfold momPLaid; simp)) (Lib.laidMet.reads h (by unfold momPLaid; simp)) hsh, mom_let (Lib.laidMet.reads h (by unfold momPLaid; simp)), mom_pow (Lib.laidMet.reads h (by unfold momPLaid; simp))⟩
set_option maxRecDepth 100000 in
theorem momLaid_met (os : Os) (args : Array Value) : laidMetH Tryd.prog momLaid ((World.laidAll Tryd.prog os momLaid).forCall (fun _ _ => 0) ⟨#[], args, []⟩).memory := by
  rw [MakeChecks.laidMetH_plain _ _ _ (by kernel_rfl)]
  exact laidMet_laidAll _ (by kernel_rfl) (by kernel_rfl)
set_option maxRecDepth 100000 in
theorem momPLaid_met (os : Os) (args : Array Value) : laidMetH Tryd.prog momPLaid ((World.laidAll Tryd.prog os momPLaid).forCall (fun _ _ => 0) ⟨#[], args, []⟩).memory := by
  rw [MakeChecks.laidMetH_plain _ _ _ (by kernel_rfl)]
  exact laidMet_laidAll _ (by kernel_rfl) (by kernel_rfl)
end Go.Proofs.YtipohfaapiiopaaDoor
