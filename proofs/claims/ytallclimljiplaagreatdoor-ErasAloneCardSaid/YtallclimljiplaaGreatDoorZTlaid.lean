/- From the row's condition (the listed tables read as the program's text lays them) to what the walks of package eras ask of memory; a world that meets it. -/
import Derived.Test.YtallclimljiplaaGreatDoorZYhand
import Derived.Test.YtallclimljiplaaGreatDoorZElaid
import Derived.Test.YtallclimljiplaaGreatDoorZGtc
set_option maxRecDepth 100000
set_option maxHeartbeats 64000000
namespace Go.Proofs.YtallclimljiplaaGreatDoor
open Go.RowKit Go.WideShapes Go.ChangeShapes
def erasLaid : List (String × DataW Unit) := [("analemma/civil.lengths", Rows.laid_analemma_civil_lengths), ("math/bits.deBruijn32tab", Rows.laid_math_bits_deBruijn32tab), ("math/bits.deBruijn64tab", Rows.laid_math_bits_deBruijn64tab), ("internal/strconv.uint64pow10", Rows.laid_internal_strconv_uint64pow10), ("unicode/utf8.acceptRanges", Rows.laid_unicode_utf8_acceptRanges), ("unicode/utf8.first", Rows.laid_unicode_utf8_first)]
theorem eras_pow {W : World} (h : Lib.VarReads Tryz.prog W "internal/strconv.uint64pow10" Rows.laid_internal_strconv_uint64pow10) : Pow10 W :=
  tab_of_reads (g := 2) (zs := Lib.pow10Tab) (by kernel_rfl) (by kernel_rfl) Tryz.underlying150 Tryz.underlying92 (by kernel_rfl) (by kernel_rfl) h
theorem eras_max {W : World} (hsh : W.ShapedOpen Tryz.prog) : ∃ m, W.cell? ⟨0, 0, none⟩ = some (.int .i64 m) :=
  cell_of_shapedOpen_int (P := Tryz.prog) (g := 0) (t := 3) (zero := #[.int .i64 0]) hsh (of_decide_eq_true (by kernel_rfl)) (by kernel_rfl) rfl (by kernel_rfl) (by kernel_rfl) Tryz.underlying3
theorem eras_lens {W : World} {l : List (String × DataW Unit)} (e : (l.filter fun x => x.1 == "analemma/civil.lengths") = lensLaid) (h : laidMetH Tryz.prog l W) : Lens W := by
  have a := h.filter (fun x => x.1 == "analemma/civil.lengths")
  rw [e] at a
  exact lens_of_laid a
theorem eras_of_laid {W : World} (h : laidMetH Tryz.prog erasLaid W) (hsh : W.ShapedOpen Tryz.prog) : ErasM W := by
  have hl := eras_lens (by simp [erasLaid, lensLaid]) h
  obtain ⟨m, hm⟩ := eras_max hsh
  rw [MakeChecks.laidMetH_plain _ _ _ (by kernel_rfl)] at h
  exact ⟨hl, eras_pow (Lib.laidMet.reads h (by unfold erasLaid; simp)), cell_lt hm, m, hm⟩
theorem erasLaid_met (os : Os) (args : Array Value) : laidMetH Tryz.prog erasLaid ((World.laidAll Tryz.prog os erasLaid).forCall (fun _ _ => 0) ⟨#[], args, []⟩).memory := by
  rw [MakeChecks.laidMetH_plain _ _ _ (by kernel_rfl)]
  exact laidMet_laidAll _ (by kernel_rfl) (by kernel_rfl)
end Go.Proofs.YtallclimljiplaaGreatDoor
