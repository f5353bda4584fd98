/- From the row's condition (both tables read as the program's text lays them) to what the walks ask of memory; the start that the program itself makes meets it. -/
import Derived.Test.YtlidicnbmfkghaaGreatDoorElaid
import Derived.Test.YtlidicnbmfkghaaGreatDoorKlaid
import Derived.Test.YtlidicnbmfkghaaGreatDoorPtab
import Derived.LaidSub
namespace Go.Proofs.YtlidicnbmfkghaaGreatDoor
open Go.RowKit Go.WideShapes Go.ChangeShapes

/-- what the rows of layer 7 list -/
def tabsLaid : List (String × DataW Unit) := [("analemma/civil.lengths", Rows.laid_analemma_civil_lengths), ("analemma/clock.sizes", Rows.laid_analemma_clock_sizes)]
theorem tabs_of_laid {W : World} (h : laidMetH Tryz.prog tabsLaid W) : Tabs W := by
  have a := h.filter (fun x => x.1 == "analemma/civil.lengths")
  have b := h.filter (fun x => x.1 == "analemma/clock.sizes")
  rw [show (tabsLaid.filter fun x => x.1 == "analemma/civil.lengths") = lensLaid by simp [tabsLaid, lensLaid]] at a
  rw [show (tabsLaid.filter fun x => x.1 == "analemma/clock.sizes") = sizesLaid by simp [tabsLaid, sizesLaid]] at b
  exact ⟨lens_of_laid a, sizes_of_laid b⟩
/-- the heap that the program's own start leaves meets it -/
theorem tabs_met (os : Os) (args : Array Value) : laidMetH Tryz.prog tabsLaid ((World.doorLaid Tryz.prog 400 os).forCall (fun _ _ => 0) ⟨#[], args, []⟩).memory :=
  laidMetH_of_parts3 (fuel := 8) (laidMet_of_run' 8 (by kernel_rfl) (by kernel_rfl)) (by kernel_rfl) (by kernel_rfl)
end Go.Proofs.YtlidicnbmfkghaaGreatDoor
