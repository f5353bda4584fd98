/- From the row's condition (the table of the fields' sizes reads as the program's text lays it) to what the walks ask of memory; the start that the program itself makes meets it. -/
import Derived.Test.YtlidicnbmfkghaaGreatDoorGk
import Derived.LaidMore
import Derived.OpenShut
import Derived.FnData
import Derived.ChangeArms
import Derived.LaidByTextLater
import Derived.LaidHandle
import Derived.Stop.Joined
namespace Go.Proofs.YtlidicnbmfkghaaGreatDoor
open Go.RowKit Go.WideShapes Go.ChangeShapes

/-- what the rows of layer 6 list -/
def sizesLaid : List (String × DataW Unit) := [("analemma/clock.sizes", Rows.laid_analemma_clock_sizes)]
theorem gSizes : Tryz.prog.globalNamed "analemma/clock.sizes" = some 0 := by kernel_rfl
theorem tSizes : (Tryz.prog.globals[0]?).map (·.type) = some 77 := by kernel_rfl
theorem cIntK : Tryz.prog.cellsOf 3 = 1 := by kernel_rfl
/-- the sizes as the table holds them -/
def sizeTab (k : Nat) : Int := if k = 0 then 24 else if k = 3 then 1000000000 else 60
theorem sizes_data (k : Nat) (hk : k < 4) : (([24, 60, 60, 1000000000] : List Int).map fun n => (DataW.lit (.int .i64 n) : DataW Unit))[k]? = some (.lit (.int .i64 (sizeTab k))) := by
  have : k = 0 ∨ k = 1 ∨ k = 2 ∨ k = 3 := by omega
  rcases this with rfl | rfl | rfl | rfl <;> rfl
theorem sizes_of_laid {W : World} (h : laidMetH Tryz.prog sizesLaid W) : Sizes W := by
  rw [MakeChecks.laidMetH_plain _ _ _ (by kernel_rfl)] at h
  obtain ⟨ps, ⟨g0, t0, cs0, f0, p0, q0, hg0, ht0, hv0, hd0, _, _⟩, _, _⟩ := h
  obtain rfl := Option.some.inj (gSizes.symm.trans hg0)
  obtain rfl := Option.some.inj (tSizes.symm.trans ht0)
  obtain ⟨xs, m1, rfl, hx1, hlen, hn, hel⟩ := DataW.trod_array Tryz.underlying77 hd0
  have hc := World.var?_cell hg0 hv0
  have key : ∀ k : Nat, k < 4 → W.cell? ⟨0, k, none⟩ = some (.int .i64 (sizeTab k)) := by
    intro k hk
    have e := hel k hk
    rw [cIntK, Nat.mul_one] at e
    have hd : xs.map (·.1) = ([24, 60, 60, 1000000000] : List Int).map fun n => (DataW.lit (.int .i64 n) : DataW Unit) := by
      have := congrArg Prod.fst hx1
      simpa [Rows.laid_analemma_clock_sizes] using this.symm
    have hk' : k < xs.length := by omega
    rw [List.getElem?_eq_getElem hk'] at e
    obtain ⟨n, e1, e2, _⟩ := DataW.trod_int Tryz.underlying3 e
    have e3 := sizes_data k hk
    rw [← hd, List.getElem?_map, List.getElem?_eq_getElem hk', e2] at e3
    have e4 : n = sizeTab k := by simpa using e3
    have e5 : cs0.toList[k]? = some (.int .i64 n) := by
      have := congrArg List.head? e1
      rw [List.head?_take, if_neg (by decide), List.head?_drop] at this
      simpa using this
    rw [hc k, ← e4]
    simpa using e5
  refine ⟨?_, key 0 (by decide), key 1 (by decide), key 2 (by decide), key 3 (by decide)⟩
  have c := key 0 (by decide)
  apply Classical.byContradiction
  intro hlt
  have hz : W.heap[0]? = none := Array.getElem?_eq_none (by omega)
  simp [World.cell?, hz] at c
/-- the heap that the program's own start leaves meets it -/
theorem sizes_met (os : Os) (args : Array Value) : laidMetH Tryz.prog sizesLaid ((World.doorLaid Tryz.prog 400 os).forCall (fun _ _ => 0) ⟨#[], args, []⟩).memory :=
  laidMetH_of_parts3 (fuel := 8) (laidMet_of_run' 8 (by kernel_rfl) (by kernel_rfl)) (by kernel_rfl) (by kernel_rfl)
end Go.Proofs.YtlidicnbmfkghaaGreatDoor
