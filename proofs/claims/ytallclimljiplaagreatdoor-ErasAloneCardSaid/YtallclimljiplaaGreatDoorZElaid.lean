/- From the row's condition (the table of the months' lengths reads as the program's text lays it) to what the walks ask of memory; the start that the program itself makes meets it. -/
import Derived.Test.YtallclimljiplaaGreatDoorZGe
import Derived.LaidMore
import Derived.OpenShut
import Derived.FnData
import Derived.ChangeArms
import Derived.LaidByTextLater
import Derived.LaidHandle
import Derived.Stop.Joined
set_option maxRecDepth 100000
set_option maxHeartbeats 64000000
namespace Go.Proofs.YtallclimljiplaaGreatDoor
open Go.RowKit Go.WideShapes Go.ChangeShapes
def lensLaid : List (String × DataW Unit) := [("analemma/civil.lengths", Rows.laid_analemma_civil_lengths)]
theorem gLens : Tryz.prog.globalNamed "analemma/civil.lengths" = some 1 := by kernel_rfl
theorem tLens : (Tryz.prog.globals[1]?).map (·.type) = some 128 := by kernel_rfl
theorem cInt : Tryz.prog.cellsOf 3 = 1 := by kernel_rfl
theorem lens_data (k : Nat) (hk : k < 12) : (([31, 28, 31, 30, 31, 30, 31, 31, 30, 31, 30, 31] : List Int).map fun n => (DataW.lit (.int .i64 n) : DataW Unit))[k]? = some (.lit (.int .i64 (lenTab k))) := by
  have : k = 0 ∨ k = 1 ∨ k = 2 ∨ k = 3 ∨ k = 4 ∨ k = 5 ∨ k = 6 ∨ k = 7 ∨ k = 8 ∨ k = 9 ∨ k = 10 ∨ k = 11 := by omega
  rcases this with rfl | rfl | rfl | rfl | rfl | rfl | rfl | rfl | rfl | rfl | rfl | rfl <;> rfl
theorem lens_of_laid {W : World} (h : laidMetH Tryz.prog lensLaid W) : Lens W := by
  rw [MakeChecks.laidMetH_plain _ _ _ (by kernel_rfl)] at h
  obtain ⟨ps, ⟨g0, t0, cs0, f0, p0, q0, hg0, ht0, hv0, hd0, _, _⟩, _, _⟩ := h
  obtain rfl := Option.some.inj (gLens.symm.trans hg0)
  obtain rfl := Option.some.inj (tLens.symm.trans ht0)
  obtain ⟨xs, m1, rfl, hx1, hlen, hn, hel⟩ := DataW.trod_array Tryz.underlying128 hd0
  have hc := World.var?_cell hg0 hv0
  have key : ∀ k : Nat, k < 12 → W.cell? ⟨1, k, none⟩ = some (.int .i64 (lenTab k)) := by
    intro k hk
    have e := hel k hk
    rw [cInt, Nat.mul_one] at e
    have hd : xs.map (·.1) = ([31, 28, 31, 30, 31, 30, 31, 31, 30, 31, 30, 31] : List Int).map fun n => (DataW.lit (.int .i64 n) : DataW Unit) := by
      have := congrArg Prod.fst hx1
      simpa [Rows.laid_analemma_civil_lengths] using this.symm
    have hk' : k < xs.length := by omega
    rw [List.getElem?_eq_getElem hk'] at e
    obtain ⟨n, e1, e2, _⟩ := DataW.trod_int Tryz.underlying3 e
    have e3 := lens_data k hk
    rw [← hd, List.getElem?_map, List.getElem?_eq_getElem hk', e2] at e3
    have e4 : n = lenTab k := by simpa using e3
    have e5 : cs0.toList[k]? = some (.int .i64 n) := by
      have := congrArg List.head? e1
      rw [List.head?_take, if_neg (by decide), List.head?_drop] at this
      simpa using this
    rw [hc k, ← e4]
    simpa using e5
  refine ⟨?_, key⟩
  have c := key 0 (by decide)
  apply Classical.byContradiction
  intro hlt
  have hz : W.heap[1]? = none := Array.getElem?_eq_none (by omega)
  simp [World.cell?, hz] at c
end Go.Proofs.YtallclimljiplaaGreatDoor
