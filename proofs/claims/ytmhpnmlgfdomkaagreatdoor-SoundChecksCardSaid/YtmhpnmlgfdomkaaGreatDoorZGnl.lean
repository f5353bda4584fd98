import Derived.Test.YtmhpnmlgfdomkaaGreatDoorZGe
import Derived.LaidMore
import Derived.OpenShut
import Derived.FnData
import Derived.ChangeArms
import Derived.LaidByTextLater
import Derived.LaidHandle
import Derived.Stop.Joined
import Derived.Test.YtmhpnmlgfdomkaaGreatDoorZYhand
import Derived.Test.YtmhpnmlgfdomkaaGreatDoorZGtc
set_option maxRecDepth 100000
set_option maxHeartbeats 64000000
namespace Go.Proofs.YtmhpnmlgfdomkaaGreatDoor
open Go.RowKit Go.WideShapes Go.ChangeShapes
def lensLaid : List (String × DataW Unit) := [("analemma/civil.lengths", Rows.laid_analemma_civil_lengths)]
theorem gLens : Tryz.prog.globalNamed "analemma/civil.lengths" = some 3 := by kernel_rfl
theorem tLens : (Tryz.prog.globals[3]?).map (·.type) = some 176 := by kernel_rfl
theorem cInt : Tryz.prog.cellsOf 3 = 1 := by kernel_rfl
theorem lens_data (k : Nat) (hk : k < 12) : (([31, 28, 31, 30, 31, 30, 31, 31, 30, 31, 30, 31] : List Int).map fun n => (DataW.lit (.int .i64 n) : DataW Unit))[k]? = some (.lit (.int .i64 (lenTab k))) := by
  have : k = 0 ∨ k = 1 ∨ k = 2 ∨ k = 3 ∨ k = 4 ∨ k = 5 ∨ k = 6 ∨ k = 7 ∨ k = 8 ∨ k = 9 ∨ k = 10 ∨ k = 11 := by omega
  rcases this with rfl | rfl | rfl | rfl | rfl | rfl | rfl | rfl | rfl | rfl | rfl | rfl <;> rfl
theorem lens_of_laid {W : World} (h : laidMetH Tryz.prog lensLaid W) : Lens W := by
  rw [MakeChecks.laidMetH_plain _ _ _ (by kernel_rfl)] at h
  obtain ⟨ps, ⟨g0, t0, cs0, f0, p0, q0, hg0, ht0, hv0, hd0, _, _⟩, _, _⟩ := h
  obtain rfl := Option.some.inj (gLens.symm.trans hg0)
  obtain rfl := Option.some.inj (tLens.symm.trans ht0)
  obtain ⟨xs, m1, rfl, hx1, hlen, hn, hel⟩ := DataW.trod_array Tryz.underlying176 hd0
  have hc := World.var?_cell hg0 hv0
  have key : ∀ k : Nat, k < 12 → W.cell? ⟨3, k, none⟩ = some (.int .i64 (lenTab k)) := by
    intro k hk
    have e := hel k hk
    rw [cInt, Nat.mul_one] at e
    have hd : xs.map (·.1) = ([31, 28, 31, 30, 31, 30, 31, 31, 30, 31, 30, 31] : List Int).map fun n => (DataW.lit (.int .i64 n) : DataW Unit) := by
      have := congrArg Prod.fst hx1
      simpa [Rows.laid_analemma_civil_lengths] using this.symm
    have hk' : k < xs.length := by omega
    rw [List.getElem?_eq_getElem hk'] at e
    obtain ⟨n, e1, e2, _⟩ := DataW.trod_int Tryz.underlying3 e
    have e3 := lens_data k hk
    rw [← hd, List.getElem?_map, List.getElem?_eq_getElem hk', e2] at e3
    have e4 : n = lenTab k := by simpa using e3
    have e5 : cs0.toList[k]? = some (.int .i64 n) := by
      have := congrArg List.head? e1
      rw [List.head?_take, if_neg (by decide), List.head?_drop] at this
      simpa using this
    rw [hc k, ← e4]
    simpa using e5
  refine ⟨?_, key⟩
  have c := key 0 (by decide)
  apply Classical.byContradiction
  intro hlt
  have hz : W.heap[3]? = none := Array.getElem?_eq_none (by omega)
  simp [World.cell?, hz] at c
def sndLaid : List (String × DataW Unit) := [("analemma/civil.lengths", Rows.laid_analemma_civil_lengths), ("unicode/utf8.acceptRanges", Rows.laid_unicode_utf8_acceptRanges), ("unicode/utf8.first", Rows.laid_unicode_utf8_first)]
theorem snd_max {W : World} (hsh : W.ShapedOpen Tryz.prog) : ∃ m, W.cell? ⟨0, 0, none⟩ = some (.int .i64 m) :=
  cell_of_shapedOpen_int (P := Tryz.prog) (g := 0) (t := 3) (zero := #[.int .i64 0]) hsh (of_decide_eq_true (by kernel_rfl)) (by kernel_rfl) rfl (by kernel_rfl) (by kernel_rfl) Tryz.underlying3
theorem snd_lens {W : World} {l : List (String × DataW Unit)} (e : (l.filter fun x => x.1 == "analemma/civil.lengths") = lensLaid) (h : laidMetH Tryz.prog l W) : Lens W := by
  have a := h.filter (fun x => x.1 == "analemma/civil.lengths")
  rw [e] at a
  exact lens_of_laid a
theorem snd_of_laid {W : World} (h : laidMetH Tryz.prog sndLaid W) (hsh : W.ShapedOpen Tryz.prog) : ErasM W := by
  have hl := snd_lens (by simp [sndLaid, lensLaid]) h
  obtain ⟨m, hm⟩ := snd_max hsh
  exact ⟨hl, cell_lt hm, m, hm⟩
theorem sndLaid_met (os : Os) (args : Array Value) : laidMetH Tryz.prog sndLaid ((World.laidAll Tryz.prog os sndLaid).forCall (fun _ _ => 0) ⟨#[], args, []⟩).memory := by
  rw [MakeChecks.laidMetH_plain _ _ _ (by kernel_rfl)]
  exact laidMet_laidAll _ (by kernel_rfl) (by kernel_rfl)
end Go.Proofs.YtmhpnmlgfdomkaaGreatDoor
