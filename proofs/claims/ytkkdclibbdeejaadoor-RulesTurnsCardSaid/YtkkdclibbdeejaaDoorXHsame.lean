/- The document's answer of layer 10: the same source twice. -/
import Derived.Test.YtkkdclibbdeejaaDoorXHsrc
import Derived.Test.YtkkdclibbdeejaaDoorXGw
import Derived.IntWalk
import Derived.Lib.Hide
import Derived.LoopTactic
import Derived.Outline
import Derived.OwnWalk
import Derived.BigQuiet
import Derived.Deep.QuietTactic
import Derived.Deep.RegionHeld3
set_option maxRecDepth 100000
set_option maxHeartbeats 64000000
namespace Go.Proofs.YtkkdclibbdeejaaDoor
open Go.RowKit
theorem row_at {k : Nat} {w : World} {g o : Nat} {l : List (List Value)} (h : ∀ (i : Nat) (h : i < l.length) (j : Nat) (u : Value), l[i][j]? = some u → w.cell? ⟨g, o + i * k + j, none⟩ = some u) {i : Nat} {r : List Value} (hi : l[i]? = some r) (j : Nat) (u : Value) (hj : r[j]? = some u) : w.cell? ⟨g, o + i * k + j, none⟩ = some u := by
  obtain ⟨hl, e⟩ := List.getElem?_eq_some_iff.1 hi
  exact h i hl j u (by rw [e]; exact hj)
end Go.Proofs.YtkkdclibbdeejaaDoor
