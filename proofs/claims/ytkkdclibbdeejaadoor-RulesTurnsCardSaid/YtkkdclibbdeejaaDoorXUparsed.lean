/- The document's answer of layer 9: spots, and the spot that texts tell. -/
import Derived.Test.YtkkdclibbdeejaaDoorXUparse
import Derived.Test.YtkkdclibbdeejaaDoorXHdata
set_option maxRecDepth 100000
set_option maxHeartbeats 64000000
namespace Go.Proofs.YtkkdclibbdeejaaDoor
open Go.RowKit
theorem Ss.cell {w : World} {A : Option Addr} {n c : Nat} {l : List ByteArray} (ha : Ss w A n c l) (h : 0 < n) : ∃ g o, A = some ⟨g, o, none⟩ ∧ ∀ (j : Nat) (hj : j < l.length) (W : World), Below w.heap.size w W → W.cell? ⟨g, o + j, none⟩ = some (.string l[j]) := by
  obtain ⟨g, o, e, hg, cs⟩ := ha.cells h
  exact ⟨g, o, e, fun j hj W hb => (hb.cell (p := ⟨g, o + j, none⟩) hg).trans (cs j hj)⟩
end Go.Proofs.YtkkdclibbdeejaaDoor
