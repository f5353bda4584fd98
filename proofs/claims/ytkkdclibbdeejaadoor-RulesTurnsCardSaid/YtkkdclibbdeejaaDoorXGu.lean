import Derived.Test.YtkkdclibbdeejaaDoorXGq
import Derived.Laws.DeepStrings4
import Derived.BigQuiet
import Derived.Deep.RegionHeld3
set_option maxRecDepth 100000
set_option maxHeartbeats 64000000
namespace Go.Proofs.YtkkdclibbdeejaaDoor
open Go.RowKit
def lowT (word : ByteArray) : Prop := word.size ≤ 20 ∧ ∀ (j : Nat) (h : j < word.size), 97 ≤ word[j].toNat ∧ word[j].toNat ≤ 122
theorem Ss.lit (w : World) (l : List ByteArray) (t : TypeId) (h0 : 0 < l.length) (h : l.length ≤ 100) : Ss (w.alloc (.cells (strs l).toArray t)) (some ⟨w.heap.size, 0, none⟩) l.length l.length l := by
  refine ⟨rfl, Nat.le_refl _, by unfold maxLen; omega, fun _ => ⟨_, _, rfl, by simp, fun j hj => ?_⟩⟩
  simp [strs, hj]
instance (t : ByteArray) : Decidable (lowT t) := inferInstanceAs (Decidable (_ ∧ _))
end Go.Proofs.YtkkdclibbdeejaaDoor
