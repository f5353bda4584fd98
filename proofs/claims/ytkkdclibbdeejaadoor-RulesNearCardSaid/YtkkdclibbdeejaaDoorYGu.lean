import Derived.Test.YtkkdclibbdeejaaDoorYGq
import Derived.Laws.DeepStrings4
import Derived.BigQuiet
import Derived.Deep.RegionHeld3
/- The document's answer of layer 9: numbers of digits. -/
namespace Go.Proofs.YtkkdclibbdeejaaDoor
open Go.RowKit
end Go.Proofs.YtkkdclibbdeejaaDoor
/- The document's answer of layer 9: what stands between the signs of a clock's time. -/
namespace Go.Proofs.YtkkdclibbdeejaaDoor
open Go.RowKit
end Go.Proofs.YtkkdclibbdeejaaDoor
/- The document's answer of layer 9: a clock's time. -/
namespace Go.Proofs.YtkkdclibbdeejaaDoor
open Go.RowKit
end Go.Proofs.YtkkdclibbdeejaaDoor
/- The document's answer of layer 9: a clock's time with its sign, and by which clock. -/
namespace Go.Proofs.YtkkdclibbdeejaaDoor
open Go.RowKit
end Go.Proofs.YtkkdclibbdeejaaDoor
/- The document's answer of layer 9: names of months and of weekdays. -/
namespace Go.Proofs.YtkkdclibbdeejaaDoor
open Go.RowKit
/-- a word of small letters -/
def lowT (word : ByteArray) : Prop := word.size ≤ 20 ∧ ∀ (j : Nat) (h : j < word.size), 97 ≤ word[j].toNat ∧ word[j].toNat ≤ 122
end Go.Proofs.YtkkdclibbdeejaaDoor
/- The document's answer of layer 9: the month and the weekday of a name. -/
namespace Go.Proofs.YtkkdclibbdeejaaDoor
open Go.RowKit
/-- a row of texts, made -/
theorem Ss.lit (w : World) (l : List ByteArray) (t : TypeId) (h0 : 0 < l.length) (h : l.length ≤ 100) : Ss (w.alloc (.cells (strs l).toArray t)) (some ⟨w.heap.size, 0, none⟩) l.length l.length l := by
  refine ⟨rfl, Nat.le_refl _, by unfold maxLen; omega, fun _ => ⟨_, _, rfl, by simp, fun j hj => ?_⟩⟩
  simp [strs, hj]
instance (t : ByteArray) : Decidable (lowT t) := inferInstanceAs (Decidable (_ ∧ _))
end Go.Proofs.YtkkdclibbdeejaaDoor
/- The document's answer of layer 9: a day of a month. -/
namespace Go.Proofs.YtkkdclibbdeejaaDoor
open Go.RowKit
end Go.Proofs.YtkkdclibbdeejaaDoor
/- The document's answer of layer 9: the day that a text tells. -/
namespace Go.Proofs.YtkkdclibbdeejaaDoor
open Go.RowKit
end Go.Proofs.YtkkdclibbdeejaaDoor
/- The document's answer of layer 9: a clock's time with its letter. -/
namespace Go.Proofs.YtkkdclibbdeejaaDoor
open Go.RowKit
end Go.Proofs.YtkkdclibbdeejaaDoor
/- The document's answer of layer 9: a clock's time with each of its letters. -/
namespace Go.Proofs.YtkkdclibbdeejaaDoor
open Go.RowKit
end Go.Proofs.YtkkdclibbdeejaaDoor
