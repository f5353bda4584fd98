/- The tables that package plain's calls read: the months' lengths and the sizes of a time's fields. -/
import Derived.Test.YtlidicnbmfkghaaGreatDoorGe
import Derived.Test.YtlidicnbmfkghaaGreatDoorGk
namespace Go.Proofs.YtlidicnbmfkghaaGreatDoor
open Go.RowKit

/-- both tables hold what the program's text lays in them -/
structure Tabs (w : World) : Prop where
  lens : Lens w
  sizes : Sizes w
theorem Tabs.mono {w W : World} (L : Tabs w) (h : Below w.heap.size w W) : Tabs W := ⟨L.lens.mono h, L.sizes.mono h⟩
end Go.Proofs.YtlidicnbmfkghaaGreatDoor
