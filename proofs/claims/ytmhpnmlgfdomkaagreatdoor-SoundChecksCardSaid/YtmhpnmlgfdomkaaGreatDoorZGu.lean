import Derived.Test.YtmhpnmlgfdomkaaGreatDoorZGq
import Derived.Laws.DeepStrings4
import Derived.BigQuiet
import Derived.Deep.RegionHeld3
set_option maxRecDepth 100000
set_option maxHeartbeats 64000000
namespace Go.Proofs.YtmhpnmlgfdomkaaGreatDoor
open Go.RowKit
def lowT (word : ByteArray) : Prop := word.size ≤ 20 ∧ ∀ (j : Nat) (h : j < word.size), 97 ≤ word[j].toNat ∧ word[j].toNat ≤ 122
instance (t : ByteArray) : Decidable (lowT t) := inferInstanceAs (Decidable (_ ∧ _))
end Go.Proofs.YtmhpnmlgfdomkaaGreatDoor
