import Derived.Test.YtmhpnmlgfdomkaaGreatDoorZUdig
import Derived.Lib.SlicesS
import Derived.BigQuiet
import Derived.Deep.RegionHeld3
set_option maxRecDepth 100000
set_option maxHeartbeats 64000000
namespace Go.Proofs.YtmhpnmlgfdomkaaGreatDoor
open Go.RowKit
theorem toList_beqT (s t : ByteArray) : (s.toList == t.toList) = decide (s = t) := by
  by_cases h : s = t
  · subst h; simp
  · rw [decide_eq_false h]; exact (Lib.bytes_beq_false_iff s t).2 h
end Go.Proofs.YtmhpnmlgfdomkaaGreatDoor
