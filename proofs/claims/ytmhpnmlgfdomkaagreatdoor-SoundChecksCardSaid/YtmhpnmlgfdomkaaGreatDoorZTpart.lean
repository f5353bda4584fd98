/- The rules of the sets that a zone's eras name. No program here. -/
import Derived.Test.YtmhpnmlgfdomkaaGreatDoorZTdef
import Derived.Test.YtmhpnmlgfdomkaaGreatDoorZGj
set_option maxRecDepth 100000
set_option maxHeartbeats 64000000
namespace Go.Proofs.YtmhpnmlgfdomkaaGreatDoor
open Go.RowKit
end Go.Proofs.YtmhpnmlgfdomkaaGreatDoor
