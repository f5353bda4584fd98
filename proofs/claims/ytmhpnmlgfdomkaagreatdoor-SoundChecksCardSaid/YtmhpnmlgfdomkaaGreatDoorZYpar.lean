/- Package moment: a spot out of its texts. -/
import Derived.Test.YtmhpnmlgfdomkaaGreatDoorZGl
import Derived.Test.YtmhpnmlgfdomkaaGreatDoorZGua
set_option maxRecDepth 100000
set_option maxHeartbeats 64000000
namespace Go.Proofs.YtmhpnmlgfdomkaaGreatDoor
open Go.RowKit
end Go.Proofs.YtmhpnmlgfdomkaaGreatDoor
