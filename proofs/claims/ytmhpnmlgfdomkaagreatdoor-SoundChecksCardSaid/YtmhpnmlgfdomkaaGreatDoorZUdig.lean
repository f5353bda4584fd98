/- The document's answer of layer 9: numbers' digits, two digits. -/
import Derived.Test.YtmhpnmlgfdomkaaGreatDoorZGq
import Derived.Test.YtmhpnmlgfdomkaaGreatDoorZDec
import Derived.Test.YtmhpnmlgfdomkaaGreatDoorZGu
import Derived.Laws.IdiomStrings
set_option maxRecDepth 100000
set_option maxHeartbeats 64000000
namespace Go.Proofs.YtmhpnmlgfdomkaaGreatDoor
open Go.RowKit
end Go.Proofs.YtmhpnmlgfdomkaaGreatDoor
