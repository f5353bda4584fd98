/- Package moment: a spot out of its texts. -/
import Derived.Test.YtallclimljiplaaGreatDoorZGl
import Derived.Test.YtallclimljiplaaGreatDoorZGua
set_option maxRecDepth 100000
set_option maxHeartbeats 64000000
namespace Go.Proofs.YtallclimljiplaaGreatDoor
open Go.RowKit
end Go.Proofs.YtallclimljiplaaGreatDoor
