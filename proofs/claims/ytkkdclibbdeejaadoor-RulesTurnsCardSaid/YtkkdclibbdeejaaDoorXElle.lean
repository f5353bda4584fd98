/- Stage 11's laws: the turn ahead; what is in force. -/
import Derived.Test.YtkkdclibbdeejaaDoorXElco
import Derived.Test.YtkkdclibbdeejaaDoorXGeb
set_option maxRecDepth 100000
set_option maxHeartbeats 64000000
namespace Go.Proofs.YtkkdclibbdeejaaDoor
open Go.RowKit
end Go.Proofs.YtkkdclibbdeejaaDoor
