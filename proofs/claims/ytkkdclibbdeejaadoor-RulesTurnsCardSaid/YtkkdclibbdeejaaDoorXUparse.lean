/- The document's answer of layer 9: the spot that texts tell. -/
import Derived.Test.YtkkdclibbdeejaaDoorXGu
import Derived.Test.YtkkdclibbdeejaaDoorXGsix
import Derived.Deep.RegionHeld3
import Derived.Outline
set_option maxRecDepth 100000
set_option maxHeartbeats 64000000
namespace Go.Proofs.YtkkdclibbdeejaaDoor
open Go.RowKit
end Go.Proofs.YtkkdclibbdeejaaDoor
