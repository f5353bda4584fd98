/- The document's answer of layer 9: numbers' digits, two digits. -/
import Derived.Test.YtkkdclibbdeejaaDoorXGq
import Derived.Test.YtkkdclibbdeejaaDoorXDec
import Derived.Test.YtkkdclibbdeejaaDoorXGu
import Derived.Laws.IdiomStrings
set_option maxRecDepth 100000
set_option maxHeartbeats 64000000
namespace Go.Proofs.YtkkdclibbdeejaaDoor
open Go.RowKit
end Go.Proofs.YtkkdclibbdeejaaDoor
