/- Stage 11's laws: the turn ahead; what is in force. -/
import Derived.Test.YtkkdclibbdeejaaDoorYElco
import Derived.Test.YtkkdclibbdeejaaDoorYGeb
namespace Go.Proofs.YtkkdclibbdeejaaDoor
open Go.RowKit
end Go.Proofs.YtkkdclibbdeejaaDoor
