/- The document's answer of layer 9: the spot that texts tell. -/
import Derived.Test.YtkkdclibbdeejaaDoorYGu
import Derived.Test.YtkkdclibbdeejaaDoorYGsix
import Derived.Deep.RegionHeld3
import Derived.Outline
namespace Go.Proofs.YtkkdclibbdeejaaDoor
open Go.RowKit
end Go.Proofs.YtkkdclibbdeejaaDoor
