/- The document's answer of layer 9: the spot that texts tell. -/
import Derived.Test.YtnkmlfbnfndfpaaGreatDoorXGu
import Derived.Test.YtnkmlfbnfndfpaaGreatDoorXGsix
import Derived.Deep.RegionHeld3
import Derived.Outline
set_option maxRecDepth 100000
set_option maxHeartbeats 64000000
namespace Go.Proofs.YtnkmlfbnfndfpaaGreatDoor
open Go.RowKit
end Go.Proofs.YtnkmlfbnfndfpaaGreatDoor
