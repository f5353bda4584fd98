/- Spots: what is written is read as it was. No program. -/
import Derived.Test.YtnkmlfbnfndfpaaGreatDoorXUpr
set_option maxRecDepth 100000
set_option maxHeartbeats 64000000
namespace Go.Proofs.YtnkmlfbnfndfpaaGreatDoor
open Go.RowKit
end Go.Proofs.YtnkmlfbnfndfpaaGreatDoor
