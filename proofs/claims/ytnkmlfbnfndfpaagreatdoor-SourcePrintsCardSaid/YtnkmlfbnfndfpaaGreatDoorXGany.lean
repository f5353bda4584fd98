/- Blocks of any number of cells: made, read and written by the list of what they hold. No walk here. -/
import Derived.Test.YtnkmlfbnfndfpaaGreatDoorXGsix
set_option maxRecDepth 100000
set_option maxHeartbeats 64000000
namespace Go.Proofs.YtnkmlfbnfndfpaaGreatDoor
open Go.RowKit
section
variable {w W : World} {L : List (Nat × List Value)}
end
end Go.Proofs.YtnkmlfbnfndfpaaGreatDoor
