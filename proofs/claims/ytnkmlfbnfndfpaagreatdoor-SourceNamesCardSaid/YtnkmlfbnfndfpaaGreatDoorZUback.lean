/- Spots: what is written is read as it was. No program. -/
import Derived.Test.YtnkmlfbnfndfpaaGreatDoorZUpr
namespace Go.Proofs.YtnkmlfbnfndfpaaGreatDoor
open Go.RowKit
end Go.Proofs.YtnkmlfbnfndfpaaGreatDoor
