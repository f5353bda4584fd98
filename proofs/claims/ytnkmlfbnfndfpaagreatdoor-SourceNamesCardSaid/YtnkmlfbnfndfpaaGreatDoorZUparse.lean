/- The document's answer of layer 9: the spot that texts tell. -/
import Derived.Test.YtnkmlfbnfndfpaaGreatDoorZGu
import Derived.Test.YtnkmlfbnfndfpaaGreatDoorZGsix
import Derived.Deep.RegionHeld3
import Derived.Outline
namespace Go.Proofs.YtnkmlfbnfndfpaaGreatDoor
open Go.RowKit
end Go.Proofs.YtnkmlfbnfndfpaaGreatDoor
