/- The document's answer of layer 9: numbers' digits, two digits. -/
import Derived.Test.YtnkmlfbnfndfpaaGreatDoorZGq
import Derived.Test.YtnkmlfbnfndfpaaGreatDoorZDec
import Derived.Test.YtnkmlfbnfndfpaaGreatDoorZGu
import Derived.Laws.IdiomStrings
namespace Go.Proofs.YtnkmlfbnfndfpaaGreatDoor
open Go.RowKit
end Go.Proofs.YtnkmlfbnfndfpaaGreatDoor
