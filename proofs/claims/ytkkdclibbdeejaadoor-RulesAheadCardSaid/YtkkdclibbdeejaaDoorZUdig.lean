/- The document's answer of layer 9: numbers' digits, two digits. -/
import Derived.Test.YtkkdclibbdeejaaDoorZGq
import Derived.Test.YtkkdclibbdeejaaDoorZDec
import Derived.Test.YtkkdclibbdeejaaDoorZGu
import Derived.Laws.IdiomStrings
namespace Go.Proofs.YtkkdclibbdeejaaDoor
open Go.RowKit
end Go.Proofs.YtkkdclibbdeejaaDoor
