/- The document's answer of layer 9: numbers' digits, two digits. -/
import Derived.Test.YtkkdclibbdeejaaDoorYGq
import Derived.Test.YtkkdclibbdeejaaDoorYDec
import Derived.Test.YtkkdclibbdeejaaDoorYGu
import Derived.Laws.IdiomStrings
namespace Go.Proofs.YtkkdclibbdeejaaDoor
open Go.RowKit
end Go.Proofs.YtkkdclibbdeejaaDoor
