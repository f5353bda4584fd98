/- The document's answer of layer 3: quotients that are cut towards 0, told. -/
import Derived.Test.YtnopgdheffnfdaaDfloor
import Derived.Test.YtnopgdheffnfdaaDcut
namespace Go.Proofs.Ytnopgdheffnfdaa
open Go.RowKit

end Go.Proofs.Ytnopgdheffnfdaa
