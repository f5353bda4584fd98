/- The document's answer of layer 3: quotients that are cut towards 0. -/
import Derived.Test.YtnopgdheffnfdaaDbox
import Derived.Test.YtnopgdheffnfdaaMul
import Derived.Deep.RegionHeld3
namespace Go.Proofs.Ytnopgdheffnfdaa
open Go.RowKit

end Go.Proofs.Ytnopgdheffnfdaa
