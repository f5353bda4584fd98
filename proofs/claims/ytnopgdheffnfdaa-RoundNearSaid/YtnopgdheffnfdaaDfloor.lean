/- The document's answer of layer 3: quotients that are rounded down. -/
import Derived.Test.YtnopgdheffnfdaaDtold
import Derived.Test.YtnopgdheffnfdaaDany
import Derived.Deep.RegionHeld3
namespace Go.Proofs.Ytnopgdheffnfdaa
open Go.RowKit

/-- What a call that refuses leaves. -/
def RetRef (w : World) (n : Int) (e : Ending) (w' : World) : Prop := e = .returned (.tuple #[.agg #[.int .i64 0, .int .u64 0], .agg #[.int .i64 0, .int .u64 0], .int .i64 n]) ∧ Below w.heap.size w w'

end Go.Proofs.Ytnopgdheffnfdaa
