/- A source that may be: all its numbers and texts are small; no program. -/
import Derived.Test.YtnkmlfbnfndfpaaGreatDoorXHspec
set_option maxRecDepth 100000
set_option maxHeartbeats 64000000
namespace Go.Proofs.YtnkmlfbnfndfpaaGreatDoor
open Go.RowKit
theorem okSr_of {S : Sr} (h : okSr S = true) : S.ok := @of_decide_eq_true _ (Classical.propDecidable _) h
end Go.Proofs.YtnkmlfbnfndfpaaGreatDoor
