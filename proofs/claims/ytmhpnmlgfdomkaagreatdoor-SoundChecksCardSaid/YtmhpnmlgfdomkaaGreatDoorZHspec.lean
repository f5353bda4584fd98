/- Stage 10's laws: what package source answers (SourceP, under a premise Q on memory that calls keep). -/
import Derived.Test.YtmhpnmlgfdomkaaGreatDoorZGj
import Derived.Test.YtmhpnmlgfdomkaaGreatDoorZGhs
import Derived.Test.YtmhpnmlgfdomkaaGreatDoorZGq
set_option maxRecDepth 100000
set_option maxHeartbeats 64000000
namespace Go.Proofs.YtmhpnmlgfdomkaaGreatDoor
open Go.RowKit
noncomputable def okSr (S : Sr) : Bool := @decide S.ok (Classical.propDecidable _)
theorem okSr_yes {S : Sr} (h : S.ok) : okSr S = true := @decide_eq_true _ (Classical.propDecidable _) h
theorem okSr_no {S : Sr} (h : ¬ S.ok) : okSr S = false := @decide_eq_false _ (Classical.propDecidable _) h
end Go.Proofs.YtmhpnmlgfdomkaaGreatDoor
