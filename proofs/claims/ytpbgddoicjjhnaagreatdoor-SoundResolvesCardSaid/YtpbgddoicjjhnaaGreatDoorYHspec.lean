/- Stage 10's laws: what package source answers (SourceP, under a premise Q on memory that calls keep). -/
import Derived.Test.YtpbgddoicjjhnaaGreatDoorYGj
import Derived.Test.YtpbgddoicjjhnaaGreatDoorYGhs
import Derived.Test.YtpbgddoicjjhnaaGreatDoorYGq
set_option maxRecDepth 100000
set_option maxHeartbeats 64000000
namespace Go.Proofs.YtpbgddoicjjhnaaGreatDoor
open Go.RowKit
noncomputable def okSr (S : Sr) : Bool := @decide S.ok (Classical.propDecidable _)
theorem okSr_yes {S : Sr} (h : S.ok) : okSr S = true := @decide_eq_true _ (Classical.propDecidable _) h
end Go.Proofs.YtpbgddoicjjhnaaGreatDoor
