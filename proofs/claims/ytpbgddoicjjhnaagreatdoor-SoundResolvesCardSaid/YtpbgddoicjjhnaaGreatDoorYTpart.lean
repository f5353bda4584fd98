/- The rules of the sets that a zone's eras name. No program here. -/
import Derived.Test.YtpbgddoicjjhnaaGreatDoorYTdef
import Derived.Test.YtpbgddoicjjhnaaGreatDoorYGj
set_option maxRecDepth 100000
set_option maxHeartbeats 64000000
namespace Go.Proofs.YtpbgddoicjjhnaaGreatDoor
open Go.RowKit
end Go.Proofs.YtpbgddoicjjhnaaGreatDoor
