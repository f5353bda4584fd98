/- Package moment: a spot out of its texts. -/
import Derived.Test.YtpbgddoicjjhnaaGreatDoorYGl
import Derived.Test.YtpbgddoicjjhnaaGreatDoorYGua
set_option maxRecDepth 100000
set_option maxHeartbeats 64000000
namespace Go.Proofs.YtpbgddoicjjhnaaGreatDoor
open Go.RowKit
end Go.Proofs.YtpbgddoicjjhnaaGreatDoor
