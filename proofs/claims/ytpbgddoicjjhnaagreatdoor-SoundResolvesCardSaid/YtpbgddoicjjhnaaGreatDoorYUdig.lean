/- The document's answer of layer 9: numbers' digits, two digits. -/
import Derived.Test.YtpbgddoicjjhnaaGreatDoorYGq
import Derived.Test.YtpbgddoicjjhnaaGreatDoorYDec
import Derived.Test.YtpbgddoicjjhnaaGreatDoorYGu
import Derived.Laws.IdiomStrings
set_option maxRecDepth 100000
set_option maxHeartbeats 64000000
namespace Go.Proofs.YtpbgddoicjjhnaaGreatDoor
open Go.RowKit
end Go.Proofs.YtpbgddoicjjhnaaGreatDoor
