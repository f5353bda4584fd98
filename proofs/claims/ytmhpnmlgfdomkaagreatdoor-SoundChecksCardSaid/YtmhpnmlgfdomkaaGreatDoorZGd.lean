import Derived.Test.YtmhpnmlgfdomkaaGreatDoorZGw
import Derived.Test.YtmhpnmlgfdomkaaGreatDoorZGb
import Derived.Deep.RegionHeld3
set_option maxRecDepth 100000
set_option maxHeartbeats 64000000
namespace Go.Proofs.YtmhpnmlgfdomkaaGreatDoor
open Go.RowKit
section
variable {lo : Nat} {K : World → Prop} {W W' : World} {L : List Nat} {g : Nat} {p : Bool} {A : Option Addr} {n c : Nat} {Q : Int}
end
end Go.Proofs.YtmhpnmlgfdomkaaGreatDoor
namespace Go.Proofs.YtmhpnmlgfdomkaaGreatDoor
open Go.RowKit
section
variable {w W W' : World} {L : List (Nat × Bool × Value)} {M : List (Bool × Option Addr × Nat × Nat × Int)}
end
end Go.Proofs.YtmhpnmlgfdomkaaGreatDoor
namespace Go.Proofs.YtmhpnmlgfdomkaaGreatDoor
open Go.RowKit
def fv (P Q v : Int) : Int := if InW P ∧ InW Q then v else 0
end Go.Proofs.YtmhpnmlgfdomkaaGreatDoor
