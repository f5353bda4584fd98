import Derived.Test.YtallclimljiplaaGreatDoorZGw
import Derived.Test.YtallclimljiplaaGreatDoorZGb
import Derived.Deep.RegionHeld3
set_option maxRecDepth 100000
set_option maxHeartbeats 64000000
namespace Go.Proofs.YtallclimljiplaaGreatDoor
open Go.RowKit
def hv2 (Q R : Int) : Int := if InW Q then hv R else 0
section
variable {lo : Nat} {K : World → Prop} {W W' : World} {L : List Nat} {g : Nat} {p : Bool} {A : Option Addr} {n c : Nat} {Q : Int}
end
end Go.Proofs.YtallclimljiplaaGreatDoor
namespace Go.Proofs.YtallclimljiplaaGreatDoor
open Go.RowKit
section
variable {w W W' : World} {L : List (Nat × Bool × Value)} {M : List (Bool × Option Addr × Nat × Nat × Int)}
end
end Go.Proofs.YtallclimljiplaaGreatDoor
namespace Go.Proofs.YtallclimljiplaaGreatDoor
open Go.RowKit
def fv (P Q v : Int) : Int := if InW P ∧ InW Q then v else 0
end Go.Proofs.YtallclimljiplaaGreatDoor
