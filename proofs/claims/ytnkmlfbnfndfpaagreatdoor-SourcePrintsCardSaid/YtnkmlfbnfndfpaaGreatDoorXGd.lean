import Derived.Test.YtnkmlfbnfndfpaaGreatDoorXGw
import Derived.Test.YtnkmlfbnfndfpaaGreatDoorXGb
import Derived.Deep.RegionHeld3
set_option maxRecDepth 100000
set_option maxHeartbeats 64000000
namespace Go.Proofs.YtnkmlfbnfndfpaaGreatDoor
open Go.RowKit
def hv2 (Q R : Int) : Int := if InW Q then hv R else 0
section
variable {lo : Nat} {K : World → Prop} {W W' : World} {L : List Nat} {g : Nat} {p : Bool} {A : Option Addr} {n c : Nat} {Q : Int}
end
end Go.Proofs.YtnkmlfbnfndfpaaGreatDoor
namespace Go.Proofs.YtnkmlfbnfndfpaaGreatDoor
open Go.RowKit
section
variable {w W W' : World} {L : List (Nat × Bool × Value)} {M : List (Bool × Option Addr × Nat × Nat × Int)}
end
end Go.Proofs.YtnkmlfbnfndfpaaGreatDoor
namespace Go.Proofs.YtnkmlfbnfndfpaaGreatDoor
open Go.RowKit
def fe (P Q : Int) : Int := if InW P ∧ InW Q then 0 else 2
end Go.Proofs.YtnkmlfbnfndfpaaGreatDoor
