import Derived.Test.YtmhpnmlgfdomkaaGreatDoorZGa
import Derived.Deep.RegionWith
import Derived.Laws.MakeOwn
import Derived.Deep.DeepCutAuto
import Derived.Laws.Shifts
set_option maxRecDepth 100000
set_option maxHeartbeats 64000000
namespace Go.Proofs.YtmhpnmlgfdomkaaGreatDoor
open Go.RowKit
section
variable {w W W' : World} {A : Option Addr} {n c : Nat} {x : Int} {B : Option Addr} {m d : Nat} {y : Int} {pq : Bool} {Aq : Option Addr} {nq cq : Nat} {Q : Int} {pr : Bool} {Ar : Option Addr} {nr cr : Nat} {R : Int}
end
end Go.Proofs.YtmhpnmlgfdomkaaGreatDoor
namespace Go.Proofs.YtmhpnmlgfdomkaaGreatDoor
open Go.RowKit
section
variable {w W W' : World} {L : List Nat} {p : Bool} {A : Option Addr} {n c : Nat} {x : Int} {q : Bool} {B : Option Addr} {m d : Nat} {y : Int}
variable {g h : Nat} {pq : Bool} {Aq : Option Addr} {nq cq : Nat} {Q : Int} {pr : Bool} {Ar : Option Addr} {nr cr : Nat} {R : Int}
end
end Go.Proofs.YtmhpnmlgfdomkaaGreatDoor
namespace Go.Proofs.YtmhpnmlgfdomkaaGreatDoor
open Go.RowKit
section
variable {lo : Nat} {K : World → Prop} {W W' : World} {L : List Nat} {g h : Nat} {pq : Bool} {Aq : Option Addr} {nq cq : Nat} {Q : Int} {pr : Bool} {Ar : Option Addr} {nr cr : Nat} {R : Int}
end
end Go.Proofs.YtmhpnmlgfdomkaaGreatDoor
