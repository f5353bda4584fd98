import Derived.Test.YtmhpnmlgfdomkaaGreatDoorZGa
import Derived.Below
import Derived.IntWalk
import Derived.Lib.Hide
import Derived.Test.YtmhpnmlgfdomkaaGreatDoorZGb
import Derived.Deep.DeepCutAuto
set_option maxRecDepth 100000
set_option maxHeartbeats 64000000
namespace Go.Proofs.YtmhpnmlgfdomkaaGreatDoor
open Go.RowKit
def two127 : Int := 170141183460469231731687303715884105728
def InW (z : Int) : Prop := -two127 ≤ z ∧ z < two127
instance (z : Int) : Decidable (InW z) := by unfold InW; infer_instance
def hiW (z : Int) : Int := z / 18446744073709551616
def hv (z : Int) : Int := if InW z then hiW z else 0
def ev (z : Int) : Int := if InW z then 0 else 2
def RetV (w : World) (v : Value) (e : Ending) (w' : World) : Prop := e = .returned v ∧ Below w.heap.size w w'
theorem below_thru {a b c : World} (h : Below a.heap.size a b) (k : Below b.heap.size b c) : Below a.heap.size a c := h.trans (k.mono h.size)
theorem below_box (W : World) (o : Obj) : Below W.heap.size W (W.alloc o) := (Below.refl _ _).alloc (Nat.le_refl _) o
section
variable {lo : Nat} {K : World → Prop} {W W' : World} {L : List Nat} {g : Nat} {u v : Value}
end
end Go.Proofs.YtmhpnmlgfdomkaaGreatDoor
namespace Go.Proofs.YtmhpnmlgfdomkaaGreatDoor
open Go.RowKit
end Go.Proofs.YtmhpnmlgfdomkaaGreatDoor
