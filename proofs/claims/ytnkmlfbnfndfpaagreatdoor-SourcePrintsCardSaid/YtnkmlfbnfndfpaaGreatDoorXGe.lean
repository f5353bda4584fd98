import Derived.Test.YtnkmlfbnfndfpaaGreatDoorXGc
import Derived.StillTailTactics
set_option maxRecDepth 100000
set_option maxHeartbeats 64000000
namespace Go.Proofs.YtnkmlfbnfndfpaaGreatDoor
open Go.RowKit
structure Lens (w : World) : Prop where
theorem Lens.mono {w W : World} (L : Lens w) (h : Below w.heap.size w W) : Lens W := by
  have _l := L
  have _b := h
  constructor <;> first | exact Nat.lt_of_lt_of_le L.lt h.size | exact fun k hk => (h.cell (p := ⟨_, k, none⟩) L.lt).trans (L.c k hk)
def c3 (a b : Int) : Int := if a < b then -1 else if b < a then 1 else 0
end Go.Proofs.YtnkmlfbnfndfpaaGreatDoor
