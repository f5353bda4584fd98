/- Walks over blocks where rows that lie behind a base are written in place: the world cut off at the base stands in the start's place. No walk here. -/
import Derived.Test.YtmhpnmlgfdomkaaGreatDoorZGua
import Derived.Laws.AppendOwn
set_option maxRecDepth 100000
set_option maxHeartbeats 64000000
namespace Go.Proofs.YtmhpnmlgfdomkaaGreatDoor
open Go.RowKit
section
variable {w W W' : World} {b : Nat} {L : List (Nat × List Value)} {row : Option Nat}
theorem BK.grown {v : World} (h : BK v L W) (g : W.grownBy W' row) (ne : ∀ x ∈ L, some x.1 ≠ row) (ge : ∀ k, row = some k → v.heap.size ≤ k) : BK v L W' := by
  have hb : ∀ x ∈ L, W'.heap[x.1]? = W.heap[x.1]? := fun x hx => g.block x.1 (h.al x hx).lt (ne x hx)
  refine ⟨fun x hx => ⟨Nat.lt_of_lt_of_le (h.al x hx).lt g.size, CellsAt.of fun i u e => ?_⟩, ⟨g.os.trans h.hb.os, g.tape.trans h.hb.tape, g.output.trans h.hb.output, Nat.le_trans h.hb.size g.size, fun i hi => ?_⟩⟩
  · have c := (h.al x hx).cell i e
    have t := (h.al x hx).thaw i e
    rw [Nat.zero_add]
    exact ⟨(World.cell?_of_block (a := ⟨x.1, i, none⟩) (hb x hx)).trans c, (World.frozen?_of_block (a := ⟨x.1, i, none⟩) (hb x hx)).trans t⟩
  · refine (g.block i (Nat.lt_of_lt_of_le hi h.hb.size) (fun e => ?_)).trans (h.hb.block i hi)
    have := ge i e.symm
    omega
end
end Go.Proofs.YtmhpnmlgfdomkaaGreatDoor
