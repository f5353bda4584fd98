/- Blocks of six cells; one cell of a block of any size written. No walk here. -/
import Derived.Test.YtmhpnmlgfdomkaaGreatDoorZGm
set_option maxRecDepth 100000
set_option maxHeartbeats 64000000
namespace Go.Proofs.YtmhpnmlgfdomkaaGreatDoor
open Go.RowKit
theorem Blk.new6 (W : World) (a b c d e f : Value) (t : TypeId) : Blk (W.alloc (.cells #[a, b, c, d, e, f] t)) W.heap.size [a, b, c, d, e, f] := ⟨by simp, by simp, by simp, by simp, by simp, by simp, by simp, by simp, by simp, by simp, by simp, by simp, by simp, trivial⟩
theorem Blk.six {W : World} {k : Nat} {a b c d e f : Value} (h : Blk W k [a, b, c, d, e, f]) : k < W.heap.size ∧ W.cell? ⟨k, 0, none⟩ = some a ∧ W.cell? ⟨k, 1, none⟩ = some b ∧ W.cell? ⟨k, 2, none⟩ = some c ∧ W.cell? ⟨k, 3, none⟩ = some d ∧ W.cell? ⟨k, 4, none⟩ = some e ∧ W.cell? ⟨k, 5, none⟩ = some f ∧ W.frozen? ⟨k, 0, none⟩ = false ∧ W.frozen? ⟨k, 1, none⟩ = false ∧ W.frozen? ⟨k, 2, none⟩ = false ∧ W.frozen? ⟨k, 3, none⟩ = false ∧ W.frozen? ⟨k, 4, none⟩ = false ∧ W.frozen? ⟨k, 5, none⟩ = false :=
  ⟨h.lt, h.cs.1, h.cs.2.2.1, h.cs.2.2.2.2.1, h.cs.2.2.2.2.2.2.1, h.cs.2.2.2.2.2.2.2.2.1, h.cs.2.2.2.2.2.2.2.2.2.2.1, h.cs.2.1, h.cs.2.2.2.1, h.cs.2.2.2.2.2.1, h.cs.2.2.2.2.2.2.2.1, h.cs.2.2.2.2.2.2.2.2.2.1, h.cs.2.2.2.2.2.2.2.2.2.2.2.1⟩
section
variable {w W : World} {L : List (Nat × List Value)}
theorem BK.more6 (h : BK w L W) (a b c d e f : Value) (t : TypeId) : BK w ((W.heap.size, [a, b, c, d, e, f]) :: L) (W.alloc (.cells #[a, b, c, d, e, f] t)) := (h.below (below_box _ _)).cons (Blk.new6 _ _ _ _ _ _ _ _)
end
end Go.Proofs.YtmhpnmlgfdomkaaGreatDoor
