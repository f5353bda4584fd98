/- Blocks of six cells; one cell of a block of any size written. No walk here. -/
import Derived.Test.YtnkmlfbnfndfpaaGreatDoorXGm
set_option maxRecDepth 100000
set_option maxHeartbeats 64000000
namespace Go.Proofs.YtnkmlfbnfndfpaaGreatDoor
open Go.RowKit
theorem Blk.new6 (W : World) (a b c d e f : Value) (t : TypeId) : Blk (W.alloc (.cells #[a, b, c, d, e, f] t)) W.heap.size [a, b, c, d, e, f] := ⟨by simp, by simp, by simp, by simp, by simp, by simp, by simp, by simp, by simp, by simp, by simp, by simp, by simp, trivial⟩
theorem Blk.six {W : World} {k : Nat} {a b c d e f : Value} (h : Blk W k [a, b, c, d, e, f]) : k < W.heap.size ∧ W.cell? ⟨k, 0, none⟩ = some a ∧ W.cell? ⟨k, 1, none⟩ = some b ∧ W.cell? ⟨k, 2, none⟩ = some c ∧ W.cell? ⟨k, 3, none⟩ = some d ∧ W.cell? ⟨k, 4, none⟩ = some e ∧ W.cell? ⟨k, 5, none⟩ = some f ∧ W.frozen? ⟨k, 0, none⟩ = false ∧ W.frozen? ⟨k, 1, none⟩ = false ∧ W.frozen? ⟨k, 2, none⟩ = false ∧ W.frozen? ⟨k, 3, none⟩ = false ∧ W.frozen? ⟨k, 4, none⟩ = false ∧ W.frozen? ⟨k, 5, none⟩ = false :=
  ⟨h.lt, h.cs.1, h.cs.2.2.1, h.cs.2.2.2.2.1, h.cs.2.2.2.2.2.2.1, h.cs.2.2.2.2.2.2.2.2.1, h.cs.2.2.2.2.2.2.2.2.2.2.1, h.cs.2.1, h.cs.2.2.2.1, h.cs.2.2.2.2.2.1, h.cs.2.2.2.2.2.2.2.1, h.cs.2.2.2.2.2.2.2.2.2.1, h.cs.2.2.2.2.2.2.2.2.2.2.2.1⟩
theorem Blk.self6 {W : World} {k : Nat} {a b c d e f : Value} (h : Blk W k [a, b, c, d, e, f]) (x0 x1 x2 x3 x4 x5 : Value) : Blk ((((((W.setCell ⟨k, 0, none⟩ x0).setCell ⟨k, 1, none⟩ x1).setCell ⟨k, 2, none⟩ x2).setCell ⟨k, 3, none⟩ x3).setCell ⟨k, 4, none⟩ x4).setCell ⟨k, 5, none⟩ x5) k [x0, x1, x2, x3, x4, x5] := h.self [x0, x1, x2, x3, x4, x5] rfl
section
variable {w W : World} {L : List (Nat × List Value)}
theorem BK.more6 (h : BK w L W) (a b c d e f : Value) (t : TypeId) : BK w ((W.heap.size, [a, b, c, d, e, f]) :: L) (W.alloc (.cells #[a, b, c, d, e, f] t)) := (h.below (below_box _ _)).cons (Blk.new6 _ _ _ _ _ _ _ _)
theorem BK.put6 {k : Nat} {a b c d e f : Value} (h : BK w ((k, [a, b, c, d, e, f]) :: L) W) (x0 x1 x2 x3 x4 x5 : Value) (hg : w.heap.size ≤ k) (ne : ∀ z ∈ L, k ≠ z.1) : BK w ((k, [x0, x1, x2, x3, x4, x5]) :: L) ((((((W.setCell ⟨k, 0, none⟩ x0).setCell ⟨k, 1, none⟩ x1).setCell ⟨k, 2, none⟩ x2).setCell ⟨k, 3, none⟩ x3).setCell ⟨k, 4, none⟩ x4).setCell ⟨k, 5, none⟩ x5) := h.put hg ne [x0, x1, x2, x3, x4, x5] rfl
end
end Go.Proofs.YtnkmlfbnfndfpaaGreatDoor
