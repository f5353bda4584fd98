/- Blocks of any number of cells: made, read and written by the list of what they hold. No walk here. -/
import Derived.Test.YtnkmlfbnfndfpaaGreatDoorZGsix
namespace Go.Proofs.YtnkmlfbnfndfpaaGreatDoor
open Go.RowKit
theorem CellsAt.get {W : World} {b : Nat} : ∀ {vs : List Value} {j : Nat}, CellsAt W b j vs → ∀ (i : Nat) (v : Value), vs[i]? = some v → W.cell? ⟨b, j + i, none⟩ = some v ∧ W.frozen? ⟨b, j + i, none⟩ = false
  | [], _, _, i, v, e => by simp at e
  | u :: vs, j, hc, 0, v, e => by
    obtain rfl : u = v := by simpa using e
    exact ⟨hc.1, hc.2.1⟩
  | u :: vs, j, hc, i + 1, v, e => by
    have := CellsAt.get hc.2.2 i v (by simpa using e)
    rwa [show j + 1 + i = j + (i + 1) by omega] at this
theorem Blk.cell {W : World} {b : Nat} {vs : List Value} (h : Blk W b vs) (i : Nat) {v : Value} (e : vs[i]? = some v) : W.cell? ⟨b, i, none⟩ = some v := by
  have := (h.cs.get i v e).1
  rwa [Nat.zero_add] at this
theorem CellsAt.of {W : World} {b : Nat} : ∀ {vs : List Value} {j : Nat}, (∀ (i : Nat) (v : Value), vs[i]? = some v → W.cell? ⟨b, j + i, none⟩ = some v ∧ W.frozen? ⟨b, j + i, none⟩ = false) → CellsAt W b j vs
  | [], _, _ => trivial
  | v :: vs, j, h => ⟨(h 0 v rfl).1, (h 0 v rfl).2, CellsAt.of fun i u e => by
    have := h (i + 1) u (by simpa using e)
    rwa [show j + (i + 1) = j + 1 + i by omega] at this⟩
section
variable {w W : World} {L : List (Nat × List Value)}
/-- one cell of the first block written -/
theorem BK.set {g : Nat} {vs : List Value} (h : BK w ((g, vs) :: L) W) (i : Nat) (z : Value) (hg : w.heap.size ≤ g) (ne : ∀ x ∈ L, g ≠ x.1) : BK w ((g, vs.set i z) :: L) (W.setCell ⟨g, i, none⟩ z) := h.one i z (h.head.at i z) hg ne
/-- the first two blocks change places -/
theorem BK.swap {x y : Nat × List Value} (h : BK w (x :: y :: L) W) : BK w (y :: x :: L) W := ⟨fun z hz => h.al z (by simp only [List.mem_cons] at hz ⊢; rcases hz with a | a | a <;> simp [a]), h.hb⟩
end
end Go.Proofs.YtnkmlfbnfndfpaaGreatDoor
