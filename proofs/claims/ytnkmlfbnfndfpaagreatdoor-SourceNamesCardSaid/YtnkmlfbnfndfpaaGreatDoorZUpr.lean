/- The document's answer of layer 9: a spot's texts. -/
import Derived.Test.YtnkmlfbnfndfpaaGreatDoorZUdig
import Derived.Test.YtnkmlfbnfndfpaaGreatDoorZUright
import Derived.Deep.RegionHeld3
import Derived.Outline
namespace Go.Proofs.YtnkmlfbnfndfpaaGreatDoor
open Go.RowKit
/-- What Print keeps: its spot, a month's and a weekday's text. -/
structure PB (w : World) (x0 x1 x2 x3 x4 x5 : Value) (k j : Nat) (mo wd : ByteArray) (W : World) : Prop where
  bx : Blk W w.heap.size [x0, x1, x2, x3, x4, x5]
  mc : W.cell? ⟨w.heap.size + 1, k, none⟩ = some (.string mo)
  wc : W.cell? ⟨w.heap.size + 2, j, none⟩ = some (.string wd)
  lt : w.heap.size + 3 ≤ W.heap.size
  hb : Below w.heap.size w W
section
variable {w W W' : World} {x0 x1 x2 x3 x4 x5 : Value} {k j : Nat} {mo wd : ByteArray}
theorem PB.below (h : PB w x0 x1 x2 x3 x4 x5 k j mo wd W) (b : Below W.heap.size W W') : PB w x0 x1 x2 x3 x4 x5 k j mo wd W' :=
  have l := h.lt
  ⟨h.bx.below b, (b.cell (p := ⟨_, _, none⟩) (by show _ + 1 < _; omega)).trans h.mc, (b.cell (p := ⟨_, _, none⟩) (by show _ + 2 < _; omega)).trans h.wc, Nat.le_trans l b.size, below_thru h.hb b⟩
theorem PB.drew (h : PB w x0 x1 x2 x3 x4 x5 k j mo wd W) : PB w x0 x1 x2 x3 x4 x5 k j mo wd W.drew := h.below (Below.refl _ _).drew
end
end Go.Proofs.YtnkmlfbnfndfpaaGreatDoor
