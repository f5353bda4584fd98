/- The document's answer of layer 9: a spot's texts. -/
import Derived.Test.YtkkdclibbdeejaaDoorXUdig
import Derived.Test.YtkkdclibbdeejaaDoorXUright
import Derived.Deep.RegionHeld3
import Derived.Outline
set_option maxRecDepth 100000
set_option maxHeartbeats 64000000
namespace Go.Proofs.YtkkdclibbdeejaaDoor
open Go.RowKit
def mon3 : List ByteArray := [⟨#[74, 97, 110]⟩, ⟨#[70, 101, 98]⟩, ⟨#[77, 97, 114]⟩, ⟨#[65, 112, 114]⟩, ⟨#[77, 97, 121]⟩, ⟨#[74, 117, 110]⟩, ⟨#[74, 117, 108]⟩, ⟨#[65, 117, 103]⟩, ⟨#[83, 101, 112]⟩, ⟨#[79, 99, 116]⟩, ⟨#[78, 111, 118]⟩, ⟨#[68, 101, 99]⟩]
def wd3 : List ByteArray := [⟨#[]⟩, ⟨#[77, 111, 110]⟩, ⟨#[84, 117, 101]⟩, ⟨#[87, 101, 100]⟩, ⟨#[84, 104, 117]⟩, ⟨#[70, 114, 105]⟩, ⟨#[83, 97, 116]⟩, ⟨#[83, 117, 110]⟩]
structure PB (w : World) (x0 x1 x2 x3 x4 x5 : Value) (k j : Nat) (mo wd : ByteArray) (W : World) : Prop where
  bx : Blk W w.heap.size [x0, x1, x2, x3, x4, x5]
  mc : W.cell? ⟨w.heap.size + 1, k, none⟩ = some (.string mo)
  wc : W.cell? ⟨w.heap.size + 2, j, none⟩ = some (.string wd)
  lt : w.heap.size + 3 ≤ W.heap.size
  hb : Below w.heap.size w W
section
variable {w W W' : World} {x0 x1 x2 x3 x4 x5 : Value} {k j : Nat} {mo wd : ByteArray}
theorem PB.below (h : PB w x0 x1 x2 x3 x4 x5 k j mo wd W) (b : Below W.heap.size W W') : PB w x0 x1 x2 x3 x4 x5 k j mo wd W' :=
  have l := h.lt
  ⟨h.bx.below b, (b.cell (p := ⟨_, _, none⟩) (by show _ + 1 < _; omega)).trans h.mc, (b.cell (p := ⟨_, _, none⟩) (by show _ + 2 < _; omega)).trans h.wc, Nat.le_trans l b.size, below_thru h.hb b⟩
theorem PB.drew (h : PB w x0 x1 x2 x3 x4 x5 k j mo wd W) : PB w x0 x1 x2 x3 x4 x5 k j mo wd W.drew := h.below (Below.refl _ _).drew
end
theorem PB.start (w : World) (x0 x1 x2 x3 x4 x5 : Value) (k j : Nat) (mo wd : ByteArray) (em : mon3[k]? = some mo) (ew : wd3[j]? = some wd) (t t' : TypeId) :
    PB w x0 x1 x2 x3 x4 x5 k j mo wd (((w.alloc (.cells #[x0, x1, x2, x3, x4, x5] t)).alloc (.cells (strs mon3).toArray t')).alloc (.cells (strs wd3).toArray t')) := by
  have b1 := Blk.new6 w x0 x1 x2 x3 x4 x5 t
  generalize hu : w.alloc (.cells #[x0, x1, x2, x3, x4, x5] t) = u at *
  have s1 : u.heap.size = w.heap.size + 1 := by rw [← hu]; simp
  have B1 : Below w.heap.size w u := by rw [← hu]; exact below_box _ _
  have B2 := below_box u (.cells (strs mon3).toArray t')
  have B3 := below_box (u.alloc (.cells (strs mon3).toArray t')) (.cells (strs wd3).toArray t')
  obtain ⟨hk, rfl⟩ := List.getElem?_eq_some_iff.1 em
  obtain ⟨hj, rfl⟩ := List.getElem?_eq_some_iff.1 ew
  refine ⟨(b1.below B2).below B3, ?_, ?_, by simp; omega, below_thru (below_thru B1 B2) B3⟩
  · have c : (u.alloc (.cells (strs mon3).toArray t')).cell? ⟨w.heap.size + 1, k, none⟩ = some (.string mon3[k]) := by rw [← s1]; simp [strs, hk]
    exact (B3.cell (p := ⟨_, _, none⟩) (by show w.heap.size + 1 < _; simp; omega)).trans c
  · rw [show w.heap.size + 2 = (u.alloc (.cells (strs mon3).toArray t')).heap.size by simp; omega]
    simp [strs, hj]
end Go.Proofs.YtkkdclibbdeejaaDoor
