/- The document's answer of layer 9: a spot's texts. -/
import Derived.Test.YtnkmlfbnfndfpaaGreatDoorYUdig
import Derived.Test.YtnkmlfbnfndfpaaGreatDoorYUright
import Derived.Deep.RegionHeld3
import Derived.Outline
namespace Go.Proofs.YtnkmlfbnfndfpaaGreatDoor
open Go.RowKit
def mon3 : List ByteArray := [⟨#[74, 97, 110]⟩, ⟨#[70, 101, 98]⟩, ⟨#[77, 97, 114]⟩, ⟨#[65, 112, 114]⟩, ⟨#[77, 97, 121]⟩, ⟨#[74, 117, 110]⟩, ⟨#[74, 117, 108]⟩, ⟨#[65, 117, 103]⟩, ⟨#[83, 101, 112]⟩, ⟨#[79, 99, 116]⟩, ⟨#[78, 111, 118]⟩, ⟨#[68, 101, 99]⟩]
def wd3 : List ByteArray := [⟨#[]⟩, ⟨#[77, 111, 110]⟩, ⟨#[84, 117, 101]⟩, ⟨#[87, 101, 100]⟩, ⟨#[84, 104, 117]⟩, ⟨#[70, 114, 105]⟩, ⟨#[83, 97, 116]⟩, ⟨#[83, 117, 110]⟩]
/-- What Print keeps: its spot, a month's and a weekday's text. -/
structure PB (w : World) (x0 x1 x2 x3 x4 x5 : Value) (k j : Nat) (mo wd : ByteArray) (W : World) : Prop where
  bx : Blk W w.heap.size [x0, x1, x2, x3, x4, x5]
  mc : W.cell? ⟨w.heap.size + 1, k, none⟩ = some (.string mo)
  wc : W.cell? ⟨w.heap.size + 2, j, none⟩ = some (.string wd)
  lt : w.heap.size + 3 ≤ W.heap.size
  hb : Below w.heap.size w W
section
variable {w W W' : World} {x0 x1 x2 x3 x4 x5 : Value} {k j : Nat} {mo wd : ByteArray}
theorem PB.below (h : PB w x0 x1 x2 x3 x4 x5 k j mo wd W) (b : Below W.heap.size W W') : PB w x0 x1 x2 x3 x4 x5 k j mo wd W' :=
  have l := h.lt
  ⟨h.bx.below b, (b.cell (p := ⟨_, _, none⟩) (by show _ + 1 < _; omega)).trans h.mc, (b.cell (p := ⟨_, _, none⟩) (by show _ + 2 < _; omega)).trans h.wc, Nat.le_trans l b.size, below_thru h.hb b⟩
theorem PB.drew (h : PB w x0 x1 x2 x3 x4 x5 k j mo wd W) : PB w x0 x1 x2 x3 x4 x5 k j mo wd W.drew := h.below (Below.refl _ _).drew
end
/-- the day's text, the time's, all three -/
def spDay (x : Sp) : ByteArray :=
  if x.ki = 0 then decB x.da.toNat else if x.ki = 1 then ⟨#[108, 97, 115, 116]⟩ ++ wd3.getD x.wd.toNat ⟨#[]⟩
  else if x.ki = 2 then wd3.getD x.wd.toNat ⟨#[]⟩ ++ ⟨#[62, 61]⟩ ++ decB x.da.toNat else wd3.getD x.wd.toNat ⟨#[]⟩ ++ ⟨#[60, 61]⟩ ++ decB x.da.toNat
def spClk (x : Sp) : ByteArray := if x.re = 0 then timeB x.ti else if x.re = 1 then timeB x.ti ++ ⟨#[115]⟩ else timeB x.ti ++ ⟨#[117]⟩
def spTexts (x : Sp) : List ByteArray := [mon3.getD (x.mo - 1).toNat ⟨#[]⟩, spDay x, spClk x]
theorem timeB_le (n : Int) (n1 : -9223372036854775808 ≤ n) (n2 : n ≤ 9223372036854775807) : (timeB n).size ≤ 26 := by
  have h1 := decB_le (n := n.natAbs / 3600) (by omega)
  have h2 := twB_size (n := n.natAbs / 60 % 60) (by omega)
  have h3 := twB_size (n := n.natAbs % 60) (by omega)
  have s1 : (⟨[58].toArray⟩ : ByteArray).size = 1 := rfl
  have s2 : ((if n < 0 then ⟨[45].toArray⟩ else ⟨[].toArray⟩) : ByteArray).size ≤ 1 := by split <;> decide
  unfold timeB
  split <;> simp only [ByteArray.size_append, s1] <;> omega
theorem wd3_size : ∀ k, k < 8 → (wd3.getD k ⟨#[]⟩).size ≤ 3 := by decide
end Go.Proofs.YtnkmlfbnfndfpaaGreatDoor
