/- Rows of structs in memory, as slices that came in or that a call has made show them. -/
import Derived.Test.YtnkmlfbnfndfpaaGreatDoorZGa
import Derived.Deep.Slices
import Derived.ChangeOld
import Derived.DataReads
import Derived.ProofKit
namespace Go.Proofs.YtnkmlfbnfndfpaaGreatDoor
open Go.ChangeShapes Go.WideShapes Go.RowKit Go.Deep
/-- The slice value '.slice A n c' reads as rows of k cells each. -/
structure Rs (k : Nat) (w : World) (A : Option Addr) (n c : Nat) (l : List (List Value)) : Prop where
  len : l.length = n
  cap : n ≤ c
  max : c ≤ maxLen
  cells : 0 < n → ∃ g o, A = some ⟨g, o, none⟩ ∧ g < w.heap.size ∧ ∀ (i : Nat) (h : i < l.length) (j : Nat) (u : Value), l[i][j]? = some u → w.cell? ⟨g, o + i * k + j, none⟩ = some u
theorem Rs.nil (k : Nat) (w : World) : Rs k w none 0 0 [] := ⟨rfl, Nat.le_refl _, by simp [maxLen], fun h => absurd h (by omega)⟩
theorem Rs.below {k : Nat} {w w' : World} {A : Option Addr} {n c : Nat} {l : List (List Value)} (h : Rs k w A n c l) (hb : Below w.heap.size w w') : Rs k w' A n c l :=
  ⟨h.len, h.cap, h.max, fun hn => by
    obtain ⟨g, o, e, hg, hc⟩ := h.cells hn
    exact ⟨g, o, e, Nat.lt_of_lt_of_le hg hb.size, fun i hi j u hu => (hb.cell (p := ⟨g, o + i * k + j, none⟩) hg).trans (hc i hi j u hu)⟩⟩
section
variable {H : Type} {enc : TypeId × Value → H} {W : World} {spare : Nat → Bool} {held : Bool}
end
end Go.Proofs.YtnkmlfbnfndfpaaGreatDoor
