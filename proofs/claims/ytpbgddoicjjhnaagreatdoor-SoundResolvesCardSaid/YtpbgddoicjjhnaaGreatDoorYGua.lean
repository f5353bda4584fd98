import Derived.Test.YtpbgddoicjjhnaaGreatDoorYGu
import Derived.Test.YtpbgddoicjjhnaaGreatDoorYGsix
import Derived.Deep.RegionHeld3
import Derived.Outline
import Derived.Test.YtpbgddoicjjhnaaGreatDoorYGhs
import Derived.Test.YtpbgddoicjjhnaaGreatDoorYUdig
set_option maxRecDepth 100000
set_option maxHeartbeats 64000000
namespace Go.Proofs.YtpbgddoicjjhnaaGreatDoor
open Go.RowKit
def Sp.ok (x : Sp) : Prop := (1 ≤ x.mo ∧ x.mo ≤ 12) ∧ (0 ≤ x.ki ∧ x.ki ≤ 3) ∧ (-604799 ≤ x.ti ∧ x.ti ≤ 604799) ∧ (0 ≤ x.re ∧ x.re ≤ 2) ∧ (x.ki = 0 → x.wd = 0) ∧ (x.ki ≠ 0 → 1 ≤ x.wd ∧ x.wd ≤ 7) ∧ (x.ki = 1 → x.da = 0) ∧ (x.ki ≠ 1 → 1 ≤ x.da ∧ x.da ≤ 31)
instance (x : Sp) : Decidable x.ok := by unfold Sp.ok; infer_instance
structure PB (w : World) (x0 x1 x2 x3 x4 x5 : Value) (k j : Nat) (mo wd : ByteArray) (W : World) : Prop where
  bx : Blk W w.heap.size [x0, x1, x2, x3, x4, x5]
  mc : W.cell? ⟨w.heap.size + 1, k, none⟩ = some (.string mo)
  wc : W.cell? ⟨w.heap.size + 2, j, none⟩ = some (.string wd)
  lt : w.heap.size + 3 ≤ W.heap.size
  hb : Below w.heap.size w W
section
variable {w W W' : World} {x0 x1 x2 x3 x4 x5 : Value} {k j : Nat} {mo wd : ByteArray}
end
end Go.Proofs.YtpbgddoicjjhnaaGreatDoor
namespace Go.Proofs.YtpbgddoicjjhnaaGreatDoor
open Go.RowKit
theorem CellsAt.get {W : World} {b : Nat} : ∀ {vs : List Value} {j : Nat}, CellsAt W b j vs → ∀ (i : Nat) (v : Value), vs[i]? = some v → W.cell? ⟨b, j + i, none⟩ = some v ∧ W.frozen? ⟨b, j + i, none⟩ = false
  | [], _, _, i, v, e => by simp at e
  | u :: vs, j, hc, 0, v, e => by
    obtain rfl : u = v := by simpa using e
    exact ⟨hc.1, hc.2.1⟩
  | u :: vs, j, hc, i + 1, v, e => by
    have := CellsAt.get hc.2.2 i v (by simpa using e)
    rwa [show j + 1 + i = j + (i + 1) by omega] at this
theorem Blk.cell {W : World} {b : Nat} {vs : List Value} (h : Blk W b vs) (i : Nat) {v : Value} (e : vs[i]? = some v) : W.cell? ⟨b, i, none⟩ = some v := by
  have := (h.cs.get i v e).1
  rwa [Nat.zero_add] at this
theorem Blk.thaw {W : World} {b : Nat} {vs : List Value} (h : Blk W b vs) (i : Nat) {v : Value} (e : vs[i]? = some v) : W.frozen? ⟨b, i, none⟩ = false := by
  have := (h.cs.get i v e).2
  rwa [Nat.zero_add] at this
theorem CellsAt.of {W : World} {b : Nat} : ∀ {vs : List Value} {j : Nat}, (∀ (i : Nat) (v : Value), vs[i]? = some v → W.cell? ⟨b, j + i, none⟩ = some v ∧ W.frozen? ⟨b, j + i, none⟩ = false) → CellsAt W b j vs
  | [], _, _ => trivial
  | v :: vs, j, h => ⟨(h 0 v rfl).1, (h 0 v rfl).2, CellsAt.of fun i u e => by
    have := h (i + 1) u (by simpa using e)
    rwa [show j + (i + 1) = j + 1 + i by omega] at this⟩
section
variable {w W : World} {L : List (Nat × List Value)}
end
end Go.Proofs.YtpbgddoicjjhnaaGreatDoor
