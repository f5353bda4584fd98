/- Blocks made, kept and known whole; what a walk keeps of memory. No program here (but for one type's name). -/
import Derived.Test.YtmhpnmlgfdomkaaGreatDoorZGm
import Derived.Laws.AppendOwn
set_option maxRecDepth 100000
set_option maxHeartbeats 64000000
namespace Go.Proofs.YtmhpnmlgfdomkaaGreatDoor
open Go.RowKit
theorem blk_lo {lo : Nat} {W W' : World} (h : Below lo W W') {x : Nat} (hx : x < lo) {vs : List Value} (hB : Blk W x vs) : Blk W' x vs :=
  ⟨Nat.lt_of_lt_of_le hB.lt h.size, hB.cs.mono fun i => ⟨h.cell (p := ⟨_, i, none⟩) hx, h.frozen (p := ⟨_, i, none⟩) hx⟩⟩
theorem blk_grown {W W' : World} {row : Option Nat} (h : W.grownBy W' row) {x : Nat} (hx : ∀ r, row = some r → r ≠ x) {vs : List Value} (hB : Blk W x vs) : Blk W' x vs :=
  have e : W'.heap[x]? = W.heap[x]? := h.block x hB.lt fun c => hx x c.symm rfl
  ⟨Nat.lt_of_lt_of_le hB.lt h.size, hB.cs.mono fun i => ⟨World.cell?_of_block (w := W) (a := ⟨x, i, none⟩) e, World.frozen?_of_block (w := W) (a := ⟨x, i, none⟩) e⟩⟩
theorem below_grown {B : Nat} {w W W' : World} {row : Option Nat} (h : W.grownBy W' row) (hx : ∀ r, row = some r → B ≤ r) (hB : Below B w W) (hs : B ≤ w.heap.size) : Below B w W' :=
  ⟨h.os.trans hB.os, h.tape.trans hB.tape, h.output.trans hB.output, Nat.le_trans hB.size h.size, fun k hk => (h.block k (Nat.lt_of_lt_of_le (Nat.lt_of_lt_of_le hk hs) hB.size) fun c => by have := hx k c.symm; omega).trans (hB.block k hk)⟩
theorem blk_lit (W : World) (E : TypeId) (vs : List Value) : Blk (W.alloc (.cells vs.toArray E)) W.heap.size vs := by
  have key : ∀ (us : List Value) (k : Nat), (∀ (j : Nat) (h : j < us.length), vs[k + j]? = some us[j]) → CellsAt (W.alloc (.cells vs.toArray E)) W.heap.size k us := by
    intro us
    induction us with
    | nil => intro k _; trivial
    | cons u r ih =>
      intro k h
      have h0 := h 0 (by simp)
      refine ⟨?_, ?_, ih (k + 1) fun j hj => ?_⟩
      · have := h0
        simp at this
        simp [this]
      · simp
      · have := h (j + 1) (by simpa using hj)
        rw [show k + 1 + j = k + (j + 1) by omega]
        simpa using this
  exact ⟨by simp, key vs 0 fun j hj => by rw [Nat.zero_add, List.getElem?_eq_getElem hj]⟩
theorem blk_news {W : World} {b : Nat} {vs : List Value} (h : Blk W b vs) : ∀ j u, vs[j]? = some u → W.cell? ((⟨b, 0, none⟩ : Addr).add j) = some u := by
  have key : ∀ (us : List Value) (k : Nat), CellsAt W b k us → ∀ (j : Nat) (u : Value), us[j]? = some u → W.cell? ⟨b, k + j, none⟩ = some u := by
    intro us
    induction us with
    | nil => intro k _ j u hu; simp at hu
    | cons x r ih =>
      intro k hc j u hu
      cases j with
      | zero => simp at hu; subst hu; exact hc.1
      | succ j => have := ih (k + 1) hc.2.2 j u (by simpa using hu); rw [show k + (j + 1) = k + 1 + j by omega]; exact this
  intro j u hu
  have e : (⟨b, 0, none⟩ : Addr).add j = ⟨b, j, none⟩ := by
    unfold Addr.add
    by_cases z : j = 0
    · subst z; simp
    · simp [z]
  rw [e]
  have := key vs 0 h.cs j u hu
  rwa [Nat.zero_add] at this
theorem below_own {w X : World} (h : Below w.heap.size w X) : w.grownBy X none := ⟨h.os, h.tape, h.output, h.size, fun i hi _ => h.block i hi⟩
theorem Blk.elevenC {W : World} {b : Nat} {v0 v1 v2 v3 v4 v5 v6 v7 v8 v9 v10 : Value} (h : Blk W b [v0, v1, v2, v3, v4, v5, v6, v7, v8, v9, v10]) : W.cell? ⟨b, 0, none⟩ = some v0 ∧ W.cell? ⟨b, 1, none⟩ = some v1 ∧ W.cell? ⟨b, 2, none⟩ = some v2 ∧ W.cell? ⟨b, 3, none⟩ = some v3 ∧ W.cell? ⟨b, 4, none⟩ = some v4 ∧ W.cell? ⟨b, 5, none⟩ = some v5 ∧ W.cell? ⟨b, 6, none⟩ = some v6 ∧ W.cell? ⟨b, 7, none⟩ = some v7 ∧ W.cell? ⟨b, 8, none⟩ = some v8 ∧ W.cell? ⟨b, 9, none⟩ = some v9 ∧ W.cell? ⟨b, 10, none⟩ = some v10 := ⟨h.cs.1, h.cs.2.2.1, h.cs.2.2.2.2.1, h.cs.2.2.2.2.2.2.1, h.cs.2.2.2.2.2.2.2.2.1, h.cs.2.2.2.2.2.2.2.2.2.2.1, h.cs.2.2.2.2.2.2.2.2.2.2.2.2.1, h.cs.2.2.2.2.2.2.2.2.2.2.2.2.2.2.1, h.cs.2.2.2.2.2.2.2.2.2.2.2.2.2.2.2.2.1, h.cs.2.2.2.2.2.2.2.2.2.2.2.2.2.2.2.2.2.2.1, h.cs.2.2.2.2.2.2.2.2.2.2.2.2.2.2.2.2.2.2.2.2.1⟩
theorem Blk.thirteenC {W : World} {b : Nat} {v0 v1 v2 v3 v4 v5 v6 v7 v8 v9 v10 v11 v12 : Value} (h : Blk W b [v0, v1, v2, v3, v4, v5, v6, v7, v8, v9, v10, v11, v12]) : W.cell? ⟨b, 0, none⟩ = some v0 ∧ W.cell? ⟨b, 1, none⟩ = some v1 ∧ W.cell? ⟨b, 2, none⟩ = some v2 ∧ W.cell? ⟨b, 3, none⟩ = some v3 ∧ W.cell? ⟨b, 4, none⟩ = some v4 ∧ W.cell? ⟨b, 5, none⟩ = some v5 ∧ W.cell? ⟨b, 6, none⟩ = some v6 ∧ W.cell? ⟨b, 7, none⟩ = some v7 ∧ W.cell? ⟨b, 8, none⟩ = some v8 ∧ W.cell? ⟨b, 9, none⟩ = some v9 ∧ W.cell? ⟨b, 10, none⟩ = some v10 ∧ W.cell? ⟨b, 11, none⟩ = some v11 ∧ W.cell? ⟨b, 12, none⟩ = some v12 := ⟨h.cs.1, h.cs.2.2.1, h.cs.2.2.2.2.1, h.cs.2.2.2.2.2.2.1, h.cs.2.2.2.2.2.2.2.2.1, h.cs.2.2.2.2.2.2.2.2.2.2.1, h.cs.2.2.2.2.2.2.2.2.2.2.2.2.1, h.cs.2.2.2.2.2.2.2.2.2.2.2.2.2.2.1, h.cs.2.2.2.2.2.2.2.2.2.2.2.2.2.2.2.2.1, h.cs.2.2.2.2.2.2.2.2.2.2.2.2.2.2.2.2.2.2.1, h.cs.2.2.2.2.2.2.2.2.2.2.2.2.2.2.2.2.2.2.2.2.1, h.cs.2.2.2.2.2.2.2.2.2.2.2.2.2.2.2.2.2.2.2.2.2.2.1, h.cs.2.2.2.2.2.2.2.2.2.2.2.2.2.2.2.2.2.2.2.2.2.2.2.2.1⟩
end Go.Proofs.YtmhpnmlgfdomkaaGreatDoor
