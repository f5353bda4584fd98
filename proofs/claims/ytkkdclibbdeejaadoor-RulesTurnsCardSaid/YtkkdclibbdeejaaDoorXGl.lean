import Derived.Test.YtkkdclibbdeejaaDoorXGy
import Derived.Test.YtkkdclibbdeejaaDoorXGm
import Derived.Laws.CopyOwn
import Derived.BigQuiet
import Derived.Test.YtkkdclibbdeejaaDoorXGe
import Derived.Test.YtkkdclibbdeejaaDoorXGu
import Derived.Test.YtkkdclibbdeejaaDoorXGsix
set_option maxRecDepth 100000
set_option maxHeartbeats 64000000
namespace Go.Proofs.YtkkdclibbdeejaaDoor
open Go.RowKit
theorem CellsAt.put {b : Nat} : ∀ {vs : List Value} {W : World} {i : Nat} (k : Nat) (_ : k < vs.length) (z : Value), CellsAt W b i vs → CellsAt (W.setCell ⟨b, i + k, none⟩ z) b i (vs.set k z)
  | [], _, _, k, h, _, _ => by simp at h
  | u :: us, W, i, 0, _, z, hc => by
    refine ⟨World.cell?_setCell_same _ _ _ hc.1, by simpa using hc.2.1, ?_⟩
    have go : ∀ (l : List Value) (j : Nat), i < j → CellsAt W b j l → CellsAt (W.setCell ⟨b, i, none⟩ z) b j l := by
      intro l
      induction l with
      | nil => intro _ _ _; trivial
      | cons x l ih =>
        intro j hj hl
        exact ⟨by rw [World.cell?_setCell_other _ _ _ _ (by simp <;> omega)]; exact hl.1, by simpa using hl.2.1, ih (j + 1) (by omega) hl.2.2⟩
    exact go us (i + 1) (by omega) hc.2.2
  | u :: us, W, i, k + 1, h, z, hc => by
    have r := CellsAt.put (i := i + 1) (W := W) k (by simpa using h) z hc.2.2
    rw [show i + 1 + k = i + (k + 1) by omega] at r
    exact ⟨by rw [World.cell?_setCell_other _ _ _ _ (by simp <;> omega)]; exact hc.1, by simpa using hc.2.1, r⟩
theorem Blk.put {W : World} {b : Nat} {vs : List Value} (h : Blk W b vs) (k : Nat) (hk : k < vs.length) (z : Value) : Blk (W.setCell ⟨b, k, none⟩ z) b (vs.set k z) := by
  have r := h.cs.put k hk z
  rw [Nat.zero_add] at r
  exact ⟨by simpa [World.setCell] using h.lt, r⟩
theorem CellsAt.take {W : World} {b : Nat} : ∀ {vs us : List Value} {i : Nat}, CellsAt W b i (vs ++ us) → CellsAt W b i vs
  | [], _, _, _ => trivial
  | _ :: vs, us, _, h => ⟨h.1, h.2.1, CellsAt.take (vs := vs) (us := us) h.2.2⟩
structure TabS (g : Nat) (l : List ByteArray) (w : World) : Prop where
  lt : g < w.heap.size
  c : ∀ (k : Nat) (h : k < l.length), w.cell? ⟨g, k, none⟩ = some (.string l[k])
theorem TabS.mono {g : Nat} {l : List ByteArray} {w W : World} (T : TabS g l w) (h : Below w.heap.size w W) : TabS g l W :=
  ⟨Nat.lt_of_lt_of_le T.lt h.size, fun k hk => (h.cell (p := ⟨g, k, none⟩) T.lt).trans (T.c k hk)⟩
end Go.Proofs.YtkkdclibbdeejaaDoor
