/- Package clock: the table of how many numbers each field may be, as it lies in memory. -/
import Derived.Test.YteggdabnhdjfcaaDoorGm
namespace Go.Proofs.YteggdabnhdjfcaaDoor
open Go.RowKit

/-- the table's block holds how many numbers the hour, the minute, the second and the nanosecond may be -/
structure Sizes (w : World) : Prop where
  lt : 0 < w.heap.size
  c0 : w.cell? ⟨0, 0, none⟩ = some (.int .i64 24)
  c1 : w.cell? ⟨0, 1, none⟩ = some (.int .i64 60)
  c2 : w.cell? ⟨0, 2, none⟩ = some (.int .i64 60)
  c3 : w.cell? ⟨0, 3, none⟩ = some (.int .i64 1000000000)
theorem Sizes.mono {w W : World} (L : Sizes w) (h : Below w.heap.size w W) : Sizes W :=
  ⟨Nat.lt_of_lt_of_le L.lt h.size, (h.cell (p := ⟨0, 0, none⟩) L.lt).trans L.c0, (h.cell (p := ⟨0, 1, none⟩) L.lt).trans L.c1,
    (h.cell (p := ⟨0, 2, none⟩) L.lt).trans L.c2, (h.cell (p := ⟨0, 3, none⟩) L.lt).trans L.c3⟩
end Go.Proofs.YteggdabnhdjfcaaDoor
