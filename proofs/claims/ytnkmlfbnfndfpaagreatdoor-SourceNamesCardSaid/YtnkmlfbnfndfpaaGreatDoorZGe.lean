import Derived.Test.YtnkmlfbnfndfpaaGreatDoorZGc
import Derived.StillTailTactics
/- Package civil: the table of the months' lengths as it lies in memory; leap years, months, days that a month has. -/
namespace Go.Proofs.YtnkmlfbnfndfpaaGreatDoor
open Go.RowKit
/-- the table's block holds the months' lengths -/
structure Lens (w : World) : Prop where
theorem Lens.mono {w W : World} (L : Lens w) (h : Below w.heap.size w W) : Lens W := by
  have _l := L
  have _b := h
  constructor <;> first | exact Nat.lt_of_lt_of_le L.lt h.size | exact fun k hk => (h.cell (p := ⟨_, k, none⟩) L.lt).trans (L.c k hk)
theorem Lens.drewN {w : World} (L : Lens w) (n : Nat) : Lens (w.drewN n) := L.mono (below_drewN (Below.refl _ _) n)
end Go.Proofs.YtnkmlfbnfndfpaaGreatDoor
/- Package civil: the first days of years and months, the year of a day. -/
namespace Go.Proofs.YtnkmlfbnfndfpaaGreatDoor
open Go.RowKit
end Go.Proofs.YtnkmlfbnfndfpaaGreatDoor
/- Package civil: the number of a date. -/
namespace Go.Proofs.YtnkmlfbnfndfpaaGreatDoor
open Go.RowKit
end Go.Proofs.YtnkmlfbnfndfpaaGreatDoor
/- Package civil: the date of a number. -/
namespace Go.Proofs.YtnkmlfbnfndfpaaGreatDoor
open Go.RowKit
end Go.Proofs.YtnkmlfbnfndfpaaGreatDoor
/- Package civil: right dates, weekdays, days of years, weeks. -/
namespace Go.Proofs.YtnkmlfbnfndfpaaGreatDoor
open Go.RowKit
end Go.Proofs.YtnkmlfbnfndfpaaGreatDoor
/- Package civil: dates made of fields, days added. -/
namespace Go.Proofs.YtnkmlfbnfndfpaaGreatDoor
open Go.RowKit
end Go.Proofs.YtnkmlfbnfndfpaaGreatDoor
/- Package civil: how two dates stand to each other. -/
namespace Go.Proofs.YtnkmlfbnfndfpaaGreatDoor
open Go.RowKit
/-- how two numbers stand to each other; the first of three that isn't 0 -/
def c3 (a b : Int) : Int := if a < b then -1 else if b < a then 1 else 0
end Go.Proofs.YtnkmlfbnfndfpaaGreatDoor
