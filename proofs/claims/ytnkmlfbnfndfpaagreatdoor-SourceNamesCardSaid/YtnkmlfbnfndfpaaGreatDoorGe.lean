import Derived.Test.YtnkmlfbnfndfpaaGreatDoorGc
import Derived.StillTailTactics
/- Package civil: the table of the months' lengths as it lies in memory; leap years, months, days that a month has. -/
namespace Go.Proofs.YtnkmlfbnfndfpaaGreatDoor
open Go.RowKit

/-- the months' lengths as the table holds them -/
def lenTab (k : Nat) : Int := if k = 1 then 28 else if k = 3 ∨ k = 5 ∨ k = 8 ∨ k = 10 then 30 else 31
/-- the table's block holds the months' lengths -/
structure Lens (w : World) : Prop where
theorem Lens.mono {w W : World} (L : Lens w) (h : Below w.heap.size w W) : Lens W := by
  have _l := L
  have _b := h
  constructor <;> first | exact Nat.lt_of_lt_of_le L.lt h.size | exact fun k hk => (h.cell (p := ⟨_, k, none⟩) L.lt).trans (L.c k hk)
theorem Lens.drewN {w : World} (L : Lens w) (n : Nat) : Lens (w.drewN n) := L.mono (below_drewN (Below.refl _ _) n)
theorem tab_len (y : Int) {k : Nat} (hk : k < 12) (h : k ≠ 1) : lenTab k = lenM y ((k : Int) + 1) := by
  have : k = 0 ∨ k = 2 ∨ k = 3 ∨ k = 4 ∨ k = 5 ∨ k = 6 ∨ k = 7 ∨ k = 8 ∨ k = 9 ∨ k = 10 ∨ k = 11 := by omega
  rcases this with rfl | rfl | rfl | rfl | rfl | rfl | rfl | rfl | rfl | rfl | rfl <;> rfl
/-- a day of the month, as hasDay tells it -/
def hdB (y m d : Int) : Bool := decide (1 ≤ d ∧ d ≤ lenM y m)
theorem hdB_yes {y m d : Int} (h : dayOk y m d) : hdB y m d = true := decide_eq_true h.2.2
theorem hdB_no {y m d : Int} (h : ¬ dayOk y m d) : hdB y m d = false := decide_eq_false fun k => h ⟨by
  apply Classical.byContradiction; intro c; have := lenM_no (y := y) (m := m) (.inl (by omega)); omega, by
  apply Classical.byContradiction; intro c; have := lenM_no (y := y) (m := m) (.inr (by omega)); omega, k.1, k.2⟩
end Go.Proofs.YtnkmlfbnfndfpaaGreatDoor

/- Package civil: the first days of years and months, the year of a day. -/
namespace Go.Proofs.YtnkmlfbnfndfpaaGreatDoor
open Go.RowKit

theorem year_uniq {n a b : Int} (a1 : jan a ≤ n) (a2 : n < jan (a + 1)) (b1 : jan b ≤ n) (b2 : n < jan (b + 1)) : a = b := by
  rcases Int.lt_trichotomy a b with k | k | k
  · have := jan_le (show a + 1 ≤ b by omega); omega
  · exact k
  · have := jan_le (show b + 1 ≤ a by omega); omega
/-- the first guess of a day's year -/
def guess (n : Int) : Int := -272000 + (n + 100065488) / 146097 * 400 + (n + 100065488) % 146097 / 366
theorem guess_near {n : Int} (_h : -100065488 ≤ n) : jan (guess n) ≤ n ∧ n < jan (guess n + 2) := by
  obtain ⟨c, hc⟩ : ∃ c : Int, c = (n + 100065488) / 146097 := ⟨_, rfl⟩
  obtain ⟨r, hr⟩ : ∃ r : Int, r = (n + 100065488) % 146097 := ⟨_, rfl⟩
  obtain ⟨q, hq⟩ : ∃ q : Int, q = r / 366 := ⟨_, rfl⟩
  have e : guess n = 400 * (c - 680) + q := by unfold guess; rw [← hr, ← hq, ← hc]; omega
  rw [e]
  have hn : n = 146097 * c + r - 100065488 := by omega
  have r1 : 0 ≤ r := by omega
  have r2 : r < 146097 := by omega
  clear hc hr e
  have j1 : jan (400 * (c - 680) + q) = 146097 * (c - 680) - 719528 + (365 * q + (q + 3) / 4 - (q + 99) / 100 + (q + 399) / 400) := by unfold jan; omega
  have j2 : jan (400 * (c - 680) + q + 2) = 146097 * (c - 680) - 719528 + (365 * (q + 2) + (q + 5) / 4 - (q + 101) / 100 + (q + 401) / 400) := by unfold jan; omega
  rw [j1, j2]
  clear j1 j2
  omega
end Go.Proofs.YtnkmlfbnfndfpaaGreatDoor

/- Package civil: the number of a date. -/
namespace Go.Proofs.YtnkmlfbnfndfpaaGreatDoor
open Go.RowKit

end Go.Proofs.YtnkmlfbnfndfpaaGreatDoor

/- Package civil: the date of a number. -/
namespace Go.Proofs.YtnkmlfbnfndfpaaGreatDoor
open Go.RowKit

end Go.Proofs.YtnkmlfbnfndfpaaGreatDoor

/- Package civil: right dates, weekdays, days of years, weeks. -/
namespace Go.Proofs.YtnkmlfbnfndfpaaGreatDoor
open Go.RowKit

end Go.Proofs.YtnkmlfbnfndfpaaGreatDoor

/- Package civil: dates made of fields, days added. -/
namespace Go.Proofs.YtnkmlfbnfndfpaaGreatDoor
open Go.RowKit

end Go.Proofs.YtnkmlfbnfndfpaaGreatDoor

/- Package civil: how two dates stand to each other. -/
namespace Go.Proofs.YtnkmlfbnfndfpaaGreatDoor
open Go.RowKit

/-- how two numbers stand to each other; the first of three that isn't 0 -/
def c3 (a b : Int) : Int := if a < b then -1 else if b < a then 1 else 0
def or3 (a b c : Int) : Int := if a = 0 then (if b = 0 then c else b) else a
theorem or3_cmp (y m d y' m' d' : Int) : or3 (c3 y y') (c3 m m') (c3 d d') = cmpD y m d y' m' d' := by
  unfold or3 c3 cmpD
  repeat' split
  all_goals omega
end Go.Proofs.YtnkmlfbnfndfpaaGreatDoor
