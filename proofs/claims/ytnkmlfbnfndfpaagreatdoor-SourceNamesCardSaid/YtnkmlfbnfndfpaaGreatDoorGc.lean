import Derived.IntWalk
import Derived.Test.YtnkmlfbnfndfpaaGreatDoorGa
import Derived.Lib.Hide
import Derived.LoopTactic
import Derived.Outline
import Derived.Below
import Derived.BigQuiet
import Derived.Deep.QuietTactic
import Derived.Test.YtnkmlfbnfndfpaaGreatDoorGm
/- Days of the Gregorian calendar, as numbers: years, months, dates, weeks. No program here. -/
namespace Go.Proofs.YtnkmlfbnfndfpaaGreatDoor

def leap (y : Int) : Prop := y % 4 = 0 ∧ (y % 100 ≠ 0 ∨ y % 400 = 0)
instance (y : Int) : Decidable (leap y) := by unfold leap; infer_instance
def lenY (y : Int) : Int := if leap y then 366 else 365
def lenM (y m : Int) : Int :=
  if m = 1 ∨ m = 3 ∨ m = 5 ∨ m = 7 ∨ m = 8 ∨ m = 10 ∨ m = 12 then 31
  else if m = 4 ∨ m = 6 ∨ m = 9 ∨ m = 11 then 30
  else if m = 2 then (if leap y then 29 else 28) else 0
/-- the number of a year's first day -/
def jan (y : Int) : Int := 365 * y + (y + 3) / 4 - (y + 99) / 100 + (y + 399) / 400 - 719528
/-- how many days of the year lie ahead of month m -/
def cum (y m : Int) : Int :=
  if m ≤ 1 then 0 else if m = 2 then 31 else
  (if leap y then 1 else 0) + (if m = 3 then 59 else if m = 4 then 90 else if m = 5 then 120 else if m = 6 then 151 else if m = 7 then 181 else if m = 8 then 212 else if m = 9 then 243 else if m = 10 then 273 else if m = 11 then 304 else if m = 12 then 334 else 365)
/-- a date's number -/
def numD (y m d : Int) : Int := jan y + cum y m + (d - 1)
/-- the fields are a day's -/
def dayOk (y m d : Int) : Prop := 1 ≤ m ∧ m ≤ 12 ∧ 1 ≤ d ∧ d ≤ lenM y m
/-- a right date -/
def okD (y m d : Int) : Prop := dayOk y m d ∧ -100000001 ≤ numD y m d ∧ numD y m d ≤ 100000000
instance (y m d : Int) : Decidable (dayOk y m d) := by unfold dayOk; infer_instance
instance (y m d : Int) : Decidable (okD y m d) := by unfold okD; infer_instance

theorem lenY_range (y : Int) : 365 ≤ lenY y ∧ lenY y ≤ 366 := by unfold lenY; split <;> omega
theorem jan_succ (y : Int) : jan (y + 1) = jan y + lenY y := by
  unfold jan lenY
  by_cases h : leap y
  · rw [if_pos h]; unfold leap at h; omega
  · rw [if_neg h]; unfold leap at h; omega
theorem jan_cycle (c : Int) : jan (400 * c) = c * 146097 - 719528 := by unfold jan; omega
theorem jan_400 (y : Int) : jan (y + 400) = jan y + 146097 := by unfold jan; omega
theorem jan_add (y : Int) (k : Nat) : jan y + 365 * k ≤ jan (y + k) := by
  induction k with
  | zero => simp
  | succ k ih =>
    have := jan_succ (y + k)
    have := (lenY_range (y + k)).1
    rw [show y + ((k + 1 : Nat) : Int) = y + k + 1 by omega]
    omega
theorem jan_lt {a b : Int} (h : a < b) : jan a + 365 ≤ jan b := by
  obtain ⟨k, hk⟩ : ∃ k : Nat, b = a + k := ⟨(b - a).toNat, by omega⟩
  have := jan_add a k
  rw [← hk] at this
  omega
theorem jan_le {a b : Int} (h : a ≤ b) : jan a ≤ jan b := by
  rcases Int.lt_or_eq_of_le h with h | h
  · have := jan_lt h; omega
  · rw [h]; exact Int.le_refl _
theorem lenM_range {y m : Int} (h1 : 1 ≤ m) (h2 : m ≤ 12) : 28 ≤ lenM y m ∧ lenM y m ≤ 31 := by
  have hm : m = 1 ∨ m = 2 ∨ m = 3 ∨ m = 4 ∨ m = 5 ∨ m = 6 ∨ m = 7 ∨ m = 8 ∨ m = 9 ∨ m = 10 ∨ m = 11 ∨ m = 12 := by omega
  rcases hm with rfl | rfl | rfl | rfl | rfl | rfl | rfl | rfl | rfl | rfl | rfl | rfl <;> unfold lenM <;> simp
  split <;> omega
theorem lenM_no {y m : Int} (h : m < 1 ∨ 12 < m) : lenM y m = 0 := by
  unfold lenM
  rw [if_neg (by omega), if_neg (by omega), if_neg (by omega)]
theorem lenM_le (y m : Int) : 0 ≤ lenM y m ∧ lenM y m ≤ 31 := by
  by_cases h : 1 ≤ m ∧ m ≤ 12
  · have := lenM_range (y := y) h.1 h.2; omega
  · rw [lenM_no (by omega)]; omega
theorem cum_one (y : Int) : cum y 1 = 0 := by unfold cum; rw [if_pos (by omega)]
theorem cum_succ {y m : Int} (h1 : 1 ≤ m) (h2 : m ≤ 12) : cum y (m + 1) = cum y m + lenM y m := by
  have hm : m = 1 ∨ m = 2 ∨ m = 3 ∨ m = 4 ∨ m = 5 ∨ m = 6 ∨ m = 7 ∨ m = 8 ∨ m = 9 ∨ m = 10 ∨ m = 11 ∨ m = 12 := by omega
  rcases hm with rfl | rfl | rfl | rfl | rfl | rfl | rfl | rfl | rfl | rfl | rfl | rfl <;> unfold cum lenM <;> simp <;> (try split) <;> omega
theorem cum_end (y : Int) : cum y 13 = lenY y := by unfold cum lenY; simp; split <;> omega
theorem cum_range {y m : Int} (h1 : 1 ≤ m) (h2 : m ≤ 13) : 0 ≤ cum y m ∧ cum y m ≤ lenY y := by
  have hm : m = 1 ∨ m = 2 ∨ m = 3 ∨ m = 4 ∨ m = 5 ∨ m = 6 ∨ m = 7 ∨ m = 8 ∨ m = 9 ∨ m = 10 ∨ m = 11 ∨ m = 12 ∨ m = 13 := by omega
  rcases hm with rfl | rfl | rfl | rfl | rfl | rfl | rfl | rfl | rfl | rfl | rfl | rfl | rfl <;> unfold cum lenY <;> simp <;> split <;> omega
theorem cum_mono {y m : Int} (h1 : 1 ≤ m) (k : Nat) (h2 : m + k ≤ 13) : cum y m ≤ cum y (m + k) := by
  induction k with
  | zero => simp
  | succ k ih =>
    have := ih (by omega)
    have e := cum_succ (y := y) (m := m + k) (by omega) (by omega)
    have := (lenM_le y (m + k)).1
    rw [show m + ((k + 1 : Nat) : Int) = m + k + 1 by omega]
    omega
theorem cum_lt {y m m' : Int} (h1 : 1 ≤ m) (h : m < m') (h2 : m' ≤ 13) : cum y m + lenM y m ≤ cum y m' := by
  rw [← cum_succ h1 (by omega)]
  obtain ⟨k, hk⟩ : ∃ k : Nat, m' = m + 1 + k := ⟨(m' - m - 1).toNat, by omega⟩
  rw [hk]
  exact cum_mono (by omega) k (by omega)
/-- a day lies in its year -/
theorem num_year {y m d : Int} (h : dayOk y m d) : jan y ≤ numD y m d ∧ numD y m d < jan (y + 1) := by
  obtain ⟨h1, h2, h3, h4⟩ := h
  have a := cum_range (y := y) (m := m) h1 (by omega)
  have b := cum_succ (y := y) h1 h2
  have c := cum_range (y := y) (m := m + 1) (by omega) (by omega)
  rw [jan_succ]
  unfold numD
  omega
/-- two days of one number are one day -/
theorem num_inj {y m d y' m' d' : Int} (h : dayOk y m d) (h' : dayOk y' m' d') (e : numD y m d = numD y' m' d') : y = y' ∧ m = m' ∧ d = d' := by
  have a := num_year h
  have b := num_year h'
  have ey : y = y' := by
    rcases Int.lt_trichotomy y y' with k | k | k
    · have := jan_le (show y + 1 ≤ y' by omega); omega
    · exact k
    · have := jan_le (show y' + 1 ≤ y by omega); omega
  subst ey
  obtain ⟨h1, h2, h3, h4⟩ := h
  obtain ⟨g1, g2, g3, g4⟩ := h'
  unfold numD at e
  have em : m = m' := by
    rcases Int.lt_trichotomy m m' with k | k | k
    · have := cum_lt (y := y) h1 k (by omega); omega
    · exact k
    · have := cum_lt (y := y) g1 k (by omega); omega
  subst em
  exact ⟨rfl, rfl, by omega⟩
theorem year_find (n : Int) (k : Nat) : ∀ y : Int, jan y ≤ n → n < jan (y + k) → ∃ y' : Int, jan y' ≤ n ∧ n < jan (y' + 1) := by
  induction k with
  | zero => intro y h1 h2; simp at h2; omega
  | succ k ih =>
    intro y h1 h2
    by_cases h : n < jan (y + 1)
    · exact ⟨y, h1, h⟩
    · exact ih (y + 1) (by omega) (by rw [show y + 1 + (k : Int) = y + ((k + 1 : Nat) : Int) by omega]; exact h2)
/-- every number has its year -/
theorem year_of (n : Int) : ∃ y : Int, jan y ≤ n ∧ n < jan (y + 1) := by
  have a := jan_cycle ((n + 719528) / 146097)
  have b := jan_400 (400 * ((n + 719528) / 146097))
  exact year_find n 400 (400 * ((n + 719528) / 146097)) (by omega) (by show n < jan (400 * ((n + 719528) / 146097) + 400); omega)
/-- every number has its day -/
theorem day_of (n : Int) : ∃ y m d : Int, dayOk y m d ∧ numD y m d = n := by
  obtain ⟨y, h1, h2⟩ := year_of n
  rw [jan_succ, ← cum_end] at h2
  have find : ∀ (k : Nat) (m : Int), 1 ≤ m → m + k = 13 → cum y m ≤ n - jan y → ∃ m' : Int, 1 ≤ m' ∧ m' ≤ 12 ∧ cum y m' ≤ n - jan y ∧ n - jan y < cum y (m' + 1) := by
    intro k
    induction k with
    | zero => intro m _ e h; have : m = 13 := by omega
              rw [this] at h; omega
    | succ k ih =>
      intro m hm e h
      by_cases c : n - jan y < cum y (m + 1)
      · exact ⟨m, hm, by omega, h, c⟩
      · exact ih (m + 1) (by omega) (by omega) (by omega)
  obtain ⟨m, m1, m2, c1, c2⟩ := find 12 1 (by omega) (by omega) (by rw [cum_one]; omega)
  rw [cum_succ m1 m2] at c2
  exact ⟨y, m, n - jan y - cum y m + 1, ⟨m1, m2, by omega, by omega⟩, by unfold numD; omega⟩
/-- the years of right dates -/
theorem ok_year {y m d : Int} (h : okD y m d) : -271821 ≤ y ∧ y ≤ 275760 := by
  obtain ⟨h0, h1, h2⟩ := h
  have a := num_year h0
  constructor
  · apply Classical.byContradiction
    intro c
    have := jan_le (show y + 1 ≤ -271821 by omega)
    rw [show jan (-271821) = -100000109 by decide] at this
    omega
  · apply Classical.byContradiction
    intro c
    have := jan_le (show (275761 : Int) ≤ y by omega)
    rw [show jan 275761 = 100000110 by decide] at this
    omega
/-- Monday is 1, Sunday 7 -/
def wday (n : Int) : Int := (n + 3) % 7 + 1
theorem wday_range (n : Int) : 1 ≤ wday n ∧ wday n ≤ 7 := by unfold wday; omega
theorem wday_next (n : Int) : wday (n + 1) = wday n % 7 + 1 := by unfold wday; omega
theorem wday_seven (n : Int) : wday (n + 7) = wday n := by unfold wday; omega
/-- the Thursday of a day's week -/
def thu (n : Int) : Int := n + 4 - wday n
theorem thu_near (n : Int) : n - 3 ≤ thu n ∧ thu n ≤ n + 3 := by unfold thu wday; omega
theorem thu_seven (n : Int) : thu (n + 7) = thu n + 7 := by unfold thu wday; omega
/-- which Thursday of its year -/
def wk (t y : Int) : Int := (t - jan y) / 7 + 1
end Go.Proofs.YtnkmlfbnfndfpaaGreatDoor

/- The document's answer of layer 5: lengths of years and months, quotients, first days of years. -/
namespace Go.Proofs.YtnkmlfbnfndfpaaGreatDoor
open Go.RowKit

theorem tmod_zero (y k : Int) : y.tmod k = 0 ↔ y % k = 0 := by rw [← Int.dvd_iff_tmod_eq_zero, ← Int.dvd_iff_emod_eq_zero]
theorem tdiv_parts (a b : Int) (hb : 0 < b) : ∃ T R : Int, a.tdiv b = T ∧ a = b * T + R ∧ -b < R ∧ R < b ∧ (0 ≤ a → 0 ≤ R) ∧ (a ≤ 0 → R ≤ 0) := by
  have e := Int.tmod_add_mul_tdiv a b
  refine ⟨a.tdiv b, a.tmod b, rfl, by omega, ?_⟩
  rcases Int.le_total 0 a with h | h
  · have h1 := Int.tmod_nonneg b h
    have h2 := Int.tmod_lt_of_pos a hb
    exact ⟨by omega, h2, fun _ => h1, fun k => by have : a = 0 := by omega
                                                  rw [this]; simp⟩
  · have h1 := Int.tmod_nonneg (a := -a) b (by omega)
    have h2 := Int.tmod_lt_of_pos (-a) hb
    rw [Int.neg_tmod] at h1 h2
    exact ⟨by omega, by omega, fun k => by have : a = 0 := by omega
                                           rw [this]; simp, fun _ => by omega⟩
end Go.Proofs.YtnkmlfbnfndfpaaGreatDoor

/- The document's answer of layer 5: the number of a year's first day, and of a date. -/
namespace Go.Proofs.YtnkmlfbnfndfpaaGreatDoor
open Go.RowKit

theorem jan_bound {y : Int} (h1 : -300000 ≤ y) (h2 : y ≤ 300000) : -200000000 ≤ jan y ∧ jan y ≤ 200000000 := by unfold jan; omega
end Go.Proofs.YtnkmlfbnfndfpaaGreatDoor

/- The document's answer of layer 5: the number of a date. -/
namespace Go.Proofs.YtnkmlfbnfndfpaaGreatDoor
open Go.RowKit

/-- a number within bounds -/
def nv (n : Int) : Int := if -100000001 ≤ n ∧ n ≤ 100000000 then n else 0
def nk (n : Int) : Bool := decide (-100000001 ≤ n ∧ n ≤ 100000000)
theorem nv_no {n : Int} (h : n < -100000001 ∨ 100000000 < n) : nv n = 0 ∧ nk n = false := ⟨by unfold nv; rw [if_neg (by omega)], decide_eq_false (by omega)⟩
theorem nv_yes {n : Int} (h1 : -100000001 ≤ n) (h2 : n ≤ 100000000) : nv n = n ∧ nk n = true := ⟨by unfold nv; rw [if_pos ⟨h1, h2⟩], decide_eq_true ⟨h1, h2⟩⟩
/-- What a call that answers a number and a bool leaves. -/
def RetNumB (w : World) (n : Int) (ok : Bool) (e : Ending) (w' : World) : Prop := e = .returned (.tuple #[.int .i64 n, .bool ok]) ∧ Below w.heap.size w w'
/-- what Days tells -/
def dv (y m d : Int) : Int := if okD y m d then numD y m d else 0
end Go.Proofs.YtnkmlfbnfndfpaaGreatDoor

/- The document's answer of layer 5: the date of a number. -/
namespace Go.Proofs.YtnkmlfbnfndfpaaGreatDoor
open Go.RowKit

/-- What a call that answers a date and a bool leaves. -/
def RetDateB (w : World) (y m d : Int) (ok : Bool) (e : Ending) (w' : World) : Prop := e = .returned (.tuple #[.agg #[.int .i64 y, .int .i64 m, .int .i64 d], .bool ok]) ∧ Below w.heap.size w w'
end Go.Proofs.YtnkmlfbnfndfpaaGreatDoor

/- The document's answer of layer 5: right dates, weekdays, days of years, weeks. -/
namespace Go.Proofs.YtnkmlfbnfndfpaaGreatDoor
open Go.RowKit

/-- What a call that answers two numbers leaves. -/
def RetNN (w : World) (a b : Int) (e : Ending) (w' : World) : Prop := e = .returned (.tuple #[.int .i64 a, .int .i64 b]) ∧ Below w.heap.size w w'
/-- what Weekday and DayOfYear tell -/
def wdv (y m d : Int) : Int := if okD y m d then wday (numD y m d) else 0
def ydv (y m d : Int) : Int := if okD y m d then numD y m d - jan y + 1 else 0
end Go.Proofs.YtnkmlfbnfndfpaaGreatDoor

/- The document's answer of layer 5: dates made of fields, days added, dates held against one another. -/
namespace Go.Proofs.YtnkmlfbnfndfpaaGreatDoor
open Go.RowKit

/-- What a call that answers a date and an error's number leaves. -/
def RetDE (w : World) (y m d n : Int) (e : Ending) (w' : World) : Prop := e = .returned (.tuple #[.agg #[.int .i64 y, .int .i64 m, .int .i64 d], .int .i64 n]) ∧ Below w.heap.size w w'
/-- the nearest month, the nearest day -/
def clM (m : Int) : Int := if m < 1 then 1 else if 12 < m then 12 else m
def clD (y m d : Int) : Int := if d < 1 then 1 else if lenM y m < d then lenM y m else d
theorem cl_ok (y m d : Int) : dayOk y (clM m) (clD y (clM m) d) := by
  have hm : 1 ≤ clM m ∧ clM m ≤ 12 := by unfold clM; split <;> (try split) <;> omega
  have l := lenM_range (y := y) hm.1 hm.2
  refine ⟨hm.1, hm.2, ?_, ?_⟩ <;> unfold clD <;> split <;> (try split) <;> omega
theorem cl_same {y m d : Int} (h : dayOk y m d) : clM m = m ∧ clD y m d = d := by
  obtain ⟨h1, h2, h3, h4⟩ := h
  exact ⟨by unfold clM; rw [if_neg (by omega), if_neg (by omega)], by unfold clD; rw [if_neg (by omega), if_neg (by omega)]⟩
/-- which of two dates is ahead -/
def cmpD (y m d y' m' d' : Int) : Int := if y < y' then -1 else if y' < y then 1 else if m < m' then -1 else if m' < m then 1 else if d < d' then -1 else if d' < d then 1 else 0
end Go.Proofs.YtnkmlfbnfndfpaaGreatDoor
