import Derived.IntWalk
import Derived.Test.YtpbgddoicjjhnaaGreatDoorYGa
import Derived.Lib.Hide
import Derived.LoopTactic
import Derived.Outline
import Derived.Below
import Derived.BigQuiet
import Derived.Deep.QuietTactic
import Derived.Test.YtpbgddoicjjhnaaGreatDoorYGm
set_option maxRecDepth 100000
set_option maxHeartbeats 64000000
namespace Go.Proofs.YtpbgddoicjjhnaaGreatDoor
def leap (y : Int) : Prop := y % 4 = 0 ∧ (y % 100 ≠ 0 ∨ y % 400 = 0)
instance (y : Int) : Decidable (leap y) := by unfold leap; infer_instance
def lenY (y : Int) : Int := if leap y then 366 else 365
def lenM (y m : Int) : Int :=
  if m = 1 ∨ m = 3 ∨ m = 5 ∨ m = 7 ∨ m = 8 ∨ m = 10 ∨ m = 12 then 31
  else if m = 4 ∨ m = 6 ∨ m = 9 ∨ m = 11 then 30
  else if m = 2 then (if leap y then 29 else 28) else 0
def jan (y : Int) : Int := 365 * y + (y + 3) / 4 - (y + 99) / 100 + (y + 399) / 400 - 719528
def cum (y m : Int) : Int :=
  if m ≤ 1 then 0 else if m = 2 then 31 else
  (if leap y then 1 else 0) + (if m = 3 then 59 else if m = 4 then 90 else if m = 5 then 120 else if m = 6 then 151 else if m = 7 then 181 else if m = 8 then 212 else if m = 9 then 243 else if m = 10 then 273 else if m = 11 then 304 else if m = 12 then 334 else 365)
def numD (y m d : Int) : Int := jan y + cum y m + (d - 1)
def dayOk (y m d : Int) : Prop := 1 ≤ m ∧ m ≤ 12 ∧ 1 ≤ d ∧ d ≤ lenM y m
def okD (y m d : Int) : Prop := dayOk y m d ∧ -100000001 ≤ numD y m d ∧ numD y m d ≤ 100000000
instance (y m d : Int) : Decidable (dayOk y m d) := by unfold dayOk; infer_instance
instance (y m d : Int) : Decidable (okD y m d) := by unfold okD; infer_instance
theorem lenY_range (y : Int) : 365 ≤ lenY y ∧ lenY y ≤ 366 := by unfold lenY; split <;> omega
theorem jan_succ (y : Int) : jan (y + 1) = jan y + lenY y := by
  unfold jan lenY
  by_cases h : leap y
  · rw [if_pos h]; unfold leap at h; omega
  · rw [if_neg h]; unfold leap at h; omega
theorem jan_cycle (c : Int) : jan (400 * c) = c * 146097 - 719528 := by unfold jan; omega
theorem jan_400 (y : Int) : jan (y + 400) = jan y + 146097 := by unfold jan; omega
theorem jan_add (y : Int) (k : Nat) : jan y + 365 * k ≤ jan (y + k) := by
  induction k with
  | zero => simp
  | succ k ih =>
    have := jan_succ (y + k)
    have := (lenY_range (y + k)).1
    rw [show y + ((k + 1 : Nat) : Int) = y + k + 1 by omega]
    omega
theorem jan_lt {a b : Int} (h : a < b) : jan a + 365 ≤ jan b := by
  obtain ⟨k, hk⟩ : ∃ k : Nat, b = a + k := ⟨(b - a).toNat, by omega⟩
  have := jan_add a k
  rw [← hk] at this
  omega
theorem jan_le {a b : Int} (h : a ≤ b) : jan a ≤ jan b := by
  rcases Int.lt_or_eq_of_le h with h | h
  · have := jan_lt h; omega
  · rw [h]; exact Int.le_refl _
theorem lenM_range {y m : Int} (h1 : 1 ≤ m) (h2 : m ≤ 12) : 28 ≤ lenM y m ∧ lenM y m ≤ 31 := by
  have hm : m = 1 ∨ m = 2 ∨ m = 3 ∨ m = 4 ∨ m = 5 ∨ m = 6 ∨ m = 7 ∨ m = 8 ∨ m = 9 ∨ m = 10 ∨ m = 11 ∨ m = 12 := by omega
  rcases hm with rfl | rfl | rfl | rfl | rfl | rfl | rfl | rfl | rfl | rfl | rfl | rfl <;> unfold lenM <;> simp
  split <;> omega
theorem lenM_no {y m : Int} (h : m < 1 ∨ 12 < m) : lenM y m = 0 := by
  unfold lenM
  rw [if_neg (by omega), if_neg (by omega), if_neg (by omega)]
theorem lenM_le (y m : Int) : 0 ≤ lenM y m ∧ lenM y m ≤ 31 := by
  by_cases h : 1 ≤ m ∧ m ≤ 12
  · have := lenM_range (y := y) h.1 h.2; omega
  · rw [lenM_no (by omega)]; omega
theorem cum_one (y : Int) : cum y 1 = 0 := by unfold cum; rw [if_pos (by omega)]
theorem cum_succ {y m : Int} (h1 : 1 ≤ m) (h2 : m ≤ 12) : cum y (m + 1) = cum y m + lenM y m := by
  have hm : m = 1 ∨ m = 2 ∨ m = 3 ∨ m = 4 ∨ m = 5 ∨ m = 6 ∨ m = 7 ∨ m = 8 ∨ m = 9 ∨ m = 10 ∨ m = 11 ∨ m = 12 := by omega
  rcases hm with rfl | rfl | rfl | rfl | rfl | rfl | rfl | rfl | rfl | rfl | rfl | rfl <;> unfold cum lenM <;> simp <;> (try split) <;> omega
theorem cum_end (y : Int) : cum y 13 = lenY y := by unfold cum lenY; simp; split <;> omega
theorem cum_range {y m : Int} (h1 : 1 ≤ m) (h2 : m ≤ 13) : 0 ≤ cum y m ∧ cum y m ≤ lenY y := by
  have hm : m = 1 ∨ m = 2 ∨ m = 3 ∨ m = 4 ∨ m = 5 ∨ m = 6 ∨ m = 7 ∨ m = 8 ∨ m = 9 ∨ m = 10 ∨ m = 11 ∨ m = 12 ∨ m = 13 := by omega
  rcases hm with rfl | rfl | rfl | rfl | rfl | rfl | rfl | rfl | rfl | rfl | rfl | rfl | rfl <;> unfold cum lenY <;> simp <;> split <;> omega
theorem cum_mono {y m : Int} (h1 : 1 ≤ m) (k : Nat) (h2 : m + k ≤ 13) : cum y m ≤ cum y (m + k) := by
  induction k with
  | zero => simp
  | succ k ih =>
    have := ih (by omega)
    have e := cum_succ (y := y) (m := m + k) (by omega) (by omega)
    have := (lenM_le y (m + k)).1
    rw [show m + ((k + 1 : Nat) : Int) = m + k + 1 by omega]
    omega
theorem cum_lt {y m m' : Int} (h1 : 1 ≤ m) (h : m < m') (h2 : m' ≤ 13) : cum y m + lenM y m ≤ cum y m' := by
  rw [← cum_succ h1 (by omega)]
  obtain ⟨k, hk⟩ : ∃ k : Nat, m' = m + 1 + k := ⟨(m' - m - 1).toNat, by omega⟩
  rw [hk]
  exact cum_mono (by omega) k (by omega)
theorem num_year {y m d : Int} (h : dayOk y m d) : jan y ≤ numD y m d ∧ numD y m d < jan (y + 1) := by
  obtain ⟨h1, h2, h3, h4⟩ := h
  have a := cum_range (y := y) (m := m) h1 (by omega)
  have b := cum_succ (y := y) h1 h2
  have c := cum_range (y := y) (m := m + 1) (by omega) (by omega)
  rw [jan_succ]
  unfold numD
  omega
theorem year_find (n : Int) (k : Nat) : ∀ y : Int, jan y ≤ n → n < jan (y + k) → ∃ y' : Int, jan y' ≤ n ∧ n < jan (y' + 1) := by
  induction k with
  | zero => intro y h1 h2; simp at h2; omega
  | succ k ih =>
    intro y h1 h2
    by_cases h : n < jan (y + 1)
    · exact ⟨y, h1, h⟩
    · exact ih (y + 1) (by omega) (by rw [show y + 1 + (k : Int) = y + ((k + 1 : Nat) : Int) by omega]; exact h2)
theorem year_of (n : Int) : ∃ y : Int, jan y ≤ n ∧ n < jan (y + 1) := by
  have a := jan_cycle ((n + 719528) / 146097)
  have b := jan_400 (400 * ((n + 719528) / 146097))
  exact year_find n 400 (400 * ((n + 719528) / 146097)) (by omega) (by show n < jan (400 * ((n + 719528) / 146097) + 400); omega)
theorem day_of (n : Int) : ∃ y m d : Int, dayOk y m d ∧ numD y m d = n := by
  obtain ⟨y, h1, h2⟩ := year_of n
  rw [jan_succ, ← cum_end] at h2
  have find : ∀ (k : Nat) (m : Int), 1 ≤ m → m + k = 13 → cum y m ≤ n - jan y → ∃ m' : Int, 1 ≤ m' ∧ m' ≤ 12 ∧ cum y m' ≤ n - jan y ∧ n - jan y < cum y (m' + 1) := by
    intro k
    induction k with
    | zero => intro m _ e h; have : m = 13 := by omega
              rw [this] at h; omega
    | succ k ih =>
      intro m hm e h
      by_cases c : n - jan y < cum y (m + 1)
      · exact ⟨m, hm, by omega, h, c⟩
      · exact ih (m + 1) (by omega) (by omega) (by omega)
  obtain ⟨m, m1, m2, c1, c2⟩ := find 12 1 (by omega) (by omega) (by rw [cum_one]; omega)
  rw [cum_succ m1 m2] at c2
  exact ⟨y, m, n - jan y - cum y m + 1, ⟨m1, m2, by omega, by omega⟩, by unfold numD; omega⟩
theorem ok_year {y m d : Int} (h : okD y m d) : -271821 ≤ y ∧ y ≤ 275760 := by
  obtain ⟨h0, h1, h2⟩ := h
  have a := num_year h0
  constructor
  · apply Classical.byContradiction
    intro c
    have := jan_le (show y + 1 ≤ -271821 by omega)
    rw [show jan (-271821) = -100000109 by decide] at this
    omega
  · apply Classical.byContradiction
    intro c
    have := jan_le (show (275761 : Int) ≤ y by omega)
    rw [show jan 275761 = 100000110 by decide] at this
    omega
def wday (n : Int) : Int := (n + 3) % 7 + 1
theorem wday_range (n : Int) : 1 ≤ wday n ∧ wday n ≤ 7 := by unfold wday; omega
def wk (t y : Int) : Int := (t - jan y) / 7 + 1
end Go.Proofs.YtpbgddoicjjhnaaGreatDoor
namespace Go.Proofs.YtpbgddoicjjhnaaGreatDoor
open Go.RowKit
theorem tmod_zero (y k : Int) : y.tmod k = 0 ↔ y % k = 0 := by rw [← Int.dvd_iff_tmod_eq_zero, ← Int.dvd_iff_emod_eq_zero]
theorem jan_bound {y : Int} (h1 : -300000 ≤ y) (h2 : y ≤ 300000) : -200000000 ≤ jan y ∧ jan y ≤ 200000000 := by unfold jan; omega
def nk (n : Int) : Bool := decide (-100000001 ≤ n ∧ n ≤ 100000000)
def RetNumB (w : World) (n : Int) (ok : Bool) (e : Ending) (w' : World) : Prop := e = .returned (.tuple #[.int .i64 n, .bool ok]) ∧ Below w.heap.size w w'
def dv (y m d : Int) : Int := if okD y m d then numD y m d else 0
def RetDateB (w : World) (y m d : Int) (ok : Bool) (e : Ending) (w' : World) : Prop := e = .returned (.tuple #[.agg #[.int .i64 y, .int .i64 m, .int .i64 d], .bool ok]) ∧ Below w.heap.size w w'
def wdv (y m d : Int) : Int := if okD y m d then wday (numD y m d) else 0
end Go.Proofs.YtpbgddoicjjhnaaGreatDoor
