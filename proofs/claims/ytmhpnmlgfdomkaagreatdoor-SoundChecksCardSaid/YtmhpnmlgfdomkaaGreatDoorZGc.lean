import Derived.IntWalk
import Derived.Test.YtmhpnmlgfdomkaaGreatDoorZGa
import Derived.Lib.Hide
import Derived.LoopTactic
import Derived.Outline
import Derived.Below
import Derived.BigQuiet
import Derived.Deep.QuietTactic
import Derived.Test.YtmhpnmlgfdomkaaGreatDoorZGm
set_option maxRecDepth 100000
set_option maxHeartbeats 64000000
namespace Go.Proofs.YtmhpnmlgfdomkaaGreatDoor
def leap (y : Int) : Prop := y % 4 = 0 ∧ (y % 100 ≠ 0 ∨ y % 400 = 0)
instance (y : Int) : Decidable (leap y) := by unfold leap; infer_instance
def lenY (y : Int) : Int := if leap y then 366 else 365
def lenM (y m : Int) : Int :=
  if m = 1 ∨ m = 3 ∨ m = 5 ∨ m = 7 ∨ m = 8 ∨ m = 10 ∨ m = 12 then 31
  else if m = 4 ∨ m = 6 ∨ m = 9 ∨ m = 11 then 30
  else if m = 2 then (if leap y then 29 else 28) else 0
def jan (y : Int) : Int := 365 * y + (y + 3) / 4 - (y + 99) / 100 + (y + 399) / 400 - 719528
def cum (y m : Int) : Int :=
  if m ≤ 1 then 0 else if m = 2 then 31 else
  (if leap y then 1 else 0) + (if m = 3 then 59 else if m = 4 then 90 else if m = 5 then 120 else if m = 6 then 151 else if m = 7 then 181 else if m = 8 then 212 else if m = 9 then 243 else if m = 10 then 273 else if m = 11 then 304 else if m = 12 then 334 else 365)
def numD (y m d : Int) : Int := jan y + cum y m + (d - 1)
def dayOk (y m d : Int) : Prop := 1 ≤ m ∧ m ≤ 12 ∧ 1 ≤ d ∧ d ≤ lenM y m
def okD (y m d : Int) : Prop := dayOk y m d ∧ -100000001 ≤ numD y m d ∧ numD y m d ≤ 100000000
instance (y m d : Int) : Decidable (dayOk y m d) := by unfold dayOk; infer_instance
instance (y m d : Int) : Decidable (okD y m d) := by unfold okD; infer_instance
theorem lenY_range (y : Int) : 365 ≤ lenY y ∧ lenY y ≤ 366 := by unfold lenY; split <;> omega
theorem jan_succ (y : Int) : jan (y + 1) = jan y + lenY y := by
  unfold jan lenY
  by_cases h : leap y
  · rw [if_pos h]; unfold leap at h; omega
  · rw [if_neg h]; unfold leap at h; omega
theorem jan_cycle (c : Int) : jan (400 * c) = c * 146097 - 719528 := by unfold jan; omega
theorem jan_400 (y : Int) : jan (y + 400) = jan y + 146097 := by unfold jan; omega
theorem jan_add (y : Int) (k : Nat) : jan y + 365 * k ≤ jan (y + k) := by
  induction k with
  | zero => simp
  | succ k ih =>
    have := jan_succ (y + k)
    have := (lenY_range (y + k)).1
    rw [show y + ((k + 1 : Nat) : Int) = y + k + 1 by omega]
    omega
theorem jan_lt {a b : Int} (h : a < b) : jan a + 365 ≤ jan b := by
  obtain ⟨k, hk⟩ : ∃ k : Nat, b = a + k := ⟨(b - a).toNat, by omega⟩
  have := jan_add a k
  rw [← hk] at this
  omega
theorem jan_le {a b : Int} (h : a ≤ b) : jan a ≤ jan b := by
  rcases Int.lt_or_eq_of_le h with h | h
  · have := jan_lt h; omega
  · rw [h]; exact Int.le_refl _
theorem lenM_range {y m : Int} (h1 : 1 ≤ m) (h2 : m ≤ 12) : 28 ≤ lenM y m ∧ lenM y m ≤ 31 := by
  have hm : m = 1 ∨ m = 2 ∨ m = 3 ∨ m = 4 ∨ m = 5 ∨ m = 6 ∨ m = 7 ∨ m = 8 ∨ m = 9 ∨ m = 10 ∨ m = 11 ∨ m = 12 := by omega
  rcases hm with rfl | rfl | rfl | rfl | rfl | rfl | rfl | rfl | rfl | rfl | rfl | rfl <;> unfold lenM <;> simp
  split <;> omega
theorem lenM_no {y m : Int} (h : m < 1 ∨ 12 < m) : lenM y m = 0 := by
  unfold lenM
  rw [if_neg (by omega), if_neg (by omega), if_neg (by omega)]
theorem lenM_le (y m : Int) : 0 ≤ lenM y m ∧ lenM y m ≤ 31 := by
  by_cases h : 1 ≤ m ∧ m ≤ 12
  · have := lenM_range (y := y) h.1 h.2; omega
  · rw [lenM_no (by omega)]; omega
theorem cum_one (y : Int) : cum y 1 = 0 := by unfold cum; rw [if_pos (by omega)]
theorem cum_succ {y m : Int} (h1 : 1 ≤ m) (h2 : m ≤ 12) : cum y (m + 1) = cum y m + lenM y m := by
  have hm : m = 1 ∨ m = 2 ∨ m = 3 ∨ m = 4 ∨ m = 5 ∨ m = 6 ∨ m = 7 ∨ m = 8 ∨ m = 9 ∨ m = 10 ∨ m = 11 ∨ m = 12 := by omega
  rcases hm with rfl | rfl | rfl | rfl | rfl | rfl | rfl | rfl | rfl | rfl | rfl | rfl <;> unfold cum lenM <;> simp <;> (try split) <;> omega
theorem cum_end (y : Int) : cum y 13 = lenY y := by unfold cum lenY; simp; split <;> omega
theorem cum_range {y m : Int} (h1 : 1 ≤ m) (h2 : m ≤ 13) : 0 ≤ cum y m ∧ cum y m ≤ lenY y := by
  have hm : m = 1 ∨ m = 2 ∨ m = 3 ∨ m = 4 ∨ m = 5 ∨ m = 6 ∨ m = 7 ∨ m = 8 ∨ m = 9 ∨ m = 10 ∨ m = 11 ∨ m = 12 ∨ m = 13 := by omega
  rcases hm with rfl | rfl | rfl | rfl | rfl | rfl | rfl | rfl | rfl | rfl | rfl | rfl | rfl <;> unfold cum lenY <;> simp <;> split <;> omega
theorem cum_mono {y m : Int} (h1 : 1 ≤ m) (k : Nat) (h2 : m + k ≤ 13) : cum y m ≤ cum y (m + k) := by
  induction k with
  | zero => simp
  | succ k ih =>
    have := ih (by omega)
    have e := cum_succ (y := y) (m := m + k) (by omega) (by omega)
    have := (lenM_le y (m + k)).1
    rw [show m + ((k + 1 : Nat) : Int) = m + k + 1 by omega]
    omega
theorem cum_lt {y m m' : Int} (h1 : 1 ≤ m) (h : m < m') (h2 : m' ≤ 13) : cum y m + lenM y m ≤ cum y m' := by
  rw [← cum_succ h1 (by omega)]
  obtain ⟨k, hk⟩ : ∃ k : Nat, m' = m + 1 + k := ⟨(m' - m - 1).toNat, by omega⟩
  rw [hk]
  exact cum_mono (by omega) k (by omega)
theorem num_year {y m d : Int} (h : dayOk y m d) : jan y ≤ numD y m d ∧ numD y m d < jan (y + 1) := by
  obtain ⟨h1, h2, h3, h4⟩ := h
  have a := cum_range (y := y) (m := m) h1 (by omega)
  have b := cum_succ (y := y) h1 h2
  have c := cum_range (y := y) (m := m + 1) (by omega) (by omega)
  rw [jan_succ]
  unfold numD
  omega
theorem year_find (n : Int) (k : Nat) : ∀ y : Int, jan y ≤ n → n < jan (y + k) → ∃ y' : Int, jan y' ≤ n ∧ n < jan (y' + 1) := by
  induction k with
  | zero => intro y h1 h2; simp at h2; omega
  | succ k ih =>
    intro y h1 h2
    by_cases h : n < jan (y + 1)
    · exact ⟨y, h1, h⟩
    · exact ih (y + 1) (by omega) (by rw [show y + 1 + (k : Int) = y + ((k + 1 : Nat) : Int) by omega]; exact h2)
theorem year_of (n : Int) : ∃ y : Int, jan y ≤ n ∧ n < jan (y + 1) := by
  have a := jan_cycle ((n + 719528) / 146097)
  have b := jan_400 (400 * ((n + 719528) / 146097))
  exact year_find n 400 (400 * ((n + 719528) / 146097)) (by omega) (by show n < jan (400 * ((n + 719528) / 146097) + 400); omega)
theorem day_of (n : Int) : ∃ y m d : Int, dayOk y m d ∧ numD y m d = n := by
  obtain ⟨y, h1, h2⟩ := year_of n
  rw [jan_succ, ← cum_end] at h2
  have find : ∀ (k : Nat) (m : Int), 1 ≤ m → m + k = 13 → cum y m ≤ n - jan y → ∃ m' : Int, 1 ≤ m' ∧ m' ≤ 12 ∧ cum y m' ≤ n - jan y ∧ n - jan y < cum y (m' + 1) := by
    intro k
    induction k with
    | zero => intro m _ e h; have : m = 13 := by omega
              rw [this] at h; omega
    | succ k ih =>
      intro m hm e h
      by_cases c : n - jan y < cum y (m + 1)
      · exact ⟨m, hm, by omega, h, c⟩
      · exact ih (m + 1) (by omega) (by omega) (by omega)
  obtain ⟨m, m1, m2, c1, c2⟩ := find 12 1 (by omega) (by omega) (by rw [cum_one]; omega)
  rw [cum_succ m1 m2] at c2
  exact ⟨y, m, n - jan y - cum y m + 1, ⟨m1, m2, by omega, by omega⟩, by unfold numD; omega⟩
theorem ok_year {y m d : Int} (h : okD y m d) : -271821 ≤ y ∧ y ≤ 275760 := by
  obtain ⟨h0, h1, h2⟩ := h
  have a := num_year h0
  constructor
  · apply Classical.byContradiction
    intro c
    have := jan_le (show y + 1 ≤ -271821 by omega)
    rw [show jan (-271821) = -100000109 by decide] at this
    omega
  · apply Classical.byContradiction
    intro c
    have := jan_le (show (275761 : Int) ≤ y by omega)
    rw [show jan 275761 = 100000110 by decide] at this
    omega
def wday (n : Int) : Int := (n + 3) % 7 + 1
theorem wday_range (n : Int) : 1 ≤ wday n ∧ wday n ≤ 7 := by unfold wday; omega
def wk (t y : Int) : Int := (t - jan y) / 7 + 1
end Go.Proofs.YtmhpnmlgfdomkaaGreatDoor
namespace Go.Proofs.YtmhpnmlgfdomkaaGreatDoor
open Go.RowKit
theorem tmod_zero (y k : Int) : y.tmod k = 0 ↔ y % k = 0 := by rw [← Int.dvd_iff_tmod_eq_zero, ← Int.dvd_iff_emod_eq_zero]
theorem leapR (y : Int) (w : World) :
    Calls Tryz.prog 139 #[.int .i64 y] w (fun e w' => e = .returned (.bool (decide (leap y))) ∧ w = w') := by
  have t4 := tmod_zero y 4
  have t1 := tmod_zero y 100
  have t0 := tmod_zero y 400
  by_cases h4 : y % 400 = 0
  · have e : decide (leap y) = true := decide_eq_true (by unfold leap; omega)
    rw [e]
    have a1 := t0.2 h4
    clear t4 t1 t0 e h4
    go_enter Tryz.func139, Tryz.ntmps139
    go_wp2
    go_ret
    exact ⟨rfl, rfl⟩
  · have a1 : (y.tmod 400 == 0) = false := by rw [beq_eq_false_iff_ne]; exact fun h => h4 (t0.1 h)
    by_cases h1 : y % 100 = 0
    · have e : decide (leap y) = false := decide_eq_false (by unfold leap; omega)
      rw [e]
      have a2 := t1.2 h1
      clear t4 t1 t0 e h4 h1
      go_enter Tryz.func139, Tryz.ntmps139
      go_wp2
      go_ret
      exact ⟨rfl, rfl⟩
    · have a2 : (y.tmod 100 == 0) = false := by rw [beq_eq_false_iff_ne]; exact fun h => h1 (t1.1 h)
      have e : (y.tmod 4 == 0) = decide (leap y) := by
        by_cases h : y % 4 = 0
        · rw [decide_eq_true (by unfold leap; omega), t4.2 h]; rfl
        · rw [decide_eq_false (by unfold leap; omega), beq_eq_false_iff_ne]; exact fun k => h (t4.1 k)
      rw [← e]
      clear t4 t1 t0 e h4 h1
      go_enter Tryz.func139, Tryz.ntmps139
      go_wp2
      go_ret
      exact ⟨rfl, rfl⟩
theorem lenYR (y : Int) (w : World) :
    Calls Tryz.prog 140 #[.int .i64 y] w (fun e w' => e = .returned (.int .i64 (lenY y)) ∧ w = w') := by
  have L := Lib.hid (fun W => leapR y W)
  unfold lenY
  by_cases h : leap y
  · rw [if_pos h]
    rw [decide_eq_true h] at L
    clear h
    go_enter Tryz.func140, Tryz.ntmps140
    go_wp2_with (go_at_call 139; refine (L.out _).mono ?_; rintro e w' ⟨rfl, rfl⟩)
    go_ret
    exact ⟨rfl, rfl⟩
  · rw [if_neg h]
    rw [decide_eq_false h] at L
    clear h
    go_enter Tryz.func140, Tryz.ntmps140
    go_wp2_with (go_at_call 139; refine (L.out _).mono ?_; rintro e w' ⟨rfl, rfl⟩)
    go_ret
    exact ⟨rfl, rfl⟩
theorem monthR_two (y : Int) (w : World) :
    Calls Tryz.prog 120 #[.int .i64 y, .int .i64 2] w (fun e w' => e = .returned (.int .i64 (lenM y 2)) ∧ w = w') := by
  have L := Lib.hid (fun W => leapR y W)
  by_cases h : leap y
  · rw [show lenM y 2 = 29 by unfold lenM; simp [h]]
    rw [decide_eq_true h] at L
    clear h
    go_enter Tryz.func120, Tryz.ntmps120
    go_wp2_with (go_at_call 139; refine (L.out _).mono ?_; rintro e w' ⟨rfl, rfl⟩)
    go_ret
    exact ⟨rfl, rfl⟩
  · rw [show lenM y 2 = 28 by unfold lenM; simp [h]]
    rw [decide_eq_false h] at L
    clear h
    go_enter Tryz.func120, Tryz.ntmps120
    go_wp2_with (go_at_call 139; refine (L.out _).mono ?_; rintro e w' ⟨rfl, rfl⟩)
    go_ret
    exact ⟨rfl, rfl⟩
theorem monthR (y m : Int) (w : World) :
    Calls Tryz.prog 120 #[.int .i64 y, .int .i64 m] w (fun e w' => e = .returned (.int .i64 (lenM y m)) ∧ w = w') := by
  by_cases hm : 1 ≤ m ∧ m ≤ 12
  · have hm : m = 2 ∨ (m = 1 ∨ m = 3 ∨ m = 5 ∨ m = 7 ∨ m = 8 ∨ m = 10 ∨ m = 12) ∨ m = 4 ∨ m = 6 ∨ m = 9 ∨ m = 11 := by omega
    rcases hm with rfl | hm | hm
    · exact monthR_two y w
    · rcases hm with rfl | rfl | rfl | rfl | rfl | rfl | rfl
      all_goals
        rw [show lenM y _ = 31 by unfold lenM; simp]
        go_enter Tryz.func120, Tryz.ntmps120
        go_wp2
        go_ret
        exact ⟨rfl, rfl⟩
    · rcases hm with rfl | rfl | rfl | rfl
      all_goals
        rw [show lenM y _ = 30 by unfold lenM; simp]
        go_enter Tryz.func120, Tryz.ntmps120
        go_wp2
        go_ret
        exact ⟨rfl, rfl⟩
  · rw [lenM_no (by omega)]
    have b1 : (m == 1) = false := by rw [beq_eq_false_iff_ne]; omega
    have b2 : (m == 2) = false := by rw [beq_eq_false_iff_ne]; omega
    have b3 : (m == 3) = false := by rw [beq_eq_false_iff_ne]; omega
    have b4 : (m == 4) = false := by rw [beq_eq_false_iff_ne]; omega
    have b5 : (m == 5) = false := by rw [beq_eq_false_iff_ne]; omega
    have b6 : (m == 6) = false := by rw [beq_eq_false_iff_ne]; omega
    have b7 : (m == 7) = false := by rw [beq_eq_false_iff_ne]; omega
    have b8 : (m == 8) = false := by rw [beq_eq_false_iff_ne]; omega
    have b9 : (m == 9) = false := by rw [beq_eq_false_iff_ne]; omega
    have b10 : (m == 10) = false := by rw [beq_eq_false_iff_ne]; omega
    have b11 : (m == 11) = false := by rw [beq_eq_false_iff_ne]; omega
    have b12 : (m == 12) = false := by rw [beq_eq_false_iff_ne]; omega
    clear hm
    go_enter Tryz.func120, Tryz.ntmps120
    go_wp2
    go_ret
    exact ⟨rfl, rfl⟩
theorem tdiv_parts (a b : Int) (hb : 0 < b) : ∃ T R : Int, a.tdiv b = T ∧ a = b * T + R ∧ -b < R ∧ R < b ∧ (0 ≤ a → 0 ≤ R) ∧ (a ≤ 0 → R ≤ 0) := by
  have e := Int.tmod_add_mul_tdiv a b
  refine ⟨a.tdiv b, a.tmod b, rfl, by omega, ?_⟩
  rcases Int.le_total 0 a with h | h
  · have h1 := Int.tmod_nonneg b h
    have h2 := Int.tmod_lt_of_pos a hb
    exact ⟨by omega, h2, fun _ => h1, fun k => by have : a = 0 := by omega
                                                  rw [this]; simp⟩
  · have h1 := Int.tmod_nonneg (a := -a) b (by omega)
    have h2 := Int.tmod_lt_of_pos (-a) hb
    rw [Int.neg_tmod] at h1 h2
    exact ⟨by omega, by omega, fun k => by have : a = 0 := by omega
                                           rw [this]; simp, fun _ => by omega⟩
theorem down400 (a : Int) (h1 : -9223372036854775000 ≤ a) (h2 : a ≤ 9223372036854775000) (w : World) :
    Calls Tryz.prog 121 #[.int .i64 a, .int .i64 400] w (fun e w' => e = .returned (.int .i64 (a / 400)) ∧ w = w') := by
  obtain ⟨T, R, e1, e2, e3, e4, e5, e6⟩ := tdiv_parts a 400 (by decide)
  by_cases h : R < 0
  · have e : a / 400 = T - 1 := by omega
    have g : a < T * 400 := by omega
    have f1 : -9223372036854775807 ≤ T * 400 := by omega
    have f2 : T * 400 ≤ 9223372036854775807 := by omega
    have f3 : -9223372036854775000 ≤ T := by omega
    have f4 : T ≤ 9223372036854775000 := by omega
    rw [e]
    clear e e2 e3 e4 e5 e6 h
    go_enter Tryz.func121, Tryz.ntmps121
    go_wp2
    go_ret
    exact ⟨rfl, rfl⟩
  · have e : a / 400 = T := by omega
    have g : ¬ a < T * 400 := by omega
    have f1 : -9223372036854775807 ≤ T * 400 := by omega
    have f2 : T * 400 ≤ 9223372036854775807 := by omega
    rw [e]
    clear e e2 e3 e4 e5 e6 h
    go_enter Tryz.func121, Tryz.ntmps121
    go_wp2
    go_ret
    exact ⟨rfl, rfl⟩
theorem down146097 (a : Int) (h1 : -9223372036854775000 ≤ a) (h2 : a ≤ 9223372036854775000) (w : World) :
    Calls Tryz.prog 121 #[.int .i64 a, .int .i64 146097] w (fun e w' => e = .returned (.int .i64 (a / 146097)) ∧ w = w') := by
  obtain ⟨T, R, e1, e2, e3, e4, e5, e6⟩ := tdiv_parts a 146097 (by decide)
  by_cases h : R < 0
  · have e : a / 146097 = T - 1 := by omega
    have g : a < T * 146097 := by omega
    have f1 : -9223372036854775807 ≤ T * 146097 := by omega
    have f2 : T * 146097 ≤ 9223372036854775807 := by omega
    have f3 : -9223372036854775000 ≤ T := by omega
    have f4 : T ≤ 9223372036854775000 := by omega
    rw [e]
    clear e e2 e3 e4 e5 e6 h
    go_enter Tryz.func121, Tryz.ntmps121
    go_wp2
    go_ret
    exact ⟨rfl, rfl⟩
  · have e : a / 146097 = T := by omega
    have g : ¬ a < T * 146097 := by omega
    have f1 : -9223372036854775807 ≤ T * 146097 := by omega
    have f2 : T * 146097 ≤ 9223372036854775807 := by omega
    rw [e]
    clear e e2 e3 e4 e5 e6 h
    go_enter Tryz.func121, Tryz.ntmps121
    go_wp2
    go_ret
    exact ⟨rfl, rfl⟩
theorem down7 (a : Int) (h1 : -9223372036854775000 ≤ a) (h2 : a ≤ 9223372036854775000) (w : World) :
    Calls Tryz.prog 121 #[.int .i64 a, .int .i64 7] w (fun e w' => e = .returned (.int .i64 (a / 7)) ∧ w = w') := by
  obtain ⟨T, R, e1, e2, e3, e4, e5, e6⟩ := tdiv_parts a 7 (by decide)
  by_cases h : R < 0
  · have e : a / 7 = T - 1 := by omega
    have g : a < T * 7 := by omega
    have f1 : -9223372036854775807 ≤ T * 7 := by omega
    have f2 : T * 7 ≤ 9223372036854775807 := by omega
    have f3 : -9223372036854775000 ≤ T := by omega
    have f4 : T ≤ 9223372036854775000 := by omega
    rw [e]
    clear e e2 e3 e4 e5 e6 h
    go_enter Tryz.func121, Tryz.ntmps121
    go_wp2
    go_ret
    exact ⟨rfl, rfl⟩
  · have e : a / 7 = T := by omega
    have g : ¬ a < T * 7 := by omega
    have f1 : -9223372036854775807 ≤ T * 7 := by omega
    have f2 : T * 7 ≤ 9223372036854775807 := by omega
    rw [e]
    clear e e2 e3 e4 e5 e6 h
    go_enter Tryz.func121, Tryz.ntmps121
    go_wp2
    go_ret
    exact ⟨rfl, rfl⟩
theorem jan_bound {y : Int} (h1 : -300000 ≤ y) (h2 : y ≤ 300000) : -200000000 ≤ jan y ∧ jan y ≤ 200000000 := by unfold jan; omega
theorem janR (y : Int) (h1 : -290000 ≤ y) (h2 : y ≤ 290000) (w : World) :
    Calls Tryz.prog 138 #[.int .i64 y] w (fun e w' => e = .returned (.int .i64 (jan y)) ∧ w = w') := by
  have D := Lib.hid (fun W => down400 y (by omega) (by omega) W)
  obtain ⟨c, hc⟩ : ∃ c : Int, c = y / 400 := ⟨_, rfl⟩
  rw [← hc] at D
  have c1 : 400 * c ≤ y := by omega
  have c2 : y - 400 * c ≤ 400 := by omega
  have c3 : -1000 ≤ c := by omega
  have c4 : c ≤ 1000 := by omega
  have J := Lib.hid (jan_cycle c)
  have Y := Lib.hid (fun k W => lenYR k W)
  clear hc
  go_enter Tryz.func138, Tryz.ntmps138
  go_wp2_with (go_at_call 121; refine (D.out _).mono ?_; rintro e w' ⟨rfl, rfl⟩)
  go_loop [4, 5] (fun v4 v5 => ∃ k : Int, 400 * c ≤ k ∧ k ≤ y ∧ v4 = .int .i64 (jan k) ∧ v5 = .int .i64 k) (fun _ v5 => (y - intOf v5).toNat)
  case atStart => exact ⟨400 * c, by omega, by omega, by rw [J.out], rfl⟩
  case round =>
    obtain ⟨k, k1, k2, rfl, rfl⟩ := hrel
    have jb := jan_bound (y := k) (by omega) (by omega)
    have lb := lenY_range k
    have S := Lib.hid (jan_succ k)
    by_cases hk : k < y
    · generalize jan k = jk at *
      have YK := Lib.hid (fun W => Y.out k W)
      generalize lenY k = lk at *
      go_wp2_with (go_at_call 140; refine (YK.out _).mono ?_; rintro e w' ⟨rfl, rfl⟩)
      go_round
      case rel => exact ⟨k + 1, by omega, by omega, by rw [S.out], rfl⟩
      case measure => simp [intOf]; omega
    · have e : k = y := by omega
      subst e
      clear S Y
      go_wp2
      go_ret
      exact ⟨rfl, rfl⟩
def nv (n : Int) : Int := if -100000001 ≤ n ∧ n ≤ 100000000 then n else 0
def nk (n : Int) : Bool := decide (-100000001 ≤ n ∧ n ≤ 100000000)
theorem nv_no {n : Int} (h : n < -100000001 ∨ 100000000 < n) : nv n = 0 ∧ nk n = false := ⟨by unfold nv; rw [if_neg (by omega)], decide_eq_false (by omega)⟩
theorem nv_yes {n : Int} (h1 : -100000001 ≤ n) (h2 : n ≤ 100000000) : nv n = n ∧ nk n = true := ⟨by unfold nv; rw [if_pos ⟨h1, h2⟩], decide_eq_true ⟨h1, h2⟩⟩
def RetNumB (w : World) (n : Int) (ok : Bool) (e : Ending) (w' : World) : Prop := e = .returned (.tuple #[.int .i64 n, .bool ok]) ∧ Below w.heap.size w w'
theorem daysR_no0 (y m d : Int)  (y1 : y < -280000) (w : World) :
    Calls Tryz.prog 119 #[.agg #[.int .i64 y, .int .i64 m, .int .i64 d]] w (RetNumB w 0 false) := by
  have gy1 : decide (y < -280000) = true := decide_eq_true y1
  have KB := (BK.nil w).more3 (.int .i64 y) (.int .i64 m) (.int .i64 d) 144
  go_enter Tryz.func119, Tryz.ntmps119
  go_wp2_with fail
  generalize w.alloc (.cells #[.int .i64 y, .int .i64 m, .int .i64 d] 144) = w0 at *
  obtain ⟨_, a0, a1, a2, _⟩ := KB.head.three
  go_quiet (fail)
  replace KB := KB.below (below_drewN (Below.refl _ _) nq)
  generalize w0.drewN nq = w1 at *
  have HB := KB.hb
  go_wp2
  go_ret2
  exact ⟨rfl, HB⟩
theorem daysR_no1 (y m d : Int) (y1 : ¬ y < -280000) (y2 : 280000 < y) (w : World) :
    Calls Tryz.prog 119 #[.agg #[.int .i64 y, .int .i64 m, .int .i64 d]] w (RetNumB w 0 false) := by
  have gy1 : decide (y < -280000) = false := decide_eq_false y1
  have gy2 : decide (280000 < y) = true := decide_eq_true y2
  have KB := (BK.nil w).more3 (.int .i64 y) (.int .i64 m) (.int .i64 d) 144
  go_enter Tryz.func119, Tryz.ntmps119
  go_wp2_with fail
  generalize w.alloc (.cells #[.int .i64 y, .int .i64 m, .int .i64 d] 144) = w0 at *
  obtain ⟨_, a0, a1, a2, _⟩ := KB.head.three
  go_quiet (fail)
  replace KB := KB.below (below_drewN (Below.refl _ _) nq)
  generalize w0.drewN nq = w1 at *
  have HB := KB.hb
  go_wp2
  go_ret2
  exact ⟨rfl, HB⟩
theorem daysR_no2 (y m d : Int) (y1 : ¬ y < -280000) (y2 : ¬ 280000 < y) (m1 : m < 1) (w : World) :
    Calls Tryz.prog 119 #[.agg #[.int .i64 y, .int .i64 m, .int .i64 d]] w (RetNumB w 0 false) := by
  have gy1 : decide (y < -280000) = false := decide_eq_false y1
  have gy2 : decide (280000 < y) = false := decide_eq_false y2
  have gm1 : decide (m < 1) = true := decide_eq_true m1
  have KB := (BK.nil w).more3 (.int .i64 y) (.int .i64 m) (.int .i64 d) 144
  go_enter Tryz.func119, Tryz.ntmps119
  go_wp2_with fail
  generalize w.alloc (.cells #[.int .i64 y, .int .i64 m, .int .i64 d] 144) = w0 at *
  obtain ⟨_, a0, a1, a2, _⟩ := KB.head.three
  go_quiet (fail)
  replace KB := KB.below (below_drewN (Below.refl _ _) nq)
  generalize w0.drewN nq = w1 at *
  have HB := KB.hb
  go_wp2
  go_ret2
  exact ⟨rfl, HB⟩
theorem daysR_no3 (y m d : Int) (y1 : ¬ y < -280000) (y2 : ¬ 280000 < y) (m1 : ¬ m < 1) (m2 : 12 < m) (w : World) :
    Calls Tryz.prog 119 #[.agg #[.int .i64 y, .int .i64 m, .int .i64 d]] w (RetNumB w 0 false) := by
  have gy1 : decide (y < -280000) = false := decide_eq_false y1
  have gy2 : decide (280000 < y) = false := decide_eq_false y2
  have gm1 : decide (m < 1) = false := decide_eq_false m1
  have gm2 : decide (12 < m) = true := decide_eq_true m2
  have KB := (BK.nil w).more3 (.int .i64 y) (.int .i64 m) (.int .i64 d) 144
  go_enter Tryz.func119, Tryz.ntmps119
  go_wp2_with fail
  generalize w.alloc (.cells #[.int .i64 y, .int .i64 m, .int .i64 d] 144) = w0 at *
  obtain ⟨_, a0, a1, a2, _⟩ := KB.head.three
  go_quiet (fail)
  replace KB := KB.below (below_drewN (Below.refl _ _) nq)
  generalize w0.drewN nq = w1 at *
  have HB := KB.hb
  go_wp2
  go_ret2
  exact ⟨rfl, HB⟩
theorem daysR_no4 (y m d : Int) (y1 : ¬ y < -280000) (y2 : ¬ 280000 < y) (m1 : ¬ m < 1) (m2 : ¬ 12 < m) (d1 : d < 1) (w : World) :
    Calls Tryz.prog 119 #[.agg #[.int .i64 y, .int .i64 m, .int .i64 d]] w (RetNumB w 0 false) := by
  have gy1 : decide (y < -280000) = false := decide_eq_false y1
  have gy2 : decide (280000 < y) = false := decide_eq_false y2
  have gm1 : decide (m < 1) = false := decide_eq_false m1
  have gm2 : decide (12 < m) = false := decide_eq_false m2
  have gd1 : decide (d < 1) = true := decide_eq_true d1
  have KB := (BK.nil w).more3 (.int .i64 y) (.int .i64 m) (.int .i64 d) 144
  go_enter Tryz.func119, Tryz.ntmps119
  go_wp2_with fail
  generalize w.alloc (.cells #[.int .i64 y, .int .i64 m, .int .i64 d] 144) = w0 at *
  obtain ⟨_, a0, a1, a2, _⟩ := KB.head.three
  go_quiet (fail)
  replace KB := KB.below (below_drewN (Below.refl _ _) nq)
  generalize w0.drewN nq = w1 at *
  have HB := KB.hb
  go_wp2
  go_ret2
  exact ⟨rfl, HB⟩
theorem daysR_no5 (y m d : Int) (y1 : ¬ y < -280000) (y2 : ¬ 280000 < y) (m1 : ¬ m < 1) (m2 : ¬ 12 < m) (d1 : ¬ d < 1) (d2 : lenM y m < d) (w : World) :
    Calls Tryz.prog 119 #[.agg #[.int .i64 y, .int .i64 m, .int .i64 d]] w (RetNumB w 0 false) := by
  have gy1 : decide (y < -280000) = false := decide_eq_false y1
  have gy2 : decide (280000 < y) = false := decide_eq_false y2
  have gm1 : decide (m < 1) = false := decide_eq_false m1
  have gm2 : decide (12 < m) = false := decide_eq_false m2
  have gd1 : decide (d < 1) = false := decide_eq_false d1
  have gd2 : decide (lenM y m < d) = true := decide_eq_true d2
  have MR := Lib.hid (fun m W => monthR y m W)
  have KB := (BK.nil w).more3 (.int .i64 y) (.int .i64 m) (.int .i64 d) 144
  go_enter Tryz.func119, Tryz.ntmps119
  go_wp2_with fail
  generalize w.alloc (.cells #[.int .i64 y, .int .i64 m, .int .i64 d] 144) = w0 at *
  obtain ⟨_, a0, a1, a2, _⟩ := KB.head.three
  go_quiet ((first
    | (go_at_call 120; exact Calls.quiet_of_same ((MR.out m _).mono fun _ _ ⟨h1, h2⟩ => ⟨h1, h2.symm⟩))))
  replace KB := KB.below (below_drewN (Below.refl _ _) nq)
  generalize w0.drewN nq = w1 at *
  have HB := KB.hb
  go_wp2
  go_ret2
  exact ⟨rfl, HB⟩
theorem daysR_core (y m d : Int) (y1 : ¬ y < -280000) (y2 : ¬ 280000 < y) (m1 : ¬ m < 1) (m2 : ¬ 12 < m) (d1 : ¬ d < 1) (d2 : ¬ lenM y m < d) (n : Int) (hn : Hid (numD y m d = n)) (w : World) :
    Calls Tryz.prog 119 #[.agg #[.int .i64 y, .int .i64 m, .int .i64 d]] w (RetNumB w (nv n) (nk n)) := by
  have gy1 : decide (y < -280000) = false := decide_eq_false y1
  have gy2 : decide (280000 < y) = false := decide_eq_false y2
  have gm1 : decide (m < 1) = false := decide_eq_false m1
  have gm2 : decide (12 < m) = false := decide_eq_false m2
  have gd1 : decide (d < 1) = false := decide_eq_false d1
  have gd2 : decide (lenM y m < d) = false := decide_eq_false d2
  have MR := Lib.hid (fun m W => monthR y m W)
  have JR := Lib.hid (fun W => janR y (by omega) (by omega) W)
  have ml := lenM_le y m
  have KB := (BK.nil w).more3 (.int .i64 y) (.int .i64 m) (.int .i64 d) 144
  go_enter Tryz.func119, Tryz.ntmps119
  go_wp2_with fail
  generalize w.alloc (.cells #[.int .i64 y, .int .i64 m, .int .i64 d] 144) = w0 at *
  obtain ⟨_, a0, a1, a2, _⟩ := KB.head.three
  go_quiet ((first
    | (go_at_call 120; exact Calls.quiet_of_same ((MR.out m _).mono fun _ _ ⟨h1, h2⟩ => ⟨h1, h2.symm⟩))))
  replace KB := KB.below (below_drewN (Below.refl _ _) nq)
  generalize w0.drewN nq = w1 at *
  clear a0 a1 a2
  obtain ⟨_, a0, a1, a2, _⟩ := KB.head.three
  have jb := jan_bound (y := y) (by omega) (by omega)
  have CO := Lib.hid (cum_one y)
  have CS := Lib.hid (fun k h1 h2 => cum_succ (y := y) (m := k) h1 h2)
  have CR := Lib.hid (fun k h1 h2 => cum_range (y := y) (m := k) h1 h2)
  have YR := lenY_range y
  have ND := Lib.hid (show jan y + cum y m + (d - 1) = n from hn.out)
  generalize jan y = J at *
  go_wp2_with (go_at_call 138; refine (JR.out _).mono ?_; rintro e w' ⟨rfl, rfl⟩)
  go_loop [4, 5] (fun v4 v5 => ∃ k : Int, 1 ≤ k ∧ k ≤ m ∧ v4 = .int .i64 (J + cum y k) ∧ v5 = .int .i64 k) (fun _ v5 => (m - intOf v5).toNat)
  case atStart => exact ⟨1, by omega, by omega, by rw [CO.out, Int.add_zero], rfl⟩
  case round =>
    obtain ⟨k, k1, k2, rfl, rfl⟩ := hrel
    have cr := CR.out k k1 (by omega)
    have lk := lenM_le y k
    by_cases hk : k < m
    · have S := Lib.hid (CS.out k k1 (by omega))
      have ML := Lib.hid (fun W => MR.out k W)
      generalize cum y k = ck at *
      generalize lenM y k = l0 at *
      go_wp2_with (go_at_call 120; refine (ML.out _).mono ?_; rintro e w' ⟨rfl, rfl⟩)
      go_round
      case rel => exact ⟨k + 1, by omega, by omega, by rw [S.out, Int.add_assoc], rfl⟩
      case measure => simp [intOf]; omega
    · have e : k = m := by omega
      subst e
      have HB := KB.hb
      have ne : J + cum y k + d - 1 = n := by have := ND.out; omega
      clear CS CR CO MR JR hn ND
      generalize cum y k = ck at *
      generalize lenM y k = l0 at *
      by_cases n1 : n < -100000001
      · have E := Lib.hid (nv_no (n := n) (.inl n1))
        go_wp2
        go_ret2
        exact ⟨by rw [E.out.1, E.out.2]; rfl, HB⟩
      · by_cases n2 : 100000000 < n
        · have E := Lib.hid (nv_no (n := n) (.inr n2))
          go_wp2
          go_ret2
          exact ⟨by rw [E.out.1, E.out.2]; rfl, HB⟩
        · have E := Lib.hid (nv_yes (n := n) (by omega) (by omega))
          go_wp2
          go_ret2
          exact ⟨by rw [E.out.1, E.out.2]; rfl, HB⟩
def dv (y m d : Int) : Int := if okD y m d then numD y m d else 0
theorem daysR (y m d : Int) (w : World) : Calls Tryz.prog 119 #[.agg #[.int .i64 y, .int .i64 m, .int .i64 d]] w (RetNumB w (dv y m d) (decide (okD y m d))) := by
  have no : ¬ okD y m d → ∀ {w}, Calls Tryz.prog 119 #[.agg #[.int .i64 y, .int .i64 m, .int .i64 d]] w (RetNumB w 0 false) → Calls Tryz.prog 119 #[.agg #[.int .i64 y, .int .i64 m, .int .i64 d]] w (RetNumB w (dv y m d) (decide (okD y m d))) := fun h _ c => by
    rw [decide_eq_false h, show dv y m d = 0 by unfold dv; rw [if_neg h]]; exact c
  by_cases y1 : y < -280000
  · exact no (fun h => by have := ok_year h; omega) (daysR_no0 y m d y1 w)
  by_cases y2 : 280000 < y
  · exact no (fun h => by have := ok_year h; omega) (daysR_no1 y m d y1 y2 w)
  by_cases m1 : m < 1
  · exact no (fun h => by have := h.1.1; omega) (daysR_no2 y m d y1 y2 m1 w)
  by_cases m2 : 12 < m
  · exact no (fun h => by have := h.1.2.1; omega) (daysR_no3 y m d y1 y2 m1 m2 w)
  by_cases d1 : d < 1
  · exact no (fun h => by have := h.1.2.2.1; omega) (daysR_no4 y m d y1 y2 m1 m2 d1 w)
  by_cases d2 : lenM y m < d
  · exact no (fun h => by have := h.1.2.2.2; omega) (daysR_no5 y m d y1 y2 m1 m2 d1 d2 w)
  have c := daysR_core y m d y1 y2 m1 m2 d1 d2 _ (Lib.hid rfl) w
  have iff : okD y m d ↔ (-100000001 ≤ numD y m d ∧ numD y m d ≤ 100000000) := ⟨fun h => h.2, fun h => ⟨⟨by omega, by omega, by omega, by omega⟩, h⟩⟩
  by_cases h : okD y m d
  · rw [(nv_yes (iff.1 h).1 (iff.1 h).2).1, (nv_yes (iff.1 h).1 (iff.1 h).2).2] at c
    rw [decide_eq_true h, show dv y m d = numD y m d by unfold dv; rw [if_pos h]]
    exact c
  · have h' : ¬ (-100000001 ≤ numD y m d ∧ numD y m d ≤ 100000000) := fun k => h (iff.2 k)
    obtain ⟨e1, e2⟩ := nv_no (n := numD y m d) (by omega)
    rw [e1, e2] at c
    exact no h c
def RetDateB (w : World) (y m d : Int) (ok : Bool) (e : Ending) (w' : World) : Prop := e = .returned (.tuple #[.agg #[.int .i64 y, .int .i64 m, .int .i64 d], .bool ok]) ∧ Below w.heap.size w w'
theorem ofR_core (n y m d : Int) (n1 : ¬ n < -100000001) (n2 : ¬ 100000000 < n) (hd : dayOk y m d) (hn : numD y m d = n) (w : World) :
    Calls Tryz.prog 122 #[.int .i64 n] w (RetDateB w y m d true) := by
  obtain ⟨c, hc⟩ : ∃ c : Int, c = (n + 719528) / 146097 := ⟨_, rfl⟩
  have D := Lib.hid (fun W => down146097 (n + 719528) (by omega) (by omega) W)
  rw [← hc] at D
  have yr := num_year hd
  rw [hn] at yr
  have jc := jan_cycle c
  have j4 := jan_400 (400 * c)
  have oy := ok_year (y := y) (m := m) (d := d) ⟨hd, by omega, by omega⟩
  have cy1 : 400 * c ≤ y := by
    apply Classical.byContradiction
    intro k
    have := jan_le (show y + 1 ≤ 400 * c by omega)
    omega
  have cy2 : y ≤ 400 * c + 400 := by
    apply Classical.byContradiction
    intro k
    have := jan_le (show 400 * c + 400 ≤ y by omega)
    omega
  obtain ⟨m1, m2, d1, d2⟩ := hd
  have hn' : n - jan y = cum y m + (d - 1) := by unfold numD at hn; omega
  have c1 : -3000 ≤ c := by omega
  have c2 : c ≤ 3000 := by omega
  have cb1 : -500000000 ≤ c * 146097 := by omega
  have cb2 : c * 146097 ≤ 500000000 := by omega
  have J := Lib.hid (show n + 719528 - c * 146097 = n - jan (400 * c) by omega)
  have Y := Lib.hid (fun k W => lenYR k W)
  have MR := Lib.hid (fun k W => monthR y k W)
  have ME := Lib.hid hn'
  have YE := Lib.hid yr
  clear hc jc j4 hn hn' yr
  have KB := (BK.nil w).more3 (.int .i64 0) (.int .i64 0) (.int .i64 0) 144
  go_enter Tryz.func122, Tryz.ntmps122
  go_upto_region 1 with (fail)
  generalize w.alloc (.cells #[.int .i64 0, .int .i64 0, .int .i64 0] 144) = w0 at *
  go_wp2_with (go_at_call 121; refine (D.out _).mono ?_; rintro e w' ⟨rfl, rfl⟩)
  go_loop [5, 6] (fun v5 v6 => ∃ k : Int, 400 * c ≤ k ∧ k ≤ y ∧ v5 = .int .i64 k ∧ v6 = .int .i64 (n - jan k)) (fun v5 _ => (y - intOf v5).toNat)
  case atStart => exact ⟨400 * c, by omega, by omega, by go_num, by rw [← J.out]⟩
  case round =>
    obtain ⟨k, k1, k2, rfl, rfl⟩ := hrel
    have jb := jan_bound (y := k) (by omega) (by omega)
    have lb := lenY_range k
    have YK := Lib.hid (fun W => Y.out k W)
    by_cases hk : k < y
    · have S := Lib.hid (jan_succ k)
      have ge : lenY k ≤ n - jan k := by
        have := jan_le (show k + 1 ≤ y by omega)
        have := S.out
        have := YE.out
        omega
      have S' := Lib.hid (show n - jan (k + 1) = n - jan k - lenY k by have := S.out; omega)
      generalize jan k = jk at *
      generalize lenY k = lk at *
      go_wp2_with (go_at_call 140; refine (YK.out _).mono ?_; rintro e w' ⟨rfl, rfl⟩)
      go_round
      case rel => exact ⟨k + 1, by omega, by omega, rfl, by rw [S'.out]⟩
      case measure => simp [intOf]; omega
    · have e : k = y := by omega
      subst e
      have lt : ¬ lenY k ≤ n - jan k := by have := YE.out; have := jan_succ k; omega
      have CO := Lib.hid (cum_one k)
      have LE := Lib.hid ME.out
      generalize hl : n - jan k = left at *
      clear J Y YE
      generalize lenY k = lk at *
      go_wp2_with (go_at_call 140; refine (YK.out _).mono ?_; rintro e w' ⟨rfl, rfl⟩)
      go_loop [6, 7] (fun v6 v7 => ∃ i : Int, 1 ≤ i ∧ i ≤ m ∧ v6 = .int .i64 (left - cum k i) ∧ v7 = .int .i64 i) (fun _ v7 => (m - intOf v7).toNat)
      case atStart => exact ⟨1, by omega, by omega, by rw [CO.out, Int.sub_zero], rfl⟩
      case round =>
        obtain ⟨i, i1, i2, rfl, rfl⟩ := hrel
        have MK := Lib.hid (fun W => MR.out i W)
        have ml := lenM_le k i
        have cr := cum_range (y := k) (m := i) i1 (by omega)
        have cm := cum_range (y := k) (m := m) (by omega) (by omega)
        have le := LE.out
        by_cases hi : i < m
        · have S := Lib.hid (cum_succ (y := k) i1 (by omega))
          have ge : lenM k i ≤ left - cum k i := by have := cum_lt (y := k) i1 hi (by omega); omega
          have S' := Lib.hid (show left - cum k (i + 1) = left - cum k i - lenM k i by have := S.out; omega)
          clear le
          generalize lenM k i = l0 at *
          generalize cum k i = ci at *
          go_wp2_with (go_at_call 120; refine (MK.out _).mono ?_; rintro e w' ⟨rfl, rfl⟩)
          go_round
          case rel => exact ⟨i + 1, by omega, by omega, by rw [S'.out], rfl⟩
          case measure => simp [intOf]; omega
        · have e : i = m := by omega
          subst e
          have lt : ¬ lenM k i ≤ left - cum k i := by omega
          have el := Lib.hid (show left - cum k i + 1 = d by omega)
          have b1 : 0 ≤ left - cum k i := by omega
          have b2 : left - cum k i ≤ 31 := by omega
          clear le
          generalize lenM k i = l0 at *
          generalize cum k i = ci at *
          obtain ⟨_, a0, a1, a2, f0, f1, f2⟩ := KB.head.three
          go_wp2_with (go_at_call 120; refine (MK.out _).mono ?_; rintro e w' ⟨rfl, rfl⟩)
          go_wp2
          obtain ⟨_, P0, P1, P2, _, _, _⟩ := (KB.head.self3 (.int .i64 (k)) (.int .i64 (i)) (.int .i64 (left - ci + 1))).three
          have HB := ((KB.hb.setCell (p := ⟨w.heap.size, 0, none⟩) (Nat.le_refl _) (.int .i64 (k))).setCell (p := ⟨w.heap.size, 1, none⟩) (Nat.le_refl _) (.int .i64 (i))).setCell (p := ⟨w.heap.size, 2, none⟩) (Nat.le_refl _) (.int .i64 (left - ci + 1))
          exact bodyPost_ret (v := .tuple #[.agg #[.int .i64 (k), .int .i64 (i), .int .i64 (left - ci + 1)], .bool true]) (by simp [results, Tryz.results122, go_sem, P0, P1, P2]) rfl ⟨by rw [el.out], HB⟩
theorem ofR_yes (n y m d : Int) (h : okD y m d) (hn : numD y m d = n) (w : World) : Calls Tryz.prog 122 #[.int .i64 n] w (RetDateB w y m d true) :=
  ofR_core n y m d (by have := h.2; omega) (by have := h.2; omega) h.1 hn w
def wdv (y m d : Int) : Int := if okD y m d then wday (numD y m d) else 0
theorem daysR_is {y m d : Int} (h : okD y m d) (W : World) : Calls Tryz.prog 119 #[.agg #[.int .i64 y, .int .i64 m, .int .i64 d]] W (RetNumB W (numD y m d) true) := by
  have := daysR y m d W
  rwa [decide_eq_true h, show dv y m d = numD y m d by unfold dv; rw [if_pos h]] at this
theorem daysR_none {y m d : Int} (h : ¬ okD y m d) (W : World) : Calls Tryz.prog 119 #[.agg #[.int .i64 y, .int .i64 m, .int .i64 d]] W (RetNumB W 0 false) := by
  have := daysR y m d W
  rwa [decide_eq_false h, show dv y m d = 0 by unfold dv; rw [if_neg h]] at this
end Go.Proofs.YtmhpnmlgfdomkaaGreatDoor
