/- The document's answer of layer 5: lengths of years and months, quotients, first days of years. -/
import Derived.Test.YtmmgppfopojnlaaDoorCal
import Derived.Test.YtmmgppfopojnlaaDoorGa
import Derived.Lib.Hide
import Derived.LoopTactic
import Derived.Outline
import Derived.Below
namespace Go.Proofs.YtmmgppfopojnlaaDoor
open Go.RowKit

theorem tmod_zero (y k : Int) : y.tmod k = 0 ↔ y % k = 0 := by rw [← Int.dvd_iff_tmod_eq_zero, ← Int.dvd_iff_emod_eq_zero]
theorem leapR (y : Int) (w : World) :
    Calls Tryd.prog 17 #[.int .i64 y] w (fun e w' => e = .returned (.bool (decide (leap y))) ∧ w = w') := by
  have t4 := tmod_zero y 4
  have t1 := tmod_zero y 100
  have t0 := tmod_zero y 400
  by_cases h4 : y % 400 = 0
  · have e : decide (leap y) = true := decide_eq_true (by unfold leap; omega)
    rw [e]
    have a1 := t0.2 h4
    clear t4 t1 t0 e h4
    go_enter Tryd.func17, Tryd.ntmps17
    go_wp2
    go_ret
    exact ⟨rfl, rfl⟩
  · have a1 : (y.tmod 400 == 0) = false := by rw [beq_eq_false_iff_ne]; exact fun h => h4 (t0.1 h)
    by_cases h1 : y % 100 = 0
    · have e : decide (leap y) = false := decide_eq_false (by unfold leap; omega)
      rw [e]
      have a2 := t1.2 h1
      clear t4 t1 t0 e h4 h1
      go_enter Tryd.func17, Tryd.ntmps17
      go_wp2
      go_ret
      exact ⟨rfl, rfl⟩
    · have a2 : (y.tmod 100 == 0) = false := by rw [beq_eq_false_iff_ne]; exact fun h => h1 (t1.1 h)
      have e : (y.tmod 4 == 0) = decide (leap y) := by
        by_cases h : y % 4 = 0
        · rw [decide_eq_true (by unfold leap; omega), t4.2 h]; rfl
        · rw [decide_eq_false (by unfold leap; omega), beq_eq_false_iff_ne]; exact fun k => h (t4.1 k)
      rw [← e]
      clear t4 t1 t0 e h4 h1
      go_enter Tryd.func17, Tryd.ntmps17
      go_wp2
      go_ret
      exact ⟨rfl, rfl⟩
theorem lenYR (y : Int) (w : World) :
    Calls Tryd.prog 39 #[.int .i64 y] w (fun e w' => e = .returned (.int .i64 (lenY y)) ∧ w = w') := by
  have L := Lib.hid (fun W => leapR y W)
  unfold lenY
  by_cases h : leap y
  · rw [if_pos h]
    rw [decide_eq_true h] at L
    clear h
    go_enter Tryd.func39, Tryd.ntmps39
    go_wp2_with (go_at_call 17; refine (L.out _).mono ?_; rintro e w' ⟨rfl, rfl⟩)
    go_ret
    exact ⟨rfl, rfl⟩
  · rw [if_neg h]
    rw [decide_eq_false h] at L
    clear h
    go_enter Tryd.func39, Tryd.ntmps39
    go_wp2_with (go_at_call 17; refine (L.out _).mono ?_; rintro e w' ⟨rfl, rfl⟩)
    go_ret
    exact ⟨rfl, rfl⟩
theorem monthR_two (y : Int) (w : World) :
    Calls Tryd.prog 19 #[.int .i64 y, .int .i64 2] w (fun e w' => e = .returned (.int .i64 (lenM y 2)) ∧ w = w') := by
  have L := Lib.hid (fun W => leapR y W)
  by_cases h : leap y
  · rw [show lenM y 2 = 29 by unfold lenM; simp [h]]
    rw [decide_eq_true h] at L
    clear h
    go_enter Tryd.func19, Tryd.ntmps19
    go_wp2_with (go_at_call 17; refine (L.out _).mono ?_; rintro e w' ⟨rfl, rfl⟩)
    go_ret
    exact ⟨rfl, rfl⟩
  · rw [show lenM y 2 = 28 by unfold lenM; simp [h]]
    rw [decide_eq_false h] at L
    clear h
    go_enter Tryd.func19, Tryd.ntmps19
    go_wp2_with (go_at_call 17; refine (L.out _).mono ?_; rintro e w' ⟨rfl, rfl⟩)
    go_ret
    exact ⟨rfl, rfl⟩
theorem monthR (y m : Int) (w : World) :
    Calls Tryd.prog 19 #[.int .i64 y, .int .i64 m] w (fun e w' => e = .returned (.int .i64 (lenM y m)) ∧ w = w') := by
  by_cases hm : 1 ≤ m ∧ m ≤ 12
  · have hm : m = 2 ∨ (m = 1 ∨ m = 3 ∨ m = 5 ∨ m = 7 ∨ m = 8 ∨ m = 10 ∨ m = 12) ∨ m = 4 ∨ m = 6 ∨ m = 9 ∨ m = 11 := by omega
    rcases hm with rfl | hm | hm
    · exact monthR_two y w
    · rcases hm with rfl | rfl | rfl | rfl | rfl | rfl | rfl
      all_goals
        rw [show lenM y _ = 31 by unfold lenM; simp]
        go_enter Tryd.func19, Tryd.ntmps19
        go_wp2
        go_ret
        exact ⟨rfl, rfl⟩
    · rcases hm with rfl | rfl | rfl | rfl
      all_goals
        rw [show lenM y _ = 30 by unfold lenM; simp]
        go_enter Tryd.func19, Tryd.ntmps19
        go_wp2
        go_ret
        exact ⟨rfl, rfl⟩
  · rw [lenM_no (by omega)]
    have b1 : (m == 1) = false := by rw [beq_eq_false_iff_ne]; omega
    have b2 : (m == 2) = false := by rw [beq_eq_false_iff_ne]; omega
    have b3 : (m == 3) = false := by rw [beq_eq_false_iff_ne]; omega
    have b4 : (m == 4) = false := by rw [beq_eq_false_iff_ne]; omega
    have b5 : (m == 5) = false := by rw [beq_eq_false_iff_ne]; omega
    have b6 : (m == 6) = false := by rw [beq_eq_false_iff_ne]; omega
    have b7 : (m == 7) = false := by rw [beq_eq_false_iff_ne]; omega
    have b8 : (m == 8) = false := by rw [beq_eq_false_iff_ne]; omega
    have b9 : (m == 9) = false := by rw [beq_eq_false_iff_ne]; omega
    have b10 : (m == 10) = false := by rw [beq_eq_false_iff_ne]; omega
    have b11 : (m == 11) = false := by rw [beq_eq_false_iff_ne]; omega
    have b12 : (m == 12) = false := by rw [beq_eq_false_iff_ne]; omega
    clear hm
    go_enter Tryd.func19, Tryd.ntmps19
    go_wp2
    go_ret
    exact ⟨rfl, rfl⟩
theorem tdiv_parts (a b : Int) (hb : 0 < b) : ∃ T R : Int, a.tdiv b = T ∧ a = b * T + R ∧ -b < R ∧ R < b ∧ (0 ≤ a → 0 ≤ R) ∧ (a ≤ 0 → R ≤ 0) := by
  have e := Int.tmod_add_mul_tdiv a b
  refine ⟨a.tdiv b, a.tmod b, rfl, by omega, ?_⟩
  rcases Int.le_total 0 a with h | h
  · have h1 := Int.tmod_nonneg b h
    have h2 := Int.tmod_lt_of_pos a hb
    exact ⟨by omega, h2, fun _ => h1, fun k => by have : a = 0 := by omega
                                                  rw [this]; simp⟩
  · have h1 := Int.tmod_nonneg (a := -a) b (by omega)
    have h2 := Int.tmod_lt_of_pos (-a) hb
    rw [Int.neg_tmod] at h1 h2
    exact ⟨by omega, by omega, fun k => by have : a = 0 := by omega
                                           rw [this]; simp, fun _ => by omega⟩
theorem down400 (a : Int) (h1 : -9223372036854775000 ≤ a) (h2 : a ≤ 9223372036854775000) (w : World) :
    Calls Tryd.prog 38 #[.int .i64 a, .int .i64 400] w (fun e w' => e = .returned (.int .i64 (a / 400)) ∧ w = w') := by
  obtain ⟨T, R, e1, e2, e3, e4, e5, e6⟩ := tdiv_parts a 400 (by decide)
  by_cases h : R < 0
  · have e : a / 400 = T - 1 := by omega
    have g : a < T * 400 := by omega
    have f1 : -9223372036854775807 ≤ T * 400 := by omega
    have f2 : T * 400 ≤ 9223372036854775807 := by omega
    have f3 : -9223372036854775000 ≤ T := by omega
    have f4 : T ≤ 9223372036854775000 := by omega
    rw [e]
    clear e e2 e3 e4 e5 e6 h
    go_enter Tryd.func38, Tryd.ntmps38
    go_wp2
    go_ret
    exact ⟨rfl, rfl⟩
  · have e : a / 400 = T := by omega
    have g : ¬ a < T * 400 := by omega
    have f1 : -9223372036854775807 ≤ T * 400 := by omega
    have f2 : T * 400 ≤ 9223372036854775807 := by omega
    rw [e]
    clear e e2 e3 e4 e5 e6 h
    go_enter Tryd.func38, Tryd.ntmps38
    go_wp2
    go_ret
    exact ⟨rfl, rfl⟩
theorem down146097 (a : Int) (h1 : -9223372036854775000 ≤ a) (h2 : a ≤ 9223372036854775000) (w : World) :
    Calls Tryd.prog 38 #[.int .i64 a, .int .i64 146097] w (fun e w' => e = .returned (.int .i64 (a / 146097)) ∧ w = w') := by
  obtain ⟨T, R, e1, e2, e3, e4, e5, e6⟩ := tdiv_parts a 146097 (by decide)
  by_cases h : R < 0
  · have e : a / 146097 = T - 1 := by omega
    have g : a < T * 146097 := by omega
    have f1 : -9223372036854775807 ≤ T * 146097 := by omega
    have f2 : T * 146097 ≤ 9223372036854775807 := by omega
    have f3 : -9223372036854775000 ≤ T := by omega
    have f4 : T ≤ 9223372036854775000 := by omega
    rw [e]
    clear e e2 e3 e4 e5 e6 h
    go_enter Tryd.func38, Tryd.ntmps38
    go_wp2
    go_ret
    exact ⟨rfl, rfl⟩
  · have e : a / 146097 = T := by omega
    have g : ¬ a < T * 146097 := by omega
    have f1 : -9223372036854775807 ≤ T * 146097 := by omega
    have f2 : T * 146097 ≤ 9223372036854775807 := by omega
    rw [e]
    clear e e2 e3 e4 e5 e6 h
    go_enter Tryd.func38, Tryd.ntmps38
    go_wp2
    go_ret
    exact ⟨rfl, rfl⟩
theorem down7 (a : Int) (h1 : -9223372036854775000 ≤ a) (h2 : a ≤ 9223372036854775000) (w : World) :
    Calls Tryd.prog 38 #[.int .i64 a, .int .i64 7] w (fun e w' => e = .returned (.int .i64 (a / 7)) ∧ w = w') := by
  obtain ⟨T, R, e1, e2, e3, e4, e5, e6⟩ := tdiv_parts a 7 (by decide)
  by_cases h : R < 0
  · have e : a / 7 = T - 1 := by omega
    have g : a < T * 7 := by omega
    have f1 : -9223372036854775807 ≤ T * 7 := by omega
    have f2 : T * 7 ≤ 9223372036854775807 := by omega
    have f3 : -9223372036854775000 ≤ T := by omega
    have f4 : T ≤ 9223372036854775000 := by omega
    rw [e]
    clear e e2 e3 e4 e5 e6 h
    go_enter Tryd.func38, Tryd.ntmps38
    go_wp2
    go_ret
    exact ⟨rfl, rfl⟩
  · have e : a / 7 = T := by omega
    have g : ¬ a < T * 7 := by omega
    have f1 : -9223372036854775807 ≤ T * 7 := by omega
    have f2 : T * 7 ≤ 9223372036854775807 := by omega
    rw [e]
    clear e e2 e3 e4 e5 e6 h
    go_enter Tryd.func38, Tryd.ntmps38
    go_wp2
    go_ret
    exact ⟨rfl, rfl⟩
end Go.Proofs.YtmmgppfopojnlaaDoor
