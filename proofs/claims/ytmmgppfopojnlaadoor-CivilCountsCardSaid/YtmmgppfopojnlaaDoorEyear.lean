/- Package civil: the first days of years and months, the year of a day. -/
import Derived.Test.YtmmgppfopojnlaaDoorElen
namespace Go.Proofs.YtmmgppfopojnlaaDoor
open Go.RowKit

set_option maxRecDepth 100000 in
set_option maxHeartbeats 4000000 in
theorem countP (n : Int) (w : World) :
    Calls Tryd.prog 35 #[.int .i64 n] w (fun e w' => e = .returned (.bool (nk n)) ∧ w = w') := by
  by_cases h1 : -100000001 ≤ n
  · have g1 : decide (-100000001 ≤ n) = true := decide_eq_true h1
    have e : nk n = decide (n ≤ 100000000) := by
      by_cases h : n ≤ 100000000
      · rw [decide_eq_true h]; exact decide_eq_true ⟨h1, h⟩
      · rw [decide_eq_false h]; exact decide_eq_false fun k => h k.2
    rw [e]
    clear e
    go_enter Tryd.func35, Tryd.ntmps35
    go_wp2
    go_ret
    exact ⟨rfl, rfl⟩
  · have g1 : decide (-100000001 ≤ n) = false := decide_eq_false h1
    have e : nk n = false := decide_eq_false fun k => h1 k.1
    rw [e]
    clear e
    go_enter Tryd.func35, Tryd.ntmps35
    go_wp2
    go_ret
    exact ⟨rfl, rfl⟩
set_option maxRecDepth 100000 in
set_option maxHeartbeats 4000000 in
theorem ystartP (y : Int) (h1 : -272000 ≤ y) (h2 : y ≤ 300000) (w : World) :
    Calls Tryd.prog 33 #[.int .i64 y] w (fun e w' => e = .returned (.int .i64 (jan y)) ∧ w = w') := by
  have b0 : 0 ≤ y + 272000 := by omega
  have E := Lib.hid (show -100065488 + 365 * (y + 272000) + ((y + 272000 + 3) / 4 - (y + 272000 + 99) / 100 + (y + 272000 + 399) / 400) = jan y by unfold jan; omega)
  go_enter Tryd.func33, Tryd.ntmps33
  go_wp2
  go_ret
  exact ⟨by rw [← E.out]; first | rfl | (congr 3; omega), rfl⟩
set_option maxRecDepth 100000 in
set_option maxHeartbeats 4000000 in
theorem mstartP (y m : Int) (h1 : 1 ≤ m) (h2 : m ≤ 13) (w : World) (L : Lens w) :
    Calls Tryd.prog 34 #[.int .i64 y, .int .i64 m] w (fun e w' => e = .returned (.int .i64 (cum y m)) ∧ w = w') := by
  have MR := Lib.hid (fun m W l => mlenP y m W l)
  have CO := Lib.hid (cum_one y)
  have CS := Lib.hid (fun k h1 h2 => cum_succ (y := y) (m := k) h1 h2)
  have CR := Lib.hid (fun k h1 h2 => cum_range (y := y) (m := k) h1 h2)
  have YR := lenY_range y
  go_enter Tryd.func34, Tryd.ntmps34
  go_wp2
  go_loop [5, 6] (fun v5 v6 => ∃ k : Int, 1 ≤ k ∧ k ≤ m ∧ v5 = .int .i64 (cum y k) ∧ v6 = .int .i64 k) (fun _ v6 => (m - intOf v6).toNat)
  case atStart => exact ⟨1, by omega, by omega, by rw [CO.out], rfl⟩
  case round =>
    obtain ⟨k, k1, k2, rfl, rfl⟩ := hrel
    have cr := CR.out k k1 (by omega)
    have lk := lenM_le y k
    by_cases hk : k < m
    · have S := Lib.hid (CS.out k k1 (by omega))
      have ML := Lib.hid (fun W l => MR.out k W l)
      generalize cum y k = ck at *
      generalize lenM y k = l0 at *
      go_wp2_with (go_at_call 18; (with_reducible refine (ML.out _ L).mono ?_); rintro e w' ⟨rfl, rfl⟩)
      go_round
      case rel => exact ⟨k + 1, by omega, by omega, by rw [S.out], rfl⟩
      case measure => simp [intOf]; omega
    · have e : k = m := by omega
      subst e
      clear CS CR CO MR
      go_wp2
      go_ret
      exact ⟨rfl, rfl⟩
theorem year_uniq {n a b : Int} (a1 : jan a ≤ n) (a2 : n < jan (a + 1)) (b1 : jan b ≤ n) (b2 : n < jan (b + 1)) : a = b := by
  rcases Int.lt_trichotomy a b with k | k | k
  · have := jan_le (show a + 1 ≤ b by omega); omega
  · exact k
  · have := jan_le (show b + 1 ≤ a by omega); omega
/-- the first guess of a day's year -/
def guess (n : Int) : Int := -272000 + (n + 100065488) / 146097 * 400 + (n + 100065488) % 146097 / 366
theorem guess_near {n : Int} (_h : -100065488 ≤ n) : jan (guess n) ≤ n ∧ n < jan (guess n + 2) := by
  obtain ⟨c, hc⟩ : ∃ c : Int, c = (n + 100065488) / 146097 := ⟨_, rfl⟩
  obtain ⟨r, hr⟩ : ∃ r : Int, r = (n + 100065488) % 146097 := ⟨_, rfl⟩
  obtain ⟨q, hq⟩ : ∃ q : Int, q = r / 366 := ⟨_, rfl⟩
  have e : guess n = 400 * (c - 680) + q := by unfold guess; rw [← hr, ← hq, ← hc]; omega
  rw [e]
  have hn : n = 146097 * c + r - 100065488 := by omega
  have r1 : 0 ≤ r := by omega
  have r2 : r < 146097 := by omega
  clear hc hr e
  have j1 : jan (400 * (c - 680) + q) = 146097 * (c - 680) - 719528 + (365 * q + (q + 3) / 4 - (q + 99) / 100 + (q + 399) / 400) := by unfold jan; omega
  have j2 : jan (400 * (c - 680) + q + 2) = 146097 * (c - 680) - 719528 + (365 * (q + 2) + (q + 5) / 4 - (q + 101) / 100 + (q + 401) / 400) := by unfold jan; omega
  rw [j1, j2]
  clear j1 j2
  omega
set_option maxRecDepth 100000 in
set_option maxHeartbeats 4000000 in
theorem yofP (n y : Int) (n1 : -100000010 ≤ n) (n2 : n ≤ 100000010) (y1 : jan y ≤ n) (y2 : n < jan (y + 1)) (w : World) :
    Calls Tryd.prog 37 #[.int .i64 n] w (fun e w' => e = .returned (.int .i64 y) ∧ w = w') := by
  have gn := guess_near (n := n) (by omega)
  have gb : -272000 ≤ guess n ∧ guess n ≤ 290000 := by unfold guess; omega
  have YS := Lib.hid (fun W => ystartP (guess n + 1) (by omega) (by omega) W)
  have U := Lib.hid (fun (a : Int) (a1 : jan a ≤ n) (a2 : n < jan (a + 1)) => year_uniq a1 a2 y1 y2)
  have GE := Lib.hid (show -272000 + (n + 100065488) / 146097 * 400 + (n + 100065488) % 146097 / 366 = guess n from rfl)
  have b0 : 0 ≤ n + 100065488 := by omega
  have b1 : 0 ≤ (n + 100065488) / 146097 := by omega
  have b2 : (n + 100065488) / 146097 ≤ 2000 := by omega
  have b3 : 0 ≤ (n + 100065488) % 146097 := by omega
  have b4 : (n + 100065488) % 146097 < 146097 := by omega
  have b5 : 0 ≤ (n + 100065488) % 146097 / 366 := by omega
  have b6 : (n + 100065488) % 146097 / 366 ≤ 400 := by omega
  clear y1 y2
  by_cases h : jan (guess n + 1) ≤ n
  · have e := Lib.hid (U.out (guess n + 1) h (by rw [show guess n + 1 + 1 = guess n + 2 by omega]; exact gn.2))
    clear U gn
    generalize jan (guess n + 1) = j1 at *
    go_enter Tryd.func37, Tryd.ntmps37
    go_wp2_with (go_at_call 33; rw [GE.out]; (with_reducible refine (YS.out _).mono ?_); rintro e w' ⟨rfl, rfl⟩)
    go_ret
    exact ⟨by rw [← e.out, ← GE.out]; rfl, rfl⟩
  · have e := Lib.hid (U.out (guess n) gn.1 (by omega))
    clear U gn
    generalize jan (guess n + 1) = j1 at *
    go_enter Tryd.func37, Tryd.ntmps37
    go_wp2_with (go_at_call 33; rw [GE.out]; (with_reducible refine (YS.out _).mono ?_); rintro e w' ⟨rfl, rfl⟩)
    go_ret
    exact ⟨by rw [← e.out, ← GE.out]; rfl, rfl⟩
end Go.Proofs.YtmmgppfopojnlaaDoor
