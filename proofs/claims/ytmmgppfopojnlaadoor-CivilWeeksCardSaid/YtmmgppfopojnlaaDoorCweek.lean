/- The document's answer of layer 5: right dates, weekdays, days of years, weeks. -/
import Derived.Test.YtmmgppfopojnlaaDoorCof
namespace Go.Proofs.YtmmgppfopojnlaaDoor
open Go.RowKit

/-- What a call that answers two numbers leaves. -/
def RetNN (w : World) (a b : Int) (e : Ending) (w' : World) : Prop := e = .returned (.tuple #[.int .i64 a, .int .i64 b]) ∧ Below w.heap.size w w'
set_option maxRecDepth 100000 in
set_option maxHeartbeats 4000000 in
theorem rightR_core (y m d n : Int) (ok : Bool) (DA : Hid (∀ W, Calls Tryd.prog 11 #[.agg #[.int .i64 y, .int .i64 m, .int .i64 d]] W (RetNumB W n ok))) (w : World) :
    Calls Tryd.prog 40 #[.agg #[.int .i64 y, .int .i64 m, .int .i64 d]] w (RetV w (.bool ok)) := by
  have KB := (BK.nil w).more3 (.int .i64 y) (.int .i64 m) (.int .i64 d) 23
  go_enter Tryd.func40, Tryd.ntmps40
  go_wp2_with fail
  generalize w.alloc (.cells #[.int .i64 y, .int .i64 m, .int .i64 d] 23) = w0 at *
  refine (DA.out _).mono ?_
  rintro e w1 ⟨rfl, k⟩
  replace KB := KB.below k
  clear k
  have HB := KB.hb
  go_wp2
  go_ret
  exact ⟨rfl, HB⟩
theorem rightR (y m d : Int) (w : World) : Calls Tryd.prog 40 #[.agg #[.int .i64 y, .int .i64 m, .int .i64 d]] w (RetV w (.bool (decide (okD y m d)))) := rightR_core y m d _ _ (Lib.hid fun W => daysR y m d W) w
set_option maxRecDepth 100000 in
set_option maxHeartbeats 4000000 in
theorem weekdayR_no (y m d : Int) (DA : Hid (∀ W, Calls Tryd.prog 11 #[.agg #[.int .i64 y, .int .i64 m, .int .i64 d]] W (RetNumB W 0 false))) (w : World) :
    Calls Tryd.prog 23 #[.agg #[.int .i64 y, .int .i64 m, .int .i64 d]] w (RetV w (.int .i64 0)) := by
  have KB := (BK.nil w).more3 (.int .i64 y) (.int .i64 m) (.int .i64 d) 23
  go_enter Tryd.func23, Tryd.ntmps23
  go_wp2_with fail
  generalize w.alloc (.cells #[.int .i64 y, .int .i64 m, .int .i64 d] 23) = w0 at *
  refine (DA.out _).mono ?_
  rintro e w1 ⟨rfl, k⟩
  replace KB := KB.below k
  clear k
  have HB := KB.hb
  go_wp2
  go_ret
  exact ⟨rfl, HB⟩
set_option maxRecDepth 100000 in
set_option maxHeartbeats 4000000 in
theorem weekdayR_yes (y m d n : Int) (n1 : -100000001 ≤ n) (n2 : n ≤ 100000000) (DA : Hid (∀ W, Calls Tryd.prog 11 #[.agg #[.int .i64 y, .int .i64 m, .int .i64 d]] W (RetNumB W n true))) (w : World) :
    Calls Tryd.prog 23 #[.agg #[.int .i64 y, .int .i64 m, .int .i64 d]] w (RetV w (.int .i64 (wday n))) := by
  have DW := Lib.hid (fun W => down7 (n + 3) (by omega) (by omega) W)
  have b1 : -100000000 ≤ (n + 3) / 7 := by omega
  have b2 : (n + 3) / 7 ≤ 100000000 := by omega
  have E := Lib.hid (show n + 3 - 7 * ((n + 3) / 7) + 1 = wday n by unfold wday; omega)
  have b3 : 0 ≤ n + 3 - 7 * ((n + 3) / 7) := by omega
  have b4 : n + 3 - 7 * ((n + 3) / 7) ≤ 7 := by omega
  generalize (n + 3) / 7 = q at *
  have KB := (BK.nil w).more3 (.int .i64 y) (.int .i64 m) (.int .i64 d) 23
  go_enter Tryd.func23, Tryd.ntmps23
  go_wp2_with fail
  generalize w.alloc (.cells #[.int .i64 y, .int .i64 m, .int .i64 d] 23) = w0 at *
  refine (DA.out _).mono ?_
  rintro e w1 ⟨rfl, k⟩
  replace KB := KB.below k
  clear k
  obtain ⟨_, a0, a1, a2, _⟩ := KB.head.three
  have HB := KB.hb
  go_wp2_with (go_at_call 38; refine (DW.out _).mono ?_; rintro e w' ⟨rfl, rfl⟩)
  go_ret
  exact ⟨by rw [E.out]; rfl, HB⟩
set_option maxRecDepth 100000 in
set_option maxHeartbeats 4000000 in
theorem doyR_no (y m d : Int) (DA : Hid (∀ W, Calls Tryd.prog 11 #[.agg #[.int .i64 y, .int .i64 m, .int .i64 d]] W (RetNumB W 0 false))) (w : World) :
    Calls Tryd.prog 25 #[.agg #[.int .i64 y, .int .i64 m, .int .i64 d]] w (RetV w (.int .i64 0)) := by
  have KB := (BK.nil w).more3 (.int .i64 y) (.int .i64 m) (.int .i64 d) 23
  go_enter Tryd.func25, Tryd.ntmps25
  go_wp2_with fail
  generalize w.alloc (.cells #[.int .i64 y, .int .i64 m, .int .i64 d] 23) = w0 at *
  refine (DA.out _).mono ?_
  rintro e w1 ⟨rfl, k⟩
  replace KB := KB.below k
  clear k
  have HB := KB.hb
  go_wp2
  go_ret
  exact ⟨rfl, HB⟩
set_option maxRecDepth 100000 in
set_option maxHeartbeats 4000000 in
theorem doyR_yes (y m d n : Int) (n1 : -100000001 ≤ n) (n2 : n ≤ 100000000) (DA : Hid (∀ W, Calls Tryd.prog 11 #[.agg #[.int .i64 y, .int .i64 m, .int .i64 d]] W (RetNumB W n true))) (y1 : -280000 ≤ y) (y2 : y ≤ 280000) (w : World) :
    Calls Tryd.prog 25 #[.agg #[.int .i64 y, .int .i64 m, .int .i64 d]] w (RetV w (.int .i64 (n - jan y + 1))) := by
  have JR := Lib.hid (fun W => janR y (by omega) (by omega) W)
  have jb := jan_bound (y := y) (by omega) (by omega)
  have KB := (BK.nil w).more3 (.int .i64 y) (.int .i64 m) (.int .i64 d) 23
  go_enter Tryd.func25, Tryd.ntmps25
  go_wp2_with fail
  generalize w.alloc (.cells #[.int .i64 y, .int .i64 m, .int .i64 d] 23) = w0 at *
  refine (DA.out _).mono ?_
  rintro e w1 ⟨rfl, k⟩
  replace KB := KB.below k
  clear k
  obtain ⟨_, a0, a1, a2, _⟩ := KB.head.three
  have HB := KB.hb
  generalize jan y = J at *
  go_wp2_with (go_at_call 36; refine (JR.out _).mono ?_; rintro e w' ⟨rfl, rfl⟩)
  go_ret
  exact ⟨rfl, HB⟩
/-- what Weekday and DayOfYear tell -/
def wdv (y m d : Int) : Int := if okD y m d then wday (numD y m d) else 0
def ydv (y m d : Int) : Int := if okD y m d then numD y m d - jan y + 1 else 0
theorem daysR_is {y m d : Int} (h : okD y m d) (W : World) : Calls Tryd.prog 11 #[.agg #[.int .i64 y, .int .i64 m, .int .i64 d]] W (RetNumB W (numD y m d) true) := by
  have := daysR y m d W
  rwa [decide_eq_true h, show dv y m d = numD y m d by unfold dv; rw [if_pos h]] at this
theorem daysR_none {y m d : Int} (h : ¬ okD y m d) (W : World) : Calls Tryd.prog 11 #[.agg #[.int .i64 y, .int .i64 m, .int .i64 d]] W (RetNumB W 0 false) := by
  have := daysR y m d W
  rwa [decide_eq_false h, show dv y m d = 0 by unfold dv; rw [if_neg h]] at this
theorem weekdayR (y m d : Int) (w : World) : Calls Tryd.prog 23 #[.agg #[.int .i64 y, .int .i64 m, .int .i64 d]] w (RetV w (.int .i64 (wdv y m d))) := by
  unfold wdv
  by_cases h : okD y m d
  · rw [if_pos h]; exact weekdayR_yes y m d _ h.2.1 h.2.2 (Lib.hid fun W => daysR_is h W) w
  · rw [if_neg h]; exact weekdayR_no y m d (Lib.hid fun W => daysR_none h W) w
theorem doyR (y m d : Int) (w : World) : Calls Tryd.prog 25 #[.agg #[.int .i64 y, .int .i64 m, .int .i64 d]] w (RetV w (.int .i64 (ydv y m d))) := by
  unfold ydv
  by_cases h : okD y m d
  · have := ok_year h
    rw [if_pos h]; exact doyR_yes y m d _ h.2.1 h.2.2 (Lib.hid fun W => daysR_is h W) (by omega) (by omega) w
  · rw [if_neg h]; exact doyR_no y m d (Lib.hid fun W => daysR_none h W) w
set_option maxRecDepth 100000 in
set_option maxHeartbeats 4000000 in
theorem weekR_no (y m d : Int) (DA : Hid (∀ W, Calls Tryd.prog 11 #[.agg #[.int .i64 y, .int .i64 m, .int .i64 d]] W (RetNumB W 0 false))) (w : World) :
    Calls Tryd.prog 21 #[.agg #[.int .i64 y, .int .i64 m, .int .i64 d]] w (RetNN w 0 0) := by
  have KB := (BK.nil w).more3 (.int .i64 y) (.int .i64 m) (.int .i64 d) 23
  go_enter Tryd.func21, Tryd.ntmps21
  go_wp2_with fail
  generalize w.alloc (.cells #[.int .i64 y, .int .i64 m, .int .i64 d] 23) = w0 at *
  refine (DA.out _).mono ?_
  rintro e w1 ⟨rfl, k⟩
  replace KB := KB.below k
  clear k
  have HB := KB.hb
  go_wp2
  go_ret2
  exact ⟨rfl, HB⟩
set_option maxRecDepth 100000 in
set_option maxHeartbeats 4000000 in
theorem weekR_same (y m d n wd t j1 j2 : Int) (n1 : -100000001 ≤ n) (n2 : n ≤ 100000000) (DA : Hid (∀ W, Calls Tryd.prog 11 #[.agg #[.int .i64 y, .int .i64 m, .int .i64 d]] W (RetNumB W n true))) (WD : Hid (∀ W, Calls Tryd.prog 23 #[.agg #[.int .i64 y, .int .i64 m, .int .i64 d]] W (RetV W (.int .i64 wd)))) (_wa : 1 ≤ wd) (_wb : wd ≤ 7) (ht : n + 4 - wd = t) (y1 : -280000 ≤ y) (y2 : y ≤ 280000) (J1 : Hid (∀ W, Calls Tryd.prog 36 #[.int .i64 (y)] W (fun e w' => e = .returned (.int .i64 j1) ∧ W = w'))) (J2 : Hid (∀ W, Calls Tryd.prog 36 #[.int .i64 (y + 1)] W (fun e w' => e = .returned (.int .i64 j2) ∧ W = w'))) (_lo : ¬ t < j1) (_hi : ¬ j2 ≤ t) (_j1b : -200000000 ≤ j1) (_j1c : j1 ≤ 200000000) (_tl : j1 ≤ t) (_th : t < j1 + 366) (w : World) :
    Calls Tryd.prog 21 #[.agg #[.int .i64 y, .int .i64 m, .int .i64 d]] w (RetNN w (y) ((t - j1) / 7 + 1)) := by
  have HT := Lib.hid ht
  clear ht
  have KB := (BK.nil w).more3 (.int .i64 y) (.int .i64 m) (.int .i64 d) 23
  go_enter Tryd.func21, Tryd.ntmps21
  go_wp2_with fail
  generalize w.alloc (.cells #[.int .i64 y, .int .i64 m, .int .i64 d] 23) = w0 at *
  refine (DA.out _).mono ?_
  rintro e w1 ⟨rfl, k⟩
  replace KB := KB.below k
  clear k
  obtain ⟨_, a0, a1, a2, _⟩ := KB.head.three
  go_wp2_with fail
  refine (WD.out _).mono ?_
  rintro e w2 ⟨rfl, k⟩
  replace KB := KB.below k
  clear k a0 a1 a2
  obtain ⟨_, a0, a1, a2, _⟩ := KB.head.three
  have ht := HT.out
  clear n1 n2 _wa _wb HT
  go_wp2_with (first
    | (go_at_call 36; (with_reducible refine (J1.out _).mono ?_); rintro e w' ⟨rfl, rfl⟩)
    | (go_at_call 36; (with_reducible refine (J2.out _).mono ?_); rintro e w' ⟨rfl, rfl⟩))
  go_loop [8, 9] (fun v8 v9 => ∃ k : Int, 0 ≤ k ∧ k ≤ (t - j1) / 7 + 1 ∧ v8 = .int .i64 k ∧ v9 = .int .i64 (t - 7 * k)) (fun v8 _ => (53 - intOf v8).toNat)
  case atStart => exact ⟨0, by omega, by omega, rfl, by go_num⟩
  case round =>
    obtain ⟨k, k1, k2, rfl, rfl⟩ := hrel
    by_cases hk : k < (t - j1) / 7 + 1
    · have ge : j1 ≤ t - 7 * k := by omega
      go_wp2_with (first
    | (go_at_call 36; (with_reducible refine (J1.out _).mono ?_); rintro e w' ⟨rfl, rfl⟩)
    | (go_at_call 36; (with_reducible refine (J2.out _).mono ?_); rintro e w' ⟨rfl, rfl⟩))
      go_round
      case rel => exact ⟨k + 1, by omega, by omega, by go_num, by go_num⟩
      case measure => simp [intOf]; omega
    · have e : k = (t - j1) / 7 + 1 := by omega
      have lt : ¬ j1 ≤ t - 7 * k := by omega
      have E := Lib.hid e
      clear e
      have HB := KB.hb
      go_wp2_with (first
    | (go_at_call 36; (with_reducible refine (J1.out _).mono ?_); rintro e w' ⟨rfl, rfl⟩)
    | (go_at_call 36; (with_reducible refine (J2.out _).mono ?_); rintro e w' ⟨rfl, rfl⟩))
      go_ret2
      exact ⟨by rw [E.out]; rfl, HB⟩
set_option maxRecDepth 100000 in
set_option maxHeartbeats 4000000 in
theorem weekR_less (y m d n wd t j0 j1 : Int) (n1 : -100000001 ≤ n) (n2 : n ≤ 100000000) (DA : Hid (∀ W, Calls Tryd.prog 11 #[.agg #[.int .i64 y, .int .i64 m, .int .i64 d]] W (RetNumB W n true))) (WD : Hid (∀ W, Calls Tryd.prog 23 #[.agg #[.int .i64 y, .int .i64 m, .int .i64 d]] W (RetV W (.int .i64 wd)))) (_wa : 1 ≤ wd) (_wb : wd ≤ 7) (ht : n + 4 - wd = t) (y1 : -280000 ≤ y) (y2 : y ≤ 280000) (J0 : Hid (∀ W, Calls Tryd.prog 36 #[.int .i64 (y)] W (fun e w' => e = .returned (.int .i64 j0) ∧ W = w'))) (J1 : Hid (∀ W, Calls Tryd.prog 36 #[.int .i64 (y - 1)] W (fun e w' => e = .returned (.int .i64 j1) ∧ W = w'))) (_lo : t < j0) (_j1b : -200000000 ≤ j1) (_j1c : j1 ≤ 200000000) (_tl : j1 ≤ t) (_th : t < j1 + 366) (w : World) :
    Calls Tryd.prog 21 #[.agg #[.int .i64 y, .int .i64 m, .int .i64 d]] w (RetNN w (y - 1) ((t - j1) / 7 + 1)) := by
  have HT := Lib.hid ht
  clear ht
  have KB := (BK.nil w).more3 (.int .i64 y) (.int .i64 m) (.int .i64 d) 23
  go_enter Tryd.func21, Tryd.ntmps21
  go_wp2_with fail
  generalize w.alloc (.cells #[.int .i64 y, .int .i64 m, .int .i64 d] 23) = w0 at *
  refine (DA.out _).mono ?_
  rintro e w1 ⟨rfl, k⟩
  replace KB := KB.below k
  clear k
  obtain ⟨_, a0, a1, a2, _⟩ := KB.head.three
  go_wp2_with fail
  refine (WD.out _).mono ?_
  rintro e w2 ⟨rfl, k⟩
  replace KB := KB.below k
  clear k a0 a1 a2
  obtain ⟨_, a0, a1, a2, _⟩ := KB.head.three
  have ht := HT.out
  clear n1 n2 _wa _wb HT
  go_wp2_with (first
    | (go_at_call 36; (with_reducible refine (J0.out _).mono ?_); rintro e w' ⟨rfl, rfl⟩)
    | (go_at_call 36; (with_reducible refine (J1.out _).mono ?_); rintro e w' ⟨rfl, rfl⟩))
  go_loop [8, 9] (fun v8 v9 => ∃ k : Int, 0 ≤ k ∧ k ≤ (t - j1) / 7 + 1 ∧ v8 = .int .i64 k ∧ v9 = .int .i64 (t - 7 * k)) (fun v8 _ => (53 - intOf v8).toNat)
  case atStart => exact ⟨0, by omega, by omega, rfl, by go_num⟩
  case round =>
    obtain ⟨k, k1, k2, rfl, rfl⟩ := hrel
    by_cases hk : k < (t - j1) / 7 + 1
    · have ge : j1 ≤ t - 7 * k := by omega
      go_wp2_with (first
    | (go_at_call 36; (with_reducible refine (J0.out _).mono ?_); rintro e w' ⟨rfl, rfl⟩)
    | (go_at_call 36; (with_reducible refine (J1.out _).mono ?_); rintro e w' ⟨rfl, rfl⟩))
      go_round
      case rel => exact ⟨k + 1, by omega, by omega, by go_num, by go_num⟩
      case measure => simp [intOf]; omega
    · have e : k = (t - j1) / 7 + 1 := by omega
      have lt : ¬ j1 ≤ t - 7 * k := by omega
      have E := Lib.hid e
      clear e
      have HB := KB.hb
      go_wp2_with (first
    | (go_at_call 36; (with_reducible refine (J0.out _).mono ?_); rintro e w' ⟨rfl, rfl⟩)
    | (go_at_call 36; (with_reducible refine (J1.out _).mono ?_); rintro e w' ⟨rfl, rfl⟩))
      go_ret2
      exact ⟨by rw [E.out]; rfl, HB⟩
set_option maxRecDepth 100000 in
set_option maxHeartbeats 4000000 in
theorem weekR_more (y m d n wd t j0 j1 : Int) (n1 : -100000001 ≤ n) (n2 : n ≤ 100000000) (DA : Hid (∀ W, Calls Tryd.prog 11 #[.agg #[.int .i64 y, .int .i64 m, .int .i64 d]] W (RetNumB W n true))) (WD : Hid (∀ W, Calls Tryd.prog 23 #[.agg #[.int .i64 y, .int .i64 m, .int .i64 d]] W (RetV W (.int .i64 wd)))) (_wa : 1 ≤ wd) (_wb : wd ≤ 7) (ht : n + 4 - wd = t) (y1 : -280000 ≤ y) (y2 : y ≤ 280000) (J0 : Hid (∀ W, Calls Tryd.prog 36 #[.int .i64 (y)] W (fun e w' => e = .returned (.int .i64 j0) ∧ W = w'))) (J1 : Hid (∀ W, Calls Tryd.prog 36 #[.int .i64 (y + 1)] W (fun e w' => e = .returned (.int .i64 j1) ∧ W = w'))) (_lo : ¬ t < j0) (_hi : j1 ≤ t) (_j1b : -200000000 ≤ j1) (_j1c : j1 ≤ 200000000) (_tl : j1 ≤ t) (_th : t < j1 + 366) (w : World) :
    Calls Tryd.prog 21 #[.agg #[.int .i64 y, .int .i64 m, .int .i64 d]] w (RetNN w (y + 1) ((t - j1) / 7 + 1)) := by
  have HT := Lib.hid ht
  clear ht
  have KB := (BK.nil w).more3 (.int .i64 y) (.int .i64 m) (.int .i64 d) 23
  go_enter Tryd.func21, Tryd.ntmps21
  go_wp2_with fail
  generalize w.alloc (.cells #[.int .i64 y, .int .i64 m, .int .i64 d] 23) = w0 at *
  refine (DA.out _).mono ?_
  rintro e w1 ⟨rfl, k⟩
  replace KB := KB.below k
  clear k
  obtain ⟨_, a0, a1, a2, _⟩ := KB.head.three
  go_wp2_with fail
  refine (WD.out _).mono ?_
  rintro e w2 ⟨rfl, k⟩
  replace KB := KB.below k
  clear k a0 a1 a2
  obtain ⟨_, a0, a1, a2, _⟩ := KB.head.three
  have ht := HT.out
  clear n1 n2 _wa _wb HT
  go_wp2_with (first
    | (go_at_call 36; (with_reducible refine (J0.out _).mono ?_); rintro e w' ⟨rfl, rfl⟩)
    | (go_at_call 36; (with_reducible refine (J1.out _).mono ?_); rintro e w' ⟨rfl, rfl⟩))
  go_loop [8, 9] (fun v8 v9 => ∃ k : Int, 0 ≤ k ∧ k ≤ (t - j1) / 7 + 1 ∧ v8 = .int .i64 k ∧ v9 = .int .i64 (t - 7 * k)) (fun v8 _ => (53 - intOf v8).toNat)
  case atStart => exact ⟨0, by omega, by omega, rfl, by go_num⟩
  case round =>
    obtain ⟨k, k1, k2, rfl, rfl⟩ := hrel
    by_cases hk : k < (t - j1) / 7 + 1
    · have ge : j1 ≤ t - 7 * k := by omega
      go_wp2_with (first
    | (go_at_call 36; (with_reducible refine (J0.out _).mono ?_); rintro e w' ⟨rfl, rfl⟩)
    | (go_at_call 36; (with_reducible refine (J1.out _).mono ?_); rintro e w' ⟨rfl, rfl⟩))
      go_round
      case rel => exact ⟨k + 1, by omega, by omega, by go_num, by go_num⟩
      case measure => simp [intOf]; omega
    · have e : k = (t - j1) / 7 + 1 := by omega
      have lt : ¬ j1 ≤ t - 7 * k := by omega
      have E := Lib.hid e
      clear e
      have HB := KB.hb
      go_wp2_with (first
    | (go_at_call 36; (with_reducible refine (J0.out _).mono ?_); rintro e w' ⟨rfl, rfl⟩)
    | (go_at_call 36; (with_reducible refine (J1.out _).mono ?_); rintro e w' ⟨rfl, rfl⟩))
      go_ret2
      exact ⟨by rw [E.out]; rfl, HB⟩
theorem weekR_none {y m d : Int} (h : ¬ okD y m d) (w : World) : Calls Tryd.prog 21 #[.agg #[.int .i64 y, .int .i64 m, .int .i64 d]] w (RetNN w 0 0) := weekR_no y m d (Lib.hid fun W => daysR_none h W) w
theorem weekR (y m d yy : Int) (h : okD y m d) (lo : jan yy ≤ thu (numD y m d)) (hi : thu (numD y m d) < jan (yy + 1)) (w : World) :
    Calls Tryd.prog 21 #[.agg #[.int .i64 y, .int .i64 m, .int .i64 d]] w (RetNN w yy (wk (thu (numD y m d)) yy)) := by
  have oy := ok_year h
  have nr := num_year h.1
  have tn := thu_near (numD y m d)
  have wr := wday_range (numD y m d)
  have DA := Lib.hid (fun W => daysR_is h W)
  have WD := Lib.hid (fun W => weekdayR y m d W)
  rw [show wdv y m d = wday (numD y m d) by unfold wdv; rw [if_pos h]] at WD
  have ht : numD y m d + 4 - wday (numD y m d) = thu (numD y m d) := rfl
  unfold wk
  obtain ⟨_, n1, n2⟩ := h
  generalize numD y m d = n at *
  generalize wday n = wd at *
  generalize thu n = t at *
  have s0 := jan_succ yy
  have s1 := lenY_range yy
  have hy : yy = y ∨ yy = y - 1 ∨ yy = y + 1 := by
    rcases Int.lt_trichotomy yy y with k | k | k
    · by_cases c : yy = y - 1
      · exact .inr (.inl c)
      · have := jan_lt (show yy + 1 < y by omega); omega
    · exact .inl k
    · by_cases c : yy = y + 1
      · exact .inr (.inr c)
      · have := jan_lt (show y + 1 < yy by omega); omega
  have jb := jan_bound (y := yy) (by omega) (by omega)
  rcases hy with rfl | rfl | rfl
  · exact weekR_same yy m d n wd t _ _ n1 n2 DA WD wr.1 wr.2 ht (by omega) (by omega) (Lib.hid fun W => janR yy (by omega) (by omega) W) (Lib.hid fun W => janR (yy + 1) (by omega) (by omega) W) (by omega) (by omega) jb.1 jb.2 lo (by omega) w
  · rw [show y - 1 + 1 = y by omega] at hi s0
    exact weekR_less y m d n wd t _ _ n1 n2 DA WD wr.1 wr.2 ht (by omega) (by omega) (Lib.hid fun W => janR y (by omega) (by omega) W) (Lib.hid fun W => janR (y - 1) (by omega) (by omega) W) (by omega) jb.1 jb.2 lo (by omega) w
  · have := jan_succ y
    have := lenY_range y
    exact weekR_more y m d n wd t _ _ n1 n2 DA WD wr.1 wr.2 ht (by omega) (by omega) (Lib.hid fun W => janR y (by omega) (by omega) W) (Lib.hid fun W => janR (y + 1) (by omega) (by omega) W) (by omega) lo jb.1 jb.2 lo (by omega) w
end Go.Proofs.YtmmgppfopojnlaaDoor
