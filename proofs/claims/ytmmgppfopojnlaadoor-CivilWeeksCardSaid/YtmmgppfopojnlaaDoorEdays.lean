/- Package civil: the number of a date. -/
import Derived.Test.YtmmgppfopojnlaaDoorEyear
namespace Go.Proofs.YtmmgppfopojnlaaDoor
open Go.RowKit

set_option maxRecDepth 100000 in
set_option maxHeartbeats 4000000 in
theorem daysP_no0 (y m d : Int) (y1 : y < -271821) (w : World) (L : Lens w) :
    Calls Tryd.prog 10 #[.agg #[.int .i64 y, .int .i64 m, .int .i64 d]] w (RetNumB w 0 false) := by
  have gy1 : decide (y < -271821) = true := decide_eq_true y1
  have KB := (BK.nil w).more3 (.int .i64 y) (.int .i64 m) (.int .i64 d) 23
  go_enter Tryd.func10, Tryd.ntmps10
  go_upto_region 1 with (fail)
  generalize w.alloc (.cells #[.int .i64 y, .int .i64 m, .int .i64 d] 23) = w0 at *
  have L0 := L.mono KB.hb
  obtain ⟨_, a0, a1, a2, _⟩ := KB.head.three
  go_wp2
  have HB := KB.hb
  go_ret2
  exact ⟨rfl, HB⟩
set_option maxRecDepth 100000 in
set_option maxHeartbeats 4000000 in
theorem daysP_no1 (y m d : Int) (y1 : ¬ y < -271821) (y2 : 275760 < y) (w : World) (L : Lens w) :
    Calls Tryd.prog 10 #[.agg #[.int .i64 y, .int .i64 m, .int .i64 d]] w (RetNumB w 0 false) := by
  have gy1 : decide (y < -271821) = false := decide_eq_false y1
  have gy2 : decide (275760 < y) = true := decide_eq_true y2
  have KB := (BK.nil w).more3 (.int .i64 y) (.int .i64 m) (.int .i64 d) 23
  go_enter Tryd.func10, Tryd.ntmps10
  go_upto_region 1 with (fail)
  generalize w.alloc (.cells #[.int .i64 y, .int .i64 m, .int .i64 d] 23) = w0 at *
  have L0 := L.mono KB.hb
  obtain ⟨_, a0, a1, a2, _⟩ := KB.head.three
  go_wp2
  have HB := KB.hb
  go_ret2
  exact ⟨rfl, HB⟩
set_option maxRecDepth 100000 in
set_option maxHeartbeats 4000000 in
theorem daysP_no2 (y m d : Int) (y1 : ¬ y < -271821) (y2 : ¬ 275760 < y) (HA : Hid (∀ W, Lens W → Calls Tryd.prog 32 #[.int .i64 y, .int .i64 m, .int .i64 d] W (fun e w' => e = .returned (.bool false) ∧ W = w'))) (w : World) (L : Lens w) :
    Calls Tryd.prog 10 #[.agg #[.int .i64 y, .int .i64 m, .int .i64 d]] w (RetNumB w 0 false) := by
  have gy1 : decide (y < -271821) = false := decide_eq_false y1
  have gy2 : decide (275760 < y) = false := decide_eq_false y2
  have KB := (BK.nil w).more3 (.int .i64 y) (.int .i64 m) (.int .i64 d) 23
  go_enter Tryd.func10, Tryd.ntmps10
  go_upto_region 1 with (fail)
  generalize w.alloc (.cells #[.int .i64 y, .int .i64 m, .int .i64 d] 23) = w0 at *
  have L0 := L.mono KB.hb
  obtain ⟨_, a0, a1, a2, _⟩ := KB.head.three
  go_wp2_with (go_at_call 32; (with_reducible refine (HA.out _ L0).mono ?_); rintro e w' ⟨rfl, rfl⟩)
  have HB := KB.hb
  go_ret2
  exact ⟨rfl, HB⟩
set_option maxRecDepth 100000 in
set_option maxHeartbeats 4000000 in
theorem daysP_no3 (y m d n J c : Int) (y1 : ¬ y < -271821) (y2 : ¬ 275760 < y) (HA : Hid (∀ W, Lens W → Calls Tryd.prog 32 #[.int .i64 y, .int .i64 m, .int .i64 d] W (fun e w' => e = .returned (.bool true) ∧ W = w'))) (hn : Hid (J + c + d - 1 = n)) (_j1 : -200000000 ≤ J) (_j2 : J ≤ 200000000) (_c1 : 0 ≤ c) (_c2 : c ≤ 366) (_d1 : 1 ≤ d) (_d2 : d ≤ 31) (YS : Hid (∀ W, Calls Tryd.prog 33 #[.int .i64 y] W (fun e w' => e = .returned (.int .i64 J) ∧ W = w'))) (MS : Hid (∀ W, Lens W → Calls Tryd.prog 34 #[.int .i64 y, .int .i64 m] W (fun e w' => e = .returned (.int .i64 c) ∧ W = w'))) (CT : Hid (∀ W, Calls Tryd.prog 35 #[.int .i64 n] W (fun e w' => e = .returned (.bool false) ∧ W = w'))) (w : World) (L : Lens w) :
    Calls Tryd.prog 10 #[.agg #[.int .i64 y, .int .i64 m, .int .i64 d]] w (RetNumB w 0 false) := by
  have gy1 : decide (y < -271821) = false := decide_eq_false y1
  have gy2 : decide (275760 < y) = false := decide_eq_false y2
  have s1 : IntKind.i64.wrap (J + c) = J + c := IntWalk.i64_in _ (by omega)
  have s2 : IntKind.i64.wrap (J + c + d) = J + c + d := IntWalk.i64_in _ (by omega)
  have s3 : IntKind.i64.wrap (J + c + d - 1) = J + c + d - 1 := IntWalk.i64_in _ (by omega)
  have KB := (BK.nil w).more3 (.int .i64 y) (.int .i64 m) (.int .i64 d) 23
  go_enter Tryd.func10, Tryd.ntmps10
  go_upto_region 1 with (fail)
  generalize w.alloc (.cells #[.int .i64 y, .int .i64 m, .int .i64 d] 23) = w0 at *
  have L0 := L.mono KB.hb
  obtain ⟨_, a0, a1, a2, _⟩ := KB.head.three
  go_wp2_with (go_at_call 32; (with_reducible refine (HA.out _ L0).mono ?_); rintro e w' ⟨rfl, rfl⟩)
  go_quiet ((first
    | (go_at_call 33; exact Calls.quiet_of_same ((YS.out _).mono fun _ _ ⟨h1, h2⟩ => ⟨h1, h2.symm⟩))
    | (go_at_call 34; exact Calls.quiet_of_same ((MS.out _ (L0.drewN _)).mono fun _ _ ⟨h1, h2⟩ => ⟨h1, h2.symm⟩))))
  replace KB := KB.below (below_drewN (Below.refl _ _) nq)
  generalize w0.drewN nq = w1 at *
  have HB := KB.hb
  clear a0 a1 a2
  go_wp2_with (go_at_call 35; rw [hn.out]; (with_reducible refine (CT.out _).mono ?_); rintro e w' ⟨rfl, rfl⟩)
  go_ret2
  exact ⟨rfl, HB⟩
set_option maxRecDepth 100000 in
set_option maxHeartbeats 4000000 in
theorem daysP_yes (y m d n J c : Int) (y1 : ¬ y < -271821) (y2 : ¬ 275760 < y) (HA : Hid (∀ W, Lens W → Calls Tryd.prog 32 #[.int .i64 y, .int .i64 m, .int .i64 d] W (fun e w' => e = .returned (.bool true) ∧ W = w'))) (hn : Hid (J + c + d - 1 = n)) (_j1 : -200000000 ≤ J) (_j2 : J ≤ 200000000) (_c1 : 0 ≤ c) (_c2 : c ≤ 366) (_d1 : 1 ≤ d) (_d2 : d ≤ 31) (YS : Hid (∀ W, Calls Tryd.prog 33 #[.int .i64 y] W (fun e w' => e = .returned (.int .i64 J) ∧ W = w'))) (MS : Hid (∀ W, Lens W → Calls Tryd.prog 34 #[.int .i64 y, .int .i64 m] W (fun e w' => e = .returned (.int .i64 c) ∧ W = w'))) (CT : Hid (∀ W, Calls Tryd.prog 35 #[.int .i64 n] W (fun e w' => e = .returned (.bool true) ∧ W = w'))) (w : World) (L : Lens w) :
    Calls Tryd.prog 10 #[.agg #[.int .i64 y, .int .i64 m, .int .i64 d]] w (RetNumB w n true) := by
  have gy1 : decide (y < -271821) = false := decide_eq_false y1
  have gy2 : decide (275760 < y) = false := decide_eq_false y2
  have s1 : IntKind.i64.wrap (J + c) = J + c := IntWalk.i64_in _ (by omega)
  have s2 : IntKind.i64.wrap (J + c + d) = J + c + d := IntWalk.i64_in _ (by omega)
  have s3 : IntKind.i64.wrap (J + c + d - 1) = J + c + d - 1 := IntWalk.i64_in _ (by omega)
  have KB := (BK.nil w).more3 (.int .i64 y) (.int .i64 m) (.int .i64 d) 23
  go_enter Tryd.func10, Tryd.ntmps10
  go_upto_region 1 with (fail)
  generalize w.alloc (.cells #[.int .i64 y, .int .i64 m, .int .i64 d] 23) = w0 at *
  have L0 := L.mono KB.hb
  obtain ⟨_, a0, a1, a2, _⟩ := KB.head.three
  go_wp2_with (go_at_call 32; (with_reducible refine (HA.out _ L0).mono ?_); rintro e w' ⟨rfl, rfl⟩)
  go_quiet ((first
    | (go_at_call 33; exact Calls.quiet_of_same ((YS.out _).mono fun _ _ ⟨h1, h2⟩ => ⟨h1, h2.symm⟩))
    | (go_at_call 34; exact Calls.quiet_of_same ((MS.out _ (L0.drewN _)).mono fun _ _ ⟨h1, h2⟩ => ⟨h1, h2.symm⟩))))
  replace KB := KB.below (below_drewN (Below.refl _ _) nq)
  generalize w0.drewN nq = w1 at *
  have HB := KB.hb
  clear a0 a1 a2
  go_wp2_with (go_at_call 35; rw [hn.out]; (with_reducible refine (CT.out _).mono ?_); rintro e w' ⟨rfl, rfl⟩)
  go_ret2
  exact ⟨by rw [← hn.out]; rfl, HB⟩
theorem daysP (y m d : Int) (w : World) (L : Lens w) : Calls Tryd.prog 10 #[.agg #[.int .i64 y, .int .i64 m, .int .i64 d]] w (RetNumB w (dv y m d) (decide (okD y m d))) := by
  have no : ¬ okD y m d → Calls Tryd.prog 10 #[.agg #[.int .i64 y, .int .i64 m, .int .i64 d]] w (RetNumB w 0 false) → Calls Tryd.prog 10 #[.agg #[.int .i64 y, .int .i64 m, .int .i64 d]] w (RetNumB w (dv y m d) (decide (okD y m d))) := fun h c => by
    rw [decide_eq_false h, show dv y m d = 0 by unfold dv; rw [if_neg h]]; exact c
  have HH := fun W l => hasP y m d W l
  by_cases y1 : y < -271821
  · exact no (fun h => by have := ok_year h; omega) (daysP_no0 y m d y1 w L)
  by_cases y2 : 275760 < y
  · exact no (fun h => by have := ok_year h; omega) (daysP_no1 y m d y1 y2 w L)
  by_cases hd : dayOk y m d
  · rw [hdB_yes hd] at HH
    have hm := hd
    obtain ⟨m1, m2, d1, d2⟩ := hm
    have ml := lenM_le y m
    have jb := jan_bound (y := y) (by omega) (by omega)
    have cr := cum_range (y := y) (m := m) m1 (by omega)
    have lr := lenY_range y
    have iff : okD y m d ↔ (-100000001 ≤ numD y m d ∧ numD y m d ≤ 100000000) := ⟨fun h => h.2, fun h => ⟨hd, h⟩⟩
    have hn : jan y + cum y m + d - 1 = numD y m d := by unfold numD; omega
    have YS := Lib.hid (fun W => ystartP y (by omega) (by omega) W)
    have MS := Lib.hid (fun W l => mstartP y m m1 (by omega) W l)
    by_cases h : okD y m d
    · rw [decide_eq_true h, show dv y m d = numD y m d by unfold dv; rw [if_pos h]]
      exact daysP_yes y m d _ _ _ y1 y2 (Lib.hid HH) (Lib.hid hn) jb.1 jb.2 cr.1 (by omega) d1 (by omega) YS MS (Lib.hid fun W => by
        have c := countP (numD y m d) W
        rwa [show nk (numD y m d) = true from decide_eq_true (iff.1 h)] at c) w L
    · exact no h (daysP_no3 y m d _ _ _ y1 y2 (Lib.hid HH) (Lib.hid hn) jb.1 jb.2 cr.1 (by omega) d1 (by omega) YS MS (Lib.hid fun W => by
        have c := countP (numD y m d) W
        rwa [show nk (numD y m d) = false from decide_eq_false fun k => h (iff.2 k)] at c) w L)
  · rw [hdB_no hd] at HH
    exact no (fun h => hd h.1) (daysP_no2 y m d y1 y2 (Lib.hid HH) w L)
theorem daysP_is {y m d : Int} (h : okD y m d) (W : World) (l : Lens W) : Calls Tryd.prog 10 #[.agg #[.int .i64 y, .int .i64 m, .int .i64 d]] W (RetNumB W (numD y m d) true) := by
  have := daysP y m d W l
  rwa [decide_eq_true h, show dv y m d = numD y m d by unfold dv; rw [if_pos h]] at this
theorem daysP_none {y m d : Int} (h : ¬ okD y m d) (W : World) (l : Lens W) : Calls Tryd.prog 10 #[.agg #[.int .i64 y, .int .i64 m, .int .i64 d]] W (RetNumB W 0 false) := by
  have := daysP y m d W l
  rwa [decide_eq_false h, show dv y m d = 0 by unfold dv; rw [if_neg h]] at this
end Go.Proofs.YtmmgppfopojnlaaDoor
