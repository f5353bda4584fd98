/- Package civil: right dates, weekdays, days of years, weeks. -/
import Derived.Test.YtmmgppfopojnlaaDoorEof
import Derived.Test.YtmmgppfopojnlaaDoorCweek
namespace Go.Proofs.YtmmgppfopojnlaaDoor
open Go.RowKit

set_option maxRecDepth 100000 in
set_option maxHeartbeats 4000000 in
theorem rightP_core (y m d n : Int) (ok : Bool) (DA : Hid (∀ W, Lens W → Calls Tryd.prog 10 #[.agg #[.int .i64 y, .int .i64 m, .int .i64 d]] W (RetNumB W n ok))) (w : World) (L : Lens w) :
    Calls Tryd.prog 15 #[.agg #[.int .i64 y, .int .i64 m, .int .i64 d]] w (RetV w (.bool ok)) := by
  have KB := (BK.nil w).more3 (.int .i64 y) (.int .i64 m) (.int .i64 d) 23
  go_enter Tryd.func15, Tryd.ntmps15
  go_wp2_with fail
  generalize w.alloc (.cells #[.int .i64 y, .int .i64 m, .int .i64 d] 23) = w0 at *
  have L0 := L.mono KB.hb
  refine (DA.out _ L0).mono ?_
  rintro e w1 ⟨rfl, k⟩
  replace KB := KB.below k
  clear k
  have L1 := L.mono KB.hb
  have HB := KB.hb
  go_wp2
  go_ret
  exact ⟨rfl, HB⟩
theorem rightP (y m d : Int) (w : World) (L : Lens w) : Calls Tryd.prog 15 #[.agg #[.int .i64 y, .int .i64 m, .int .i64 d]] w (RetV w (.bool (decide (okD y m d)))) := rightP_core y m d _ _ (Lib.hid fun W l => daysP y m d W l) w L
set_option maxRecDepth 100000 in
set_option maxHeartbeats 4000000 in
theorem weekdayP_no (y m d : Int) (DA : Hid (∀ W, Lens W → Calls Tryd.prog 10 #[.agg #[.int .i64 y, .int .i64 m, .int .i64 d]] W (RetNumB W 0 false))) (w : World) (L : Lens w) :
    Calls Tryd.prog 22 #[.agg #[.int .i64 y, .int .i64 m, .int .i64 d]] w (RetV w (.int .i64 0)) := by
  have KB := (BK.nil w).more3 (.int .i64 y) (.int .i64 m) (.int .i64 d) 23
  go_enter Tryd.func22, Tryd.ntmps22
  go_wp2_with fail
  generalize w.alloc (.cells #[.int .i64 y, .int .i64 m, .int .i64 d] 23) = w0 at *
  have L0 := L.mono KB.hb
  refine (DA.out _ L0).mono ?_
  rintro e w1 ⟨rfl, k⟩
  replace KB := KB.below k
  clear k
  have L1 := L.mono KB.hb
  have HB := KB.hb
  go_wp2
  go_ret
  exact ⟨rfl, HB⟩
set_option maxRecDepth 100000 in
set_option maxHeartbeats 4000000 in
theorem weekdayP_yes (y m d n : Int) (n1 : -100000001 ≤ n) (n2 : n ≤ 100000000) (DA : Hid (∀ W, Lens W → Calls Tryd.prog 10 #[.agg #[.int .i64 y, .int .i64 m, .int .i64 d]] W (RetNumB W n true))) (w : World) (L : Lens w) :
    Calls Tryd.prog 22 #[.agg #[.int .i64 y, .int .i64 m, .int .i64 d]] w (RetV w (.int .i64 (wday n))) := by
  have b0 : 0 ≤ n + 100065486 := by omega
  have E := Lib.hid (show (n + 100065486) % 7 + 1 = wday n by unfold wday; omega)
  have KB := (BK.nil w).more3 (.int .i64 y) (.int .i64 m) (.int .i64 d) 23
  go_enter Tryd.func22, Tryd.ntmps22
  go_wp2_with fail
  generalize w.alloc (.cells #[.int .i64 y, .int .i64 m, .int .i64 d] 23) = w0 at *
  have L0 := L.mono KB.hb
  refine (DA.out _ L0).mono ?_
  rintro e w1 ⟨rfl, k⟩
  replace KB := KB.below k
  clear k
  have L1 := L.mono KB.hb
  have HB := KB.hb
  go_wp2
  go_ret
  exact ⟨by rw [← E.out]; rfl, HB⟩
set_option maxRecDepth 100000 in
set_option maxHeartbeats 4000000 in
theorem doyP_no (y m d : Int) (DA : Hid (∀ W, Lens W → Calls Tryd.prog 10 #[.agg #[.int .i64 y, .int .i64 m, .int .i64 d]] W (RetNumB W 0 false))) (w : World) (L : Lens w) :
    Calls Tryd.prog 24 #[.agg #[.int .i64 y, .int .i64 m, .int .i64 d]] w (RetV w (.int .i64 0)) := by
  have KB := (BK.nil w).more3 (.int .i64 y) (.int .i64 m) (.int .i64 d) 23
  go_enter Tryd.func24, Tryd.ntmps24
  go_wp2_with fail
  generalize w.alloc (.cells #[.int .i64 y, .int .i64 m, .int .i64 d] 23) = w0 at *
  have L0 := L.mono KB.hb
  refine (DA.out _ L0).mono ?_
  rintro e w1 ⟨rfl, k⟩
  replace KB := KB.below k
  clear k
  have L1 := L.mono KB.hb
  have HB := KB.hb
  go_wp2
  go_ret
  exact ⟨rfl, HB⟩
set_option maxRecDepth 100000 in
set_option maxHeartbeats 4000000 in
theorem doyP_yes (y m d n : Int) (n1 : -100000001 ≤ n) (n2 : n ≤ 100000000) (DA : Hid (∀ W, Lens W → Calls Tryd.prog 10 #[.agg #[.int .i64 y, .int .i64 m, .int .i64 d]] W (RetNumB W n true))) (y1 : -272000 ≤ y) (y2 : y ≤ 280000) (w : World) (L : Lens w) :
    Calls Tryd.prog 24 #[.agg #[.int .i64 y, .int .i64 m, .int .i64 d]] w (RetV w (.int .i64 (n - jan y + 1))) := by
  have JR := Lib.hid (fun W => ystartP y (by omega) (by omega) W)
  have jb := jan_bound (y := y) (by omega) (by omega)
  have KB := (BK.nil w).more3 (.int .i64 y) (.int .i64 m) (.int .i64 d) 23
  go_enter Tryd.func24, Tryd.ntmps24
  go_wp2_with fail
  generalize w.alloc (.cells #[.int .i64 y, .int .i64 m, .int .i64 d] 23) = w0 at *
  have L0 := L.mono KB.hb
  refine (DA.out _ L0).mono ?_
  rintro e w1 ⟨rfl, k⟩
  replace KB := KB.below k
  clear k
  have L1 := L.mono KB.hb
  obtain ⟨_, a0, a1, a2, _⟩ := KB.head.three
  have HB := KB.hb
  generalize jan y = J at *
  go_wp2_with (go_at_call 33; (with_reducible refine (JR.out _).mono ?_); rintro e w' ⟨rfl, rfl⟩)
  go_ret
  exact ⟨rfl, HB⟩
theorem weekdayP (y m d : Int) (w : World) (L : Lens w) : Calls Tryd.prog 22 #[.agg #[.int .i64 y, .int .i64 m, .int .i64 d]] w (RetV w (.int .i64 (wdv y m d))) := by
  unfold wdv
  by_cases h : okD y m d
  · rw [if_pos h]; exact weekdayP_yes y m d _ h.2.1 h.2.2 (Lib.hid fun W l => daysP_is h W l) w L
  · rw [if_neg h]; exact weekdayP_no y m d (Lib.hid fun W l => daysP_none h W l) w L
theorem doyP (y m d : Int) (w : World) (L : Lens w) : Calls Tryd.prog 24 #[.agg #[.int .i64 y, .int .i64 m, .int .i64 d]] w (RetV w (.int .i64 (ydv y m d))) := by
  unfold ydv
  by_cases h : okD y m d
  · have := ok_year h
    rw [if_pos h]; exact doyP_yes y m d _ h.2.1 h.2.2 (Lib.hid fun W l => daysP_is h W l) (by omega) (by omega) w L
  · rw [if_neg h]; exact doyP_no y m d (Lib.hid fun W l => daysP_none h W l) w L
set_option maxRecDepth 100000 in
set_option maxHeartbeats 4000000 in
theorem weekP_none {y m d : Int} (h : ¬ okD y m d) (w : World) (L : Lens w) :
    Calls Tryd.prog 20 #[.agg #[.int .i64 y, .int .i64 m, .int .i64 d]] w (RetNN w 0 0) := by
  have DA := Lib.hid (fun W l => daysP_none h W l)
  clear h
  have KB := (BK.nil w).more3 (.int .i64 y) (.int .i64 m) (.int .i64 d) 23
  go_enter Tryd.func20, Tryd.ntmps20
  go_wp2_with fail
  generalize w.alloc (.cells #[.int .i64 y, .int .i64 m, .int .i64 d] 23) = w0 at *
  have L0 := L.mono KB.hb
  refine (DA.out _ L0).mono ?_
  rintro e w1 ⟨rfl, k⟩
  replace KB := KB.below k
  clear k
  have L1 := L.mono KB.hb
  have HB := KB.hb
  go_wp2
  go_ret2
  exact ⟨rfl, HB⟩
set_option maxRecDepth 100000 in
set_option maxHeartbeats 4000000 in
theorem weekP_core (y m d n wd yy J : Int) (n1 : -100000001 ≤ n) (n2 : n ≤ 100000000) (DA : Hid (∀ W, Lens W → Calls Tryd.prog 10 #[.agg #[.int .i64 y, .int .i64 m, .int .i64 d]] W (RetNumB W n true))) (WD : Hid (∀ W, Lens W → Calls Tryd.prog 22 #[.agg #[.int .i64 y, .int .i64 m, .int .i64 d]] W (RetV W (.int .i64 wd)))) (_wa : 1 ≤ wd) (_wb : wd ≤ 7) (_y1 : -280000 ≤ yy) (_y2 : yy ≤ 280000) (YO : Hid (∀ W, Calls Tryd.prog 37 #[.int .i64 (n - wd + 4)] W (fun e w' => e = .returned (.int .i64 yy) ∧ W = w'))) (YS : Hid (∀ W, Calls Tryd.prog 33 #[.int .i64 yy] W (fun e w' => e = .returned (.int .i64 J) ∧ W = w'))) (_j1 : -200000000 ≤ J) (_j2 : J ≤ 200000000) (_jt : 0 ≤ n - wd + 4 - J) (w : World) (L : Lens w) :
    Calls Tryd.prog 20 #[.agg #[.int .i64 y, .int .i64 m, .int .i64 d]] w (RetNN w yy ((n - wd + 4 - J) / 7 + 1)) := by
  have KB := (BK.nil w).more3 (.int .i64 y) (.int .i64 m) (.int .i64 d) 23
  go_enter Tryd.func20, Tryd.ntmps20
  go_wp2_with fail
  generalize w.alloc (.cells #[.int .i64 y, .int .i64 m, .int .i64 d] 23) = w0 at *
  have L0 := L.mono KB.hb
  refine (DA.out _ L0).mono ?_
  rintro e w1 ⟨rfl, k⟩
  replace KB := KB.below k
  clear k
  have L1 := L.mono KB.hb
  obtain ⟨_, a0, a1, a2, _⟩ := KB.head.three
  go_wp2_with fail
  refine (WD.out _ L1).mono ?_
  rintro e w2 ⟨rfl, k⟩
  replace KB := KB.below k
  clear k a0 a1 a2
  have HB := KB.hb
  go_wp2_with (first
    | (go_at_call 37; (with_reducible refine (YO.out _).mono ?_); rintro e w' ⟨rfl, rfl⟩)
    | (go_at_call 33; (with_reducible refine (YS.out _).mono ?_); rintro e w' ⟨rfl, rfl⟩))
  go_ret2
  exact ⟨rfl, HB⟩
theorem weekP (y m d yy : Int) (h : okD y m d) (lo : jan yy ≤ thu (numD y m d)) (hi : thu (numD y m d) < jan (yy + 1)) (w : World) (L : Lens w) :
    Calls Tryd.prog 20 #[.agg #[.int .i64 y, .int .i64 m, .int .i64 d]] w (RetNN w yy (wk (thu (numD y m d)) yy)) := by
  have tn := thu_near (numD y m d)
  have wr := wday_range (numD y m d)
  have DA := Lib.hid (fun W l => daysP_is h W l)
  have WD := Lib.hid (fun W l => weekdayP y m d W l)
  rw [show wdv y m d = wday (numD y m d) by unfold wdv; rw [if_pos h]] at WD
  have ht : thu (numD y m d) = numD y m d - wday (numD y m d) + 4 := by unfold thu; omega
  have yb : -272000 ≤ yy ∧ yy ≤ 276000 := by
    constructor
    · apply Classical.byContradiction
      intro c
      have := jan_le (show yy + 1 ≤ -272000 by omega)
      rw [show jan (-272000) = -100065488 by decide] at this
      have := h.2; omega
    · apply Classical.byContradiction
      intro c
      have := jan_le (show (276000 : Int) ≤ yy by omega)
      rw [show jan 276000 = 100087402 by decide] at this
      have := h.2; omega
  obtain ⟨_, n1, n2⟩ := h
  unfold wk
  rw [ht] at tn lo hi
  rw [ht]
  have jb := jan_bound (y := yy) (by omega) (by omega)
  exact weekP_core y m d _ _ yy _ n1 n2 DA WD wr.1 wr.2 (by omega) (by omega) (Lib.hid fun W => yofP _ yy (by omega) (by omega) lo hi W) (Lib.hid fun W => ystartP yy (by omega) (by omega) W) jb.1 jb.2 (by omega) w L
end Go.Proofs.YtmmgppfopojnlaaDoor
