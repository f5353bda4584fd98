/- The walk of CivilWeeks: at any date it returns true; what was there is as it was. -/
import Derived.Test.YtmmgppfopojnlaaDoorEalive
import Derived.Deep.RegionHeld3
namespace Go.Proofs.YtmmgppfopojnlaaDoor
open Go.RowKit

set_option maxRecDepth 100000 in
set_option maxHeartbeats 8000000 in
theorem weeks_core (y m d yy k wd yd : Int) (W1 : Hid (∀ W, Lens W → Calls Tryd.prog 20 #[.agg #[.int .i64 y, .int .i64 m, .int .i64 d]] W (fun o w' => o = .returned (.tuple #[.int .i64 yy, .int .i64 k]) ∧ Below W.heap.size W w'))) (W2 : Hid (∀ W, Lens W → Calls Tryd.prog 21 #[.agg #[.int .i64 y, .int .i64 m, .int .i64 d]] W (fun o w' => o = .returned (.tuple #[.int .i64 yy, .int .i64 k]) ∧ Below W.heap.size W w'))) (A1 : Hid (∀ W, Lens W → Calls Tryd.prog 22 #[.agg #[.int .i64 y, .int .i64 m, .int .i64 d]] W (fun o w' => o = .returned (.int .i64 (wd)) ∧ Below W.heap.size W w'))) (A2 : Hid (∀ W, Lens W → Calls Tryd.prog 23 #[.agg #[.int .i64 y, .int .i64 m, .int .i64 d]] W (fun o w' => o = .returned (.int .i64 (wd)) ∧ Below W.heap.size W w'))) (B1 : Hid (∀ W, Lens W → Calls Tryd.prog 24 #[.agg #[.int .i64 y, .int .i64 m, .int .i64 d]] W (fun o w' => o = .returned (.int .i64 (yd)) ∧ Below W.heap.size W w'))) (B2 : Hid (∀ W, Lens W → Calls Tryd.prog 25 #[.agg #[.int .i64 y, .int .i64 m, .int .i64 d]] W (fun o w' => o = .returned (.int .i64 (yd)) ∧ Below W.heap.size W w'))) (AL : Hid (∀ W, Lens W → Calls Tryd.prog 14 #[] W (fun o w' => o = .returned (.bool true) ∧ Below W.heap.size W w'))) (w : World) (L : Lens w) :
    Calls Tryd.prog 5 #[.agg #[.int .i64 y, .int .i64 m, .int .i64 d]] w (RetV w (.bool true)) := by
  go_enter Tryd.func5, Tryd.ntmps5
  go_wp2_with fail
  have KB := ((BK.nil w).more3 (.int .i64 y) (.int .i64 m) (.int .i64 d) 23)
  generalize (w.alloc (.cells #[.int .i64 y, .int .i64 m, .int .i64 d] 23)) = w0 at *
  refine (W1.out _ (L.mono KB.hb)).mono ?_
  rintro e w1 ⟨rfl, k⟩
  replace KB := KB.below k
  clear k
  obtain ⟨_, a0, a1, a2, _⟩ := (KB.head).three
  go_wp2_with fail
  clear a0 a1 a2
  refine (W2.out _ (L.mono KB.hb)).mono ?_
  rintro e w2 ⟨rfl, k⟩
  replace KB := KB.below k
  clear k
  go_wp2_with fail
  obtain ⟨_, ja0, jb0, jc0, _⟩ := (KB.head).three
  go_region_held3 (fun w' => w'.cell? ⟨w.heap.size, 0, none⟩ = some (.int .i64 (y)) ∧ w'.cell? ⟨w.heap.size, 1, none⟩ = some (.int .i64 (m)) ∧ w'.cell? ⟨w.heap.size, 2, none⟩ = some (.int .i64 (d))) (first | (with_reducible exact ⟨(KB.head).three.2.1, (KB.head).three.2.2.1, (KB.head).three.2.2.2.1⟩) | (with_reducible exact ⟨(KB.drew.head).three.2.1, (KB.drew.head).three.2.2.1, (KB.drew.head).three.2.2.2.1⟩) | go_keep)
    (first
      | (go_at_call 14; (with_reducible refine (AL.out _ (by with_reducible first | exact L.mono KB.hb | exact L.mono KB.drew.hb)).mono ?_); rintro e W9 ⟨rfl, k⟩
         with_reducible (first | replace KB := KB.below k | replace KB := KB.drew.below k)
         clear k
         obtain ⟨_, ka0, kb0, kc0, _⟩ := (KB.head).three)
      | (go_at_call 22; (with_reducible refine (A1.out _ (by with_reducible first | exact L.mono KB.hb | exact L.mono KB.drew.hb)).mono ?_); rintro e W9 ⟨rfl, k⟩
         with_reducible (first | replace KB := KB.below k | replace KB := KB.drew.below k)
         clear k
         obtain ⟨_, ka0, kb0, kc0, _⟩ := (KB.head).three)
      | (go_at_call 23; (with_reducible refine (A2.out _ (by with_reducible first | exact L.mono KB.hb | exact L.mono KB.drew.hb)).mono ?_); rintro e W9 ⟨rfl, k⟩
         with_reducible (first | replace KB := KB.below k | replace KB := KB.drew.below k)
         clear k
         obtain ⟨_, ka0, kb0, kc0, _⟩ := (KB.head).three)
      | (go_at_call 24; (with_reducible refine (B1.out _ (by with_reducible first | exact L.mono KB.hb | exact L.mono KB.drew.hb)).mono ?_); rintro e W9 ⟨rfl, k⟩
         with_reducible (first | replace KB := KB.below k | replace KB := KB.drew.below k)
         clear k
         obtain ⟨_, ka0, kb0, kc0, _⟩ := (KB.head).three)
      | (go_at_call 25; (with_reducible refine (B2.out _ (by with_reducible first | exact L.mono KB.hb | exact L.mono KB.drew.hb)).mono ?_); rintro e W9 ⟨rfl, k⟩
         with_reducible (first | replace KB := KB.below k | replace KB := KB.drew.below k)
         clear k
         obtain ⟨_, ka0, kb0, kc0, _⟩ := (KB.head).three))
  all_goals
    go_wp2
    go_ret
    exact ⟨rfl, by first | exact KB.hb | exact KB.drew.hb⟩
theorem civilWeeks_walk (y m d : Int) (_ : In64 y) (_ : In64 m) (_ : In64 d) (w : World) (L : Lens w) : Calls Tryd.prog 5 #[.agg #[.int .i64 y, .int .i64 m, .int .i64 d]] w (RetV w (.bool true)) := by
  have h : ∃ yy k : Int, (∀ W, Lens W → Calls Tryd.prog 20 #[.agg #[.int .i64 y, .int .i64 m, .int .i64 d]] W (RetNN W yy k)) ∧ (∀ W, Lens W → Calls Tryd.prog 21 #[.agg #[.int .i64 y, .int .i64 m, .int .i64 d]] W (RetNN W yy k)) := by
    by_cases h : okD y m d
    · obtain ⟨yy, a, b⟩ := year_of (thu (numD y m d))
      exact ⟨_, _, fun W l => weekP y m d yy h a b W l, fun W _ => weekR y m d yy h a b W⟩
    · exact ⟨0, 0, fun W l => weekP_none h W l, fun W _ => weekR_none h W⟩
  obtain ⟨yy, k, h1, h2⟩ := h
  exact weeks_core y m d yy k _ _ (Lib.hid h1) (Lib.hid h2) (Lib.hid fun W l => (weekdayP y m d W l).mono fun _ _ ⟨h1, h2⟩ => ⟨h1, h2⟩) (Lib.hid fun W _ => (weekdayR y m d W).mono fun _ _ ⟨h1, h2⟩ => ⟨h1, h2⟩)
    (Lib.hid fun W l => (doyP y m d W l).mono fun _ _ ⟨h1, h2⟩ => ⟨h1, h2⟩) (Lib.hid fun W _ => (doyR y m d W).mono fun _ _ ⟨h1, h2⟩ => ⟨h1, h2⟩) (Lib.hid alive5) w L
end Go.Proofs.YtmmgppfopojnlaaDoor
