/- What the statements of layer 5 ask besides: the answers that every right program gives. -/
import Derived.Test.YtmmgppfopojnlaaDoorEreg
import Derived.Test.YtmmgppfopojnlaaDoorEcmp
import Derived.Deep.RegionHeld3
namespace Go.Proofs.YtmmgppfopojnlaaDoor
open Go.RowKit

set_option maxRecDepth 100000 in
set_option maxHeartbeats 8000000 in
theorem alive5_core (DA : Hid (∀ W, Lens W → Calls Tryd.prog 10 #[.agg #[.int .i64 2000, .int .i64 3, .int .i64 1]] W (fun o w' => o = .returned (.tuple #[.int .i64 11017, .bool true]) ∧ Below W.heap.size W w'))) (OF : Hid (∀ W, Lens W → Calls Tryd.prog 12 #[.int .i64 (-1)] W (fun o w' => o = .returned (.tuple #[.agg #[.int .i64 1969, .int .i64 12, .int .i64 31], .bool true]) ∧ Below W.heap.size W w'))) (ML : Hid (∀ W, Lens W → Calls Tryd.prog 18 #[.int .i64 2000, .int .i64 2] W (fun o w' => o = .returned (.int .i64 (29)) ∧ W = w'))) (WD : Hid (∀ W, Lens W → Calls Tryd.prog 22 #[.agg #[.int .i64 1969, .int .i64 12, .int .i64 31]] W (fun o w' => o = .returned (.int .i64 (3)) ∧ Below W.heap.size W w'))) (w : World) (L : Lens w) :
    Calls Tryd.prog 14 #[] w (RetV w (.bool true)) := by
  have KB := BK.nil w
  go_enter Tryd.func14, Tryd.ntmps14
  go_wp2_with fail
  refine (DA.out _ (L.mono KB.hb)).mono ?_
  rintro e w1 ⟨rfl, k⟩
  replace KB := KB.below k
  clear k
  go_wp2_with fail
  refine (OF.out _ (L.mono KB.hb)).mono ?_
  rintro e w2 ⟨rfl, k⟩
  replace KB := KB.below k
  clear k
  go_upto_region 3 with (fail)
  replace KB := KB.more3 (.int .i64 1969) (.int .i64 12) (.int .i64 31) 23
  generalize w2.alloc (.cells #[.int .i64 1969, .int .i64 12, .int .i64 31] 23) = w3 at *
  generalize w2.heap.size = g at *
  obtain ⟨_, a0, a1, a2, _⟩ := (KB.head).three
  go_wp2_with fail
  refine (ML.out _ (L.mono KB.hb)).mono ?_
  rintro e _w ⟨rfl, rfl⟩
  go_wp2_with fail
  clear a0 a1 a2
  refine (WD.out _ (L.mono KB.hb)).mono ?_
  rintro e w4 ⟨rfl, k⟩
  replace KB := KB.below k
  clear k
  have HB := KB.hb
  go_wp2
  go_ret
  exact ⟨rfl, HB⟩
theorem alive5 (w : World) (L : Lens w) : Calls Tryd.prog 14 #[] w (fun o w' => o = .returned (.bool true) ∧ Below w.heap.size w w') :=
  (alive5_core (Lib.hid fun W l => (by have c := daysP_is (show okD 2000 3 1 by decide) W l; rw [show numD 2000 3 1 = 11017 by decide] at c; exact c)) (Lib.hid fun W l => ofP_yes (-1) 1969 12 31 (by decide) (by decide) W l)
    (Lib.hid fun W l => (by have c := mlenP 2000 2 W l; rw [show lenM 2000 2 = 29 by decide] at c; exact c)) (Lib.hid fun W l => (by have c := weekdayP 1969 12 31 W l; rw [show wdv 1969 12 31 = 3 by decide] at c; exact c)) w L).mono fun _ _ ⟨h1, h2⟩ => ⟨h1, h2⟩
end Go.Proofs.YtmmgppfopojnlaaDoor
