/- What the statements of layer 7 ask besides: the answers that every right program gives. -/
import Derived.Test.YtlidicnbmfkghaaGreatDoorPspec
import Derived.Deep.RegionHeld3
namespace Go.Proofs.YtlidicnbmfkghaaGreatDoor
open Go.RowKit

set_option maxRecDepth 100000 in
set_option maxHeartbeats 8000000 in
theorem alive7_core (c0 c1 d0 d1 : Int) (NA : Hid (∀ W, Tabs W → Calls Tryz.prog 13 #[.agg #[.int .i64 1970, .int .i64 1, .int .i64 2, .int .i64 0, .int .i64 0, .int .i64 0, .int .i64 1]] W (fun o w' => o = .returned (.tuple #[.agg #[.int .i64 (c0), .int .u64 (c1)], .bool true]) ∧ Below W.heap.size W w'))) (O1 : Hid (∀ W, Tabs W → Calls Tryz.prog 15 #[.int .i64 (-1)] W (fun o w' => o = .returned (.agg #[.int .i64 (d0), .int .u64 (d1)]) ∧ Below W.heap.size W w'))) (OP : Hid (∀ W, Tabs W → Calls Tryz.prog 14 #[.agg #[.int .i64 (d0), .int .u64 (d1)]] W (fun o w' => o = .returned (.tuple #[.agg #[.int .i64 (1969), .int .i64 (12), .int .i64 (31), .int .i64 (23), .int .i64 (59), .int .i64 (59), .int .i64 (999999999)], .bool true]) ∧ Below W.heap.size W w'))) (O2 : Hid (∀ W, Tabs W → Calls Tryz.prog 15 #[.int .i64 86400000000001] W (fun o w' => o = .returned (.agg #[.int .i64 (c0), .int .u64 (c1)]) ∧ Below W.heap.size W w'))) (w : World) (L : Tabs w) :
    Calls Tryz.prog 6 #[] w (RetV w (.bool true)) := by
  go_enter Tryz.func6, Tryz.ntmps6
  go_wp2_with fail
  have KB := (BK.nil w)
  refine (NA.out _ (L.mono KB.hb)).mono ?_
  rintro e w1 ⟨rfl, k⟩
  replace KB := KB.below k
  clear k
  go_upto_region 2 with (fail)
  have ggg : w.heap.size ≤ w1.heap.size := KB.hb.size
  replace KB := KB.more2 (.int .i64 (c0)) (.int .u64 (c1)) 45
  generalize w1.alloc (.cells #[.int .i64 (c0), .int .u64 (c1)] 45) = w2 at *
  generalize w1.heap.size = g at *
  go_wp2_with fail
  refine (O1.out _ (L.mono KB.hb)).mono ?_
  rintro e w3 ⟨rfl, k⟩
  replace KB := KB.below k
  clear k
  go_wp2_with fail
  refine (OP.out _ (L.mono KB.hb)).mono ?_
  rintro e w4 ⟨rfl, k⟩
  replace KB := KB.below k
  clear k
  go_upto_region 3 with (fail)
  have ix0 : w4.heap.size ≠ g := Nat.ne_of_gt (KB.head).lt
  have ox0 := Ne.symm ix0
  have ggx : w.heap.size ≤ w4.heap.size := KB.hb.size
  replace KB := KB.more7 (.int .i64 (1969)) (.int .i64 (12)) (.int .i64 (31)) (.int .i64 (23)) (.int .i64 (59)) (.int .i64 (59)) (.int .i64 (999999999)) 27
  generalize w4.alloc (.cells #[.int .i64 (1969), .int .i64 (12), .int .i64 (31), .int .i64 (23), .int .i64 (59), .int .i64 (59), .int .i64 (999999999)] 27) = w5 at *
  generalize w4.heap.size = x at *
  obtain ⟨_, j0a, j0b, j0c, j0d, j0e, j0f, j0g, _⟩ := (KB.head).seven
  obtain ⟨_, j1a, j1b, _⟩ := (KB.tail.head).two
  go_region_held3 (fun w' => w'.cell? ⟨x, 0, none⟩ = some (.int .i64 (1969)) ∧ w'.cell? ⟨x, 1, none⟩ = some (.int .i64 (12)) ∧ w'.cell? ⟨x, 2, none⟩ = some (.int .i64 (31)) ∧ w'.cell? ⟨x, 3, none⟩ = some (.int .i64 (23)) ∧ w'.cell? ⟨x, 4, none⟩ = some (.int .i64 (59)) ∧ w'.cell? ⟨x, 5, none⟩ = some (.int .i64 (59)) ∧ w'.cell? ⟨x, 6, none⟩ = some (.int .i64 (999999999)) ∧ w'.cell? ⟨g, 0, none⟩ = some (.int .i64 (c0)) ∧ w'.cell? ⟨g, 1, none⟩ = some (.int .u64 (c1))) (first | (with_reducible exact ⟨(KB.head).seven.2.1, (KB.head).seven.2.2.1, (KB.head).seven.2.2.2.1, (KB.head).seven.2.2.2.2.1, (KB.head).seven.2.2.2.2.2.1, (KB.head).seven.2.2.2.2.2.2.1, (KB.head).seven.2.2.2.2.2.2.2.1, (KB.tail.head).two.2.1, (KB.tail.head).two.2.2.1⟩) | (with_reducible exact ⟨(KB.drew.head).seven.2.1, (KB.drew.head).seven.2.2.1, (KB.drew.head).seven.2.2.2.1, (KB.drew.head).seven.2.2.2.2.1, (KB.drew.head).seven.2.2.2.2.2.1, (KB.drew.head).seven.2.2.2.2.2.2.1, (KB.drew.head).seven.2.2.2.2.2.2.2.1, (KB.drew.tail.head).two.2.1, (KB.drew.tail.head).two.2.2.1⟩) | go_keep)
    (first
      | (go_at_call 15; (with_reducible refine (O2.out _ (by with_reducible first | exact L.mono KB.hb | exact L.mono KB.drew.hb)).mono ?_); rintro e W9 ⟨rfl, k⟩
         with_reducible (first | replace KB := KB.below k | replace KB := KB.drew.below k)
         clear k
         obtain ⟨_, k0a, k0b, k0c, k0d, k0e, k0f, k0g, _⟩ := (KB.head).seven
         obtain ⟨_, k1a, k1b, _⟩ := (KB.tail.head).two))
  all_goals
    go_wp2
    go_ret
    exact ⟨rfl, by first | exact KB.hb | exact KB.drew.hb⟩
theorem alive7 (C : PlainP) (w : World) (L : Tabs w) : Calls Tryz.prog 6 #[] w (fun o w' => o = .returned (.bool true) ∧ Below w.heap.size w w') :=
  alive7_core _ _ _ _ (Lib.hid fun W l => C.nanos_yes 1970 1 2 0 0 0 1 (by decide) W l) (Lib.hid fun W _ => wideOf (-1) (by decide) W) (Lib.hid fun W l => C.of_yes (-1) 1969 12 31 23 59 59 999999999 (by decide) (by decide) W l)
    (Lib.hid fun W _ => by rw [show numX 1970 1 2 0 0 0 1 = 86400000000001 by decide]; exact wideOf 86400000000001 (by decide) W) w L
end Go.Proofs.YtlidicnbmfkghaaGreatDoor
