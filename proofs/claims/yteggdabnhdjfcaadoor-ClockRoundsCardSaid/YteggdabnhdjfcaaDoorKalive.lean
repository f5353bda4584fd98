/- What the statements of layer 6 ask besides: the answers that every right program gives. -/
import Derived.Test.YteggdabnhdjfcaaDoorKspec
import Derived.Deep.RegionHeld3
namespace Go.Proofs.YteggdabnhdjfcaaDoor
open Go.RowKit

set_option maxRecDepth 100000 in
set_option maxHeartbeats 8000000 in
theorem alive6_core (c0 c1 : Int) (OF : Hid (∀ W, Sizes W → Calls Tryd.prog 24 #[.int .i64 7200000000000] W (fun o w' => o = .returned (.agg #[.int .i64 (c0), .int .u64 (c1)]) ∧ Below W.heap.size W w'))) (AD : Hid (∀ W, Sizes W → Calls Tryd.prog 18 #[.agg #[.int .i64 23, .int .i64 0, .int .i64 0, .int .i64 0], .agg #[.int .i64 (c0), .int .u64 (c1)]] W (fun o w' => o = .returned (.tuple #[.agg #[.int .i64 (1), .int .i64 (0), .int .i64 (0), .int .i64 (0)], .int .i64 (1), .int .i64 (0)]) ∧ Below W.heap.size W w'))) (NA : Hid (∀ W, Sizes W → Calls Tryd.prog 9 #[.agg #[.int .i64 0, .int .i64 1, .int .i64 0, .int .i64 5]] W (fun o w' => o = .returned (.tuple #[.int .i64 (60000000005), .bool true]) ∧ Below W.heap.size W w'))) (w : World) (L : Sizes w) :
    Calls Tryd.prog 14 #[] w (RetV w (.bool true)) := by
  go_enter Tryd.func14, Tryd.ntmps14
  go_wp2_with fail
  have KB := (BK.nil w)
  refine (OF.out _ (L.mono KB.hb)).mono ?_
  rintro e w1 ⟨rfl, k⟩
  replace KB := KB.below k
  clear k
  go_wp2_with fail
  refine (AD.out _ (L.mono KB.hb)).mono ?_
  rintro e w2 ⟨rfl, k⟩
  replace KB := KB.below k
  clear k
  go_upto_region 2 with (fail)
  have ggg : w.heap.size ≤ w2.heap.size := KB.hb.size
  replace KB := KB.more4 (.int .i64 (1)) (.int .i64 (0)) (.int .i64 (0)) (.int .i64 (0)) 23
  generalize w2.alloc (.cells #[.int .i64 (1), .int .i64 (0), .int .i64 (0), .int .i64 (0)] 23) = w3 at *
  generalize w2.heap.size = g at *
  go_wp2_with fail
  refine (NA.out _ (L.mono KB.hb)).mono ?_
  rintro e w4 ⟨rfl, k⟩
  replace KB := KB.below k
  clear k
  obtain ⟨_, q0a, q0b, q0c, q0d, _⟩ := (KB.head).four
  have HB := KB.hb
  go_wp2
  go_ret
  exact ⟨rfl, HB⟩
theorem alive6 (C : ClockP) (w : World) (L : Sizes w) : Calls Tryd.prog 14 #[] w (fun o w' => o = .returned (.bool true) ∧ Below w.heap.size w w') :=
  have i : InW 7200000000000 := inW_of_64 (by decide)
  (alive6_core _ _ (Lib.hid fun (W : World) (_ : Sizes W) => (wideOf 7200000000000 (by decide) W).mono fun _ _ ⟨h1, h2⟩ => ⟨h1, h2⟩)
    (Lib.hid fun W l => C.add_yes 23 0 0 0 7200000000000 1 0 0 0 (by decide) i (by decide) (by decide) (by decide) W l)
    (Lib.hid fun W l => by
      have c := C.nanos 0 1 0 5 (by decide) (by decide) (by decide) (by decide) W l
      rw [show nvT 0 1 0 5 = 60000000005 by decide, show decide (okT 0 1 0 5) = true by decide] at c
      exact c) w L).mono fun _ _ ⟨h1, h2⟩ => ⟨h1, h2⟩
end Go.Proofs.YteggdabnhdjfcaaDoor
