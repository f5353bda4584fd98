/- The walk of ClockAdds: at any time and any wide number it returns true; what was there is as it was. -/
import Derived.Test.YteggdabnhdjfcaaDoorKalive
import Derived.Deep.RegionHeld3
namespace Go.Proofs.YteggdabnhdjfcaaDoor
open Go.RowKit

set_option maxRecDepth 100000 in
set_option maxHeartbeats 8000000 in
theorem adds6_core (h m s n a x0 x1 x2 x3 k e : Int) (A1 : Hid (∀ W, Sizes W → Calls Tryd.prog 18 #[.agg #[.int .i64 (h), .int .i64 (m), .int .i64 (s), .int .i64 (n)], .agg #[.int .i64 (hiW a), .int .u64 (loW a)]] W (fun o w' => o = .returned (.tuple #[.agg #[.int .i64 (x0), .int .i64 (x1), .int .i64 (x2), .int .i64 (x3)], .int .i64 (k), .int .i64 (e)]) ∧ Below W.heap.size W w'))) (A2 : Hid (∀ W, Sizes W → Calls Tryd.prog 19 #[.agg #[.int .i64 (h), .int .i64 (m), .int .i64 (s), .int .i64 (n)], .agg #[.int .i64 (hiW a), .int .u64 (loW a)]] W (fun o w' => o = .returned (.tuple #[.agg #[.int .i64 (x0), .int .i64 (x1), .int .i64 (x2), .int .i64 (x3)], .int .i64 (k), .int .i64 (e)]) ∧ Below W.heap.size W w'))) (AL : Hid (∀ W, Sizes W → Calls Tryd.prog 14 #[] W (fun o w' => o = .returned (.bool true) ∧ Below W.heap.size W w'))) (w : World) (L : Sizes w) :
    Calls Tryd.prog 5 #[.agg #[.int .i64 (h), .int .i64 (m), .int .i64 (s), .int .i64 (n)], .agg #[.int .i64 (hiW a), .int .u64 (loW a)]] w (RetV w (.bool true)) := by
  go_enter Tryd.func5, Tryd.ntmps5
  go_upto_region 1 with (fail)
  have KB := (((BK.nil w).more4 (.int .i64 (h)) (.int .i64 (m)) (.int .i64 (s)) (.int .i64 (n)) 23).more2 (.int .i64 (hiW a)) (.int .u64 (loW a)) 42)
  simp only [World.size_alloc] at KB
  generalize ((w.alloc (.cells #[.int .i64 (h), .int .i64 (m), .int .i64 (s), .int .i64 (n)] 23)).alloc (.cells #[.int .i64 (hiW a), .int .u64 (loW a)] 42)) = w0 at *
  obtain ⟨_, q0a, q0b, _⟩ := (KB.head).two
  obtain ⟨_, q1a, q1b, q1c, q1d, _⟩ := (KB.tail.head).four
  go_wp2_with fail
  clear q0a q0b q1a q1b q1c q1d
  refine (A1.out _ (L.mono KB.hb)).mono ?_
  rintro e w1 ⟨rfl, k⟩
  replace KB := KB.below k
  clear k
  go_upto_region 2 with (fail)
  have ig0 : w1.heap.size ≠ w.heap.size + 1 := Nat.ne_of_gt (KB.head).lt
  have og0 := Ne.symm ig0
  have ig1 : w1.heap.size ≠ w.heap.size := Nat.ne_of_gt (KB.tail.head).lt
  have og1 := Ne.symm ig1
  have ggg : w.heap.size ≤ w1.heap.size := KB.hb.size
  replace KB := KB.more4 (.int .i64 (x0)) (.int .i64 (x1)) (.int .i64 (x2)) (.int .i64 (x3)) 23
  generalize w1.alloc (.cells #[.int .i64 (x0), .int .i64 (x1), .int .i64 (x2), .int .i64 (x3)] 23) = w2 at *
  generalize w1.heap.size = g at *
  obtain ⟨_, q0a, q0b, _⟩ := (KB.tail.head).two
  obtain ⟨_, q1a, q1b, q1c, q1d, _⟩ := (KB.tail.tail.head).four
  go_wp2_with fail
  clear q0a q0b q1a q1b q1c q1d
  refine (A2.out _ (L.mono KB.hb)).mono ?_
  rintro e w3 ⟨rfl, k⟩
  replace KB := KB.below k
  clear k
  go_upto_region 3 with (fail)
  have ih'0 : w3.heap.size ≠ g := Nat.ne_of_gt (KB.head).lt
  have oh'0 := Ne.symm ih'0
  have ih'1 : w3.heap.size ≠ w.heap.size + 1 := Nat.ne_of_gt (KB.tail.head).lt
  have oh'1 := Ne.symm ih'1
  have ih'2 : w3.heap.size ≠ w.heap.size := Nat.ne_of_gt (KB.tail.tail.head).lt
  have oh'2 := Ne.symm ih'2
  have ggh' : w.heap.size ≤ w3.heap.size := KB.hb.size
  replace KB := KB.more4 (.int .i64 (x0)) (.int .i64 (x1)) (.int .i64 (x2)) (.int .i64 (x3)) 23
  generalize w3.alloc (.cells #[.int .i64 (x0), .int .i64 (x1), .int .i64 (x2), .int .i64 (x3)] 23) = w4 at *
  generalize w3.heap.size = h' at *
  go_wp2_with fail
  refine (AL.out _ (L.mono KB.hb)).mono ?_
  rintro e w5 ⟨rfl, k⟩
  replace KB := KB.below k
  clear k
  obtain ⟨_, q0a, q0b, q0c, q0d, _⟩ := (KB.tail.head).four
  obtain ⟨_, q1a, q1b, q1c, q1d, _⟩ := (KB.head).four
  have HB := KB.hb
  go_wp2
  go_ret
  exact ⟨rfl, HB⟩
theorem clockAdds_walk (C : ClockP) (h m s n a : Int) (i1 : In64 h) (i2 : In64 m) (i3 : In64 s) (i4 : In64 n) (ha : InW a) (w : World) (L : Sizes w) : Calls Tryd.prog 5 #[.agg #[.int .i64 (h), .int .i64 (m), .int .i64 (s), .int .i64 (n)], .agg #[.int .i64 (hiW a), .int .u64 (loW a)]] w (RetV w (.bool true)) := by
  have AL := Lib.hid fun W l => alive6 C W l
  by_cases k : okT h m s n
  · by_cases ho : In64 ((numT h m s n + a) / 86400000000000)
    · obtain ⟨x0, x1, x2, x3, hx, e⟩ := time_of (n := (numT h m s n + a) % 86400000000000) (by omega) (by omega)
      exact adds6_core h m s n a _ _ _ _ _ _ (Lib.hid fun W l => C.add_yes h m s n a x0 x1 x2 x3 k ha ho hx e W l) (Lib.hid fun (W : World) (_ : Sizes W) => addTR k ha ho hx e W) AL w L
    · exact adds6_core h m s n a _ _ _ _ _ _ (Lib.hid fun W l => C.add_over h m s n a k ha ho W l) (Lib.hid fun (W : World) (_ : Sizes W) => addTR_over k ha ho W) AL w L
  · exact adds6_core h m s n a _ _ _ _ _ _ (Lib.hid fun W l => C.add_bad h m s n a i1 i2 i3 i4 ha k W l) (Lib.hid fun (W : World) (_ : Sizes W) => addTR_bad a k W) AL w L
end Go.Proofs.YteggdabnhdjfcaaDoor
