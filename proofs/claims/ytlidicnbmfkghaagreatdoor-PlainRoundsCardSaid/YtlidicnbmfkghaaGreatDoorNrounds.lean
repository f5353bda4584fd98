/- The walk of PlainRounds: at any date-time, any increment and any mode it returns true; what was there is as it was. -/
import Derived.Test.YtlidicnbmfkghaaGreatDoorPalive
import Derived.Deep.RegionHeld3
namespace Go.Proofs.YtlidicnbmfkghaaGreatDoor
open Go.RowKit

set_option maxRecDepth 100000 in
set_option maxHeartbeats 8000000 in
theorem rounds7_core (y m d h i s n ic mo u0 u1 u2 u3 u4 u5 u6 er : Int) (A1 : Hid (∀ W, Tabs W → Calls Tryz.prog 4 #[.agg #[.int .i64 (y), .int .i64 (m), .int .i64 (d), .int .i64 (h), .int .i64 (i), .int .i64 (s), .int .i64 (n)], .int .i64 ic, .int .i64 mo] W (fun o w' => o = .returned (.tuple #[.agg #[.int .i64 (u0), .int .i64 (u1), .int .i64 (u2), .int .i64 (u3), .int .i64 (u4), .int .i64 (u5), .int .i64 (u6)], .int .i64 (er)]) ∧ Below W.heap.size W w'))) (A2 : Hid (∀ W, Tabs W → Calls Tryz.prog 5 #[.agg #[.int .i64 (y), .int .i64 (m), .int .i64 (d), .int .i64 (h), .int .i64 (i), .int .i64 (s), .int .i64 (n)], .int .i64 ic, .int .i64 mo] W (fun o w' => o = .returned (.tuple #[.agg #[.int .i64 (u0), .int .i64 (u1), .int .i64 (u2), .int .i64 (u3), .int .i64 (u4), .int .i64 (u5), .int .i64 (u6)], .int .i64 (er)]) ∧ Below W.heap.size W w'))) (AL : Hid (∀ W, Tabs W → Calls Tryz.prog 6 #[] W (fun o w' => o = .returned (.bool true) ∧ Below W.heap.size W w'))) (w : World) (L : Tabs w) :
    Calls Tryz.prog 3 #[.agg #[.int .i64 (y), .int .i64 (m), .int .i64 (d), .int .i64 (h), .int .i64 (i), .int .i64 (s), .int .i64 (n)], .int .i64 ic, .int .i64 mo] w (RetV w (.bool true)) := by
  go_enter Tryz.func3, Tryz.ntmps3
  go_upto_region 1 with (fail)
  have KB := ((BK.nil w).more7 (.int .i64 (y)) (.int .i64 (m)) (.int .i64 (d)) (.int .i64 (h)) (.int .i64 (i)) (.int .i64 (s)) (.int .i64 (n)) 27)
  generalize (w.alloc (.cells #[.int .i64 (y), .int .i64 (m), .int .i64 (d), .int .i64 (h), .int .i64 (i), .int .i64 (s), .int .i64 (n)] 27)) = w0 at *
  obtain ⟨_, q0a, q0b, q0c, q0d, q0e, q0f, q0g, _⟩ := (KB.head).seven
  go_wp2_with fail
  clear q0a q0b q0c q0d q0e q0f q0g
  refine (A1.out _ (L.mono KB.hb)).mono ?_
  rintro e w1 ⟨rfl, k⟩
  replace KB := KB.below k
  clear k
  go_upto_region 2 with (fail)
  have ig0 : w1.heap.size ≠ w.heap.size := Nat.ne_of_gt (KB.head).lt
  have og0 := Ne.symm ig0
  have ggg : w.heap.size ≤ w1.heap.size := KB.hb.size
  replace KB := KB.more7 (.int .i64 (u0)) (.int .i64 (u1)) (.int .i64 (u2)) (.int .i64 (u3)) (.int .i64 (u4)) (.int .i64 (u5)) (.int .i64 (u6)) 27
  generalize w1.alloc (.cells #[.int .i64 (u0), .int .i64 (u1), .int .i64 (u2), .int .i64 (u3), .int .i64 (u4), .int .i64 (u5), .int .i64 (u6)] 27) = w2 at *
  generalize w1.heap.size = g at *
  obtain ⟨_, q0a, q0b, q0c, q0d, q0e, q0f, q0g, _⟩ := (KB.tail.head).seven
  go_wp2_with fail
  clear q0a q0b q0c q0d q0e q0f q0g
  refine (A2.out _ (L.mono KB.hb)).mono ?_
  rintro e w3 ⟨rfl, k⟩
  replace KB := KB.below k
  clear k
  go_upto_region 3 with (fail)
  have iq'0 : w3.heap.size ≠ g := Nat.ne_of_gt (KB.head).lt
  have oq'0 := Ne.symm iq'0
  have iq'1 : w3.heap.size ≠ w.heap.size := Nat.ne_of_gt (KB.tail.head).lt
  have oq'1 := Ne.symm iq'1
  have ggq' : w.heap.size ≤ w3.heap.size := KB.hb.size
  replace KB := KB.more7 (.int .i64 (u0)) (.int .i64 (u1)) (.int .i64 (u2)) (.int .i64 (u3)) (.int .i64 (u4)) (.int .i64 (u5)) (.int .i64 (u6)) 27
  generalize w3.alloc (.cells #[.int .i64 (u0), .int .i64 (u1), .int .i64 (u2), .int .i64 (u3), .int .i64 (u4), .int .i64 (u5), .int .i64 (u6)] 27) = w4 at *
  generalize w3.heap.size = q' at *
  go_wp2_with fail
  refine (AL.out _ (L.mono KB.hb)).mono ?_
  rintro e w5 ⟨rfl, k⟩
  replace KB := KB.below k
  clear k
  obtain ⟨_, q0a, q0b, q0c, q0d, q0e, q0f, q0g, _⟩ := (KB.tail.head).seven
  obtain ⟨_, q1a, q1b, q1c, q1d, q1e, q1f, q1g, _⟩ := (KB.head).seven
  have HB := KB.hb
  go_wp2
  go_ret
  exact ⟨rfl, HB⟩
theorem plainRounds_walk (C : PlainP) (y m d h i s n ic mo : Int) (i0 : In64 y) (i1 : In64 m) (i2 : In64 d) (i3 : In64 h) (i4 : In64 i) (i5 : In64 s) (i6 : In64 n) (i8 : In64 ic) (i9 : In64 mo) (w : World) (L : Tabs w) : Calls Tryz.prog 3 #[.agg #[.int .i64 (y), .int .i64 (m), .int .i64 (d), .int .i64 (h), .int .i64 (i), .int .i64 (s), .int .i64 (n)], .int .i64 ic, .int .i64 mo] w (RetV w (.bool true)) := by
  have AL := Lib.hid fun W l => alive7 C W l
  by_cases k : okX y m d h i s n
  · by_cases g : incOk ic mo
    · by_cases b : rndX y m d h i s n ic mo ≤ -8640000086400000000000 ∨ 8640000086400000000000 ≤ rndX y m d h i s n ic mo
      · exact rounds7_core y m d h i s n ic mo _ _ _ _ _ _ _ _ (Lib.hid fun W l => C.round_over y m d h i s n ic mo k g b W l) (Lib.hid fun W _ => roundXR_over k g b W) AL w L
      · obtain ⟨u0, u1, u2, u3, u4, u5, u6, ku, e, _⟩ := both_of (N := rndX y m d h i s n ic mo) (by omega) (by omega)
        exact rounds7_core y m d h i s n ic mo _ _ _ _ _ _ _ _ (Lib.hid fun W l => C.round_yes y m d h i s n ic mo u0 u1 u2 u3 u4 u5 u6 k g ku e W l) (Lib.hid fun W _ => roundXR k g ku e W) AL w L
    · exact rounds7_core y m d h i s n ic mo _ _ _ _ _ _ _ _ (Lib.hid fun W l => C.round_bad y m d h i s n ic mo i0 i1 i2 i3 i4 i5 i6 i8 i9 (.inr g) W l) (Lib.hid fun W _ => roundXR_bad (.inr g) W) AL w L
  · exact rounds7_core y m d h i s n ic mo _ _ _ _ _ _ _ _ (Lib.hid fun W l => C.round_bad y m d h i s n ic mo i0 i1 i2 i3 i4 i5 i6 i8 i9 (.inl k) W l) (Lib.hid fun W _ => roundXR_bad (.inl k) W) AL w L
end Go.Proofs.YtlidicnbmfkghaaGreatDoor
