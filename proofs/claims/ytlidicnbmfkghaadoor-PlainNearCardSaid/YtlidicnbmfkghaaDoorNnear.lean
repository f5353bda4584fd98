/- The walk of PlainNear: at any date-time, any increment and any mode it returns true; what was there is as it was. -/
import Derived.Test.YtlidicnbmfkghaaDoorPalive
import Derived.Test.YtlidicnbmfkghaaDoorPmath
import Derived.Deep.RegionHeld3
namespace Go.Proofs.YtlidicnbmfkghaaDoor
open Go.RowKit

set_option maxRecDepth 100000 in
set_option maxHeartbeats 8000000 in
theorem near7_no (y m d h i s n ic mo er : Int) (he : (er != 0) = true) (RO : Hid (∀ W, Tabs W → Calls Tryd.prog 26 #[.agg #[.int .i64 (y), .int .i64 (m), .int .i64 (d), .int .i64 (h), .int .i64 (i), .int .i64 (s), .int .i64 (n)], .int .i64 ic, .int .i64 mo] W (fun o w' => o = .returned (.tuple #[.agg #[.int .i64 (0), .int .i64 (0), .int .i64 (0), .int .i64 (0), .int .i64 (0), .int .i64 (0), .int .i64 (0)], .int .i64 (er)]) ∧ Below W.heap.size W w'))) (AL : Hid (∀ W, Tabs W → Calls Tryd.prog 15 #[] W (fun o w' => o = .returned (.bool true) ∧ Below W.heap.size W w'))) (w : World) (L : Tabs w) :
    Calls Tryd.prog 7 #[.agg #[.int .i64 (y), .int .i64 (m), .int .i64 (d), .int .i64 (h), .int .i64 (i), .int .i64 (s), .int .i64 (n)], .int .i64 ic, .int .i64 mo] w (RetV w (.bool true)) := by
  go_enter Tryd.func7, Tryd.ntmps7
  go_upto_region 1 with (fail)
  have KB := ((BK.nil w).more7 (.int .i64 (y)) (.int .i64 (m)) (.int .i64 (d)) (.int .i64 (h)) (.int .i64 (i)) (.int .i64 (s)) (.int .i64 (n)) 27)
  generalize (w.alloc (.cells #[.int .i64 (y), .int .i64 (m), .int .i64 (d), .int .i64 (h), .int .i64 (i), .int .i64 (s), .int .i64 (n)] 27)) = w0 at *
  obtain ⟨_, q0a, q0b, q0c, q0d, q0e, q0f, q0g, _⟩ := (KB.head).seven
  go_wp2_with fail
  clear q0a q0b q0c q0d q0e q0f q0g
  refine (RO.out _ (L.mono KB.hb)).mono ?_
  rintro e w1 ⟨rfl, k⟩
  replace KB := KB.below k
  clear k
  go_upto_region 2 with (fail)
  have ig0 : w1.heap.size ≠ w.heap.size := Nat.ne_of_gt (KB.head).lt
  have og0 := Ne.symm ig0
  have ggg : w.heap.size ≤ w1.heap.size := KB.hb.size
  replace KB := KB.more7 (.int .i64 (0)) (.int .i64 (0)) (.int .i64 (0)) (.int .i64 (0)) (.int .i64 (0)) (.int .i64 (0)) (.int .i64 (0)) 27
  generalize w1.alloc (.cells #[.int .i64 (0), .int .i64 (0), .int .i64 (0), .int .i64 (0), .int .i64 (0), .int .i64 (0), .int .i64 (0)] 27) = w2 at *
  generalize w1.heap.size = g at *
  go_wp2_with fail
  refine (AL.out _ (L.mono KB.hb)).mono ?_
  rintro e w3 ⟨rfl, k⟩
  replace KB := KB.below k
  clear k
  obtain ⟨_, q0a, q0b, q0c, q0d, q0e, q0f, q0g, _⟩ := (KB.head).seven
  have HB := KB.hb
  go_wp2
  go_ret
  exact ⟨rfl, HB⟩
set_option maxRecDepth 100000 in
set_option maxHeartbeats 8000000 in
theorem near7_yes (y m d h i s n ic mo u0 u1 u2 u3 u4 u5 u6 D k0 k1 j0 j1 : Int) (_i1 : 1 ≤ ic) (_i2 : ic ≤ 86400000000000) (RO : Hid (∀ W, Tabs W → Calls Tryd.prog 26 #[.agg #[.int .i64 (y), .int .i64 (m), .int .i64 (d), .int .i64 (h), .int .i64 (i), .int .i64 (s), .int .i64 (n)], .int .i64 ic, .int .i64 mo] W (fun o w' => o = .returned (.tuple #[.agg #[.int .i64 (u0), .int .i64 (u1), .int .i64 (u2), .int .i64 (u3), .int .i64 (u4), .int .i64 (u5), .int .i64 (u6)], .int .i64 (0)]) ∧ Below W.heap.size W w'))) (SI : Hid (∀ W, Tabs W → Calls Tryd.prog 19 #[.agg #[.int .i64 (y), .int .i64 (m), .int .i64 (d), .int .i64 (h), .int .i64 (i), .int .i64 (s), .int .i64 (n)], .agg #[.int .i64 (u0), .int .i64 (u1), .int .i64 (u2), .int .i64 (u3), .int .i64 (u4), .int .i64 (u5), .int .i64 (u6)]] W (fun o w' => o = .returned (.tuple #[.agg #[.int .i64 (hiW D), .int .u64 (loW D)], .int .i64 (0)]) ∧ Below W.heap.size W w'))) (RU : Hid (∀ W, Tabs W → Calls Tryd.prog 26 #[.agg #[.int .i64 (u0), .int .i64 (u1), .int .i64 (u2), .int .i64 (u3), .int .i64 (u4), .int .i64 (u5), .int .i64 (u6)], .int .i64 ic, .int .i64 mo] W (fun o w' => o = .returned (.tuple #[.agg #[.int .i64 (u0), .int .i64 (u1), .int .i64 (u2), .int .i64 (u3), .int .i64 (u4), .int .i64 (u5), .int .i64 (u6)], .int .i64 (0)]) ∧ Below W.heap.size W w'))) (AL : Hid (∀ W, Tabs W → Calls Tryd.prog 15 #[] W (fun o w' => o = .returned (.bool true) ∧ Below W.heap.size W w'))) (O1 : Hid (∀ W, Tabs W → Calls Tryd.prog 27 #[.int .i64 ic] W (fun o w' => o = .returned (.agg #[.int .i64 (k0), .int .u64 (k1)]) ∧ Below W.heap.size W w'))) (C1 : Hid (∀ W, Tabs W → Calls Tryd.prog 24 #[.agg #[.int .i64 (hiW D), .int .u64 (loW D)], .agg #[.int .i64 (k0), .int .u64 (k1)]] W (fun o w' => o = .returned (.int .i64 (-1)) ∧ Below W.heap.size W w'))) (O2 : Hid (∀ W, Tabs W → Calls Tryd.prog 27 #[.int .i64 (-ic)] W (fun o w' => o = .returned (.agg #[.int .i64 (j0), .int .u64 (j1)]) ∧ Below W.heap.size W w'))) (C2 : Hid (∀ W, Tabs W → Calls Tryd.prog 24 #[.agg #[.int .i64 (hiW D), .int .u64 (loW D)], .agg #[.int .i64 (j0), .int .u64 (j1)]] W (fun o w' => o = .returned (.int .i64 1) ∧ Below W.heap.size W w'))) (w : World) (L : Tabs w) :
    Calls Tryd.prog 7 #[.agg #[.int .i64 (y), .int .i64 (m), .int .i64 (d), .int .i64 (h), .int .i64 (i), .int .i64 (s), .int .i64 (n)], .int .i64 ic, .int .i64 mo] w (RetV w (.bool true)) := by
  have s1 : IntKind.i64.wrap (-ic) = -ic := IntWalk.i64_in _ (by omega)
  go_enter Tryd.func7, Tryd.ntmps7
  go_upto_region 1 with (fail)
  have KB := ((BK.nil w).more7 (.int .i64 (y)) (.int .i64 (m)) (.int .i64 (d)) (.int .i64 (h)) (.int .i64 (i)) (.int .i64 (s)) (.int .i64 (n)) 27)
  generalize (w.alloc (.cells #[.int .i64 (y), .int .i64 (m), .int .i64 (d), .int .i64 (h), .int .i64 (i), .int .i64 (s), .int .i64 (n)] 27)) = w0 at *
  obtain ⟨_, q0a, q0b, q0c, q0d, q0e, q0f, q0g, _⟩ := (KB.head).seven
  go_wp2_with fail
  clear q0a q0b q0c q0d q0e q0f q0g
  refine (RO.out _ (L.mono KB.hb)).mono ?_
  rintro e w1 ⟨rfl, k⟩
  replace KB := KB.below k
  clear k
  go_upto_region 2 with (fail)
  have ig0 : w1.heap.size ≠ w.heap.size := Nat.ne_of_gt (KB.head).lt
  have og0 := Ne.symm ig0
  have ggg : w.heap.size ≤ w1.heap.size := KB.hb.size
  replace KB := KB.more7 (.int .i64 (u0)) (.int .i64 (u1)) (.int .i64 (u2)) (.int .i64 (u3)) (.int .i64 (u4)) (.int .i64 (u5)) (.int .i64 (u6)) 27
  generalize w1.alloc (.cells #[.int .i64 (u0), .int .i64 (u1), .int .i64 (u2), .int .i64 (u3), .int .i64 (u4), .int .i64 (u5), .int .i64 (u6)] 27) = w2 at *
  generalize w1.heap.size = g at *
  go_upto_region 4 with (fail)
  obtain ⟨_, q0a, q0b, q0c, q0d, q0e, q0f, q0g, _⟩ := (KB.tail.head).seven
  obtain ⟨_, q1a, q1b, q1c, q1d, q1e, q1f, q1g, _⟩ := (KB.head).seven
  go_wp2_with fail
  clear q0a q0b q0c q0d q0e q0f q0g q1a q1b q1c q1d q1e q1f q1g
  refine (SI.out _ (L.mono KB.hb)).mono ?_
  rintro e w3 ⟨rfl, k⟩
  replace KB := KB.below k
  clear k
  go_upto_region 5 with (fail)
  have iv0 : w3.heap.size ≠ g := Nat.ne_of_gt (KB.head).lt
  have ov0 := Ne.symm iv0
  have iv1 : w3.heap.size ≠ w.heap.size := Nat.ne_of_gt (KB.tail.head).lt
  have ov1 := Ne.symm iv1
  have ggv : w.heap.size ≤ w3.heap.size := KB.hb.size
  replace KB := KB.more2 (.int .i64 (hiW D)) (.int .u64 (loW D)) 30
  generalize w3.alloc (.cells #[.int .i64 (hiW D), .int .u64 (loW D)] 30) = w4 at *
  generalize w3.heap.size = v at *
  obtain ⟨_, q0a, q0b, q0c, q0d, q0e, q0f, q0g, _⟩ := (KB.tail.head).seven
  go_wp2_with fail
  clear q0a q0b q0c q0d q0e q0f q0g
  refine (RU.out _ (L.mono KB.hb)).mono ?_
  rintro e w5 ⟨rfl, k⟩
  replace KB := KB.below k
  clear k
  go_upto_region 6 with (fail)
  have ix0 : w5.heap.size ≠ v := Nat.ne_of_gt (KB.head).lt
  have ox0 := Ne.symm ix0
  have ix1 : w5.heap.size ≠ g := Nat.ne_of_gt (KB.tail.head).lt
  have ox1 := Ne.symm ix1
  have ix2 : w5.heap.size ≠ w.heap.size := Nat.ne_of_gt (KB.tail.tail.head).lt
  have ox2 := Ne.symm ix2
  have ggx : w.heap.size ≤ w5.heap.size := KB.hb.size
  replace KB := KB.more7 (.int .i64 (u0)) (.int .i64 (u1)) (.int .i64 (u2)) (.int .i64 (u3)) (.int .i64 (u4)) (.int .i64 (u5)) (.int .i64 (u6)) 27
  generalize w5.alloc (.cells #[.int .i64 (u0), .int .i64 (u1), .int .i64 (u2), .int .i64 (u3), .int .i64 (u4), .int .i64 (u5), .int .i64 (u6)] 27) = w6 at *
  generalize w5.heap.size = x at *
  obtain ⟨_, j0a, j0b, j0c, j0d, j0e, j0f, j0g, _⟩ := (KB.head).seven
  obtain ⟨_, j1a, j1b, _⟩ := (KB.tail.head).two
  obtain ⟨_, j2a, j2b, j2c, j2d, j2e, j2f, j2g, _⟩ := (KB.tail.tail.head).seven
  go_region_held3 (fun w' => w'.cell? ⟨x, 0, none⟩ = some (.int .i64 (u0)) ∧ w'.cell? ⟨x, 1, none⟩ = some (.int .i64 (u1)) ∧ w'.cell? ⟨x, 2, none⟩ = some (.int .i64 (u2)) ∧ w'.cell? ⟨x, 3, none⟩ = some (.int .i64 (u3)) ∧ w'.cell? ⟨x, 4, none⟩ = some (.int .i64 (u4)) ∧ w'.cell? ⟨x, 5, none⟩ = some (.int .i64 (u5)) ∧ w'.cell? ⟨x, 6, none⟩ = some (.int .i64 (u6)) ∧ w'.cell? ⟨v, 0, none⟩ = some (.int .i64 (hiW D)) ∧ w'.cell? ⟨v, 1, none⟩ = some (.int .u64 (loW D)) ∧ w'.cell? ⟨g, 0, none⟩ = some (.int .i64 (u0)) ∧ w'.cell? ⟨g, 1, none⟩ = some (.int .i64 (u1)) ∧ w'.cell? ⟨g, 2, none⟩ = some (.int .i64 (u2)) ∧ w'.cell? ⟨g, 3, none⟩ = some (.int .i64 (u3)) ∧ w'.cell? ⟨g, 4, none⟩ = some (.int .i64 (u4)) ∧ w'.cell? ⟨g, 5, none⟩ = some (.int .i64 (u5)) ∧ w'.cell? ⟨g, 6, none⟩ = some (.int .i64 (u6))) (first | (with_reducible exact ⟨(KB.head).seven.2.1, (KB.head).seven.2.2.1, (KB.head).seven.2.2.2.1, (KB.head).seven.2.2.2.2.1, (KB.head).seven.2.2.2.2.2.1, (KB.head).seven.2.2.2.2.2.2.1, (KB.head).seven.2.2.2.2.2.2.2.1, (KB.tail.head).two.2.1, (KB.tail.head).two.2.2.1, (KB.tail.tail.head).seven.2.1, (KB.tail.tail.head).seven.2.2.1, (KB.tail.tail.head).seven.2.2.2.1, (KB.tail.tail.head).seven.2.2.2.2.1, (KB.tail.tail.head).seven.2.2.2.2.2.1, (KB.tail.tail.head).seven.2.2.2.2.2.2.1, (KB.tail.tail.head).seven.2.2.2.2.2.2.2.1⟩) | (with_reducible exact ⟨(KB.drew.head).seven.2.1, (KB.drew.head).seven.2.2.1, (KB.drew.head).seven.2.2.2.1, (KB.drew.head).seven.2.2.2.2.1, (KB.drew.head).seven.2.2.2.2.2.1, (KB.drew.head).seven.2.2.2.2.2.2.1, (KB.drew.head).seven.2.2.2.2.2.2.2.1, (KB.drew.tail.head).two.2.1, (KB.drew.tail.head).two.2.2.1, (KB.drew.tail.tail.head).seven.2.1, (KB.drew.tail.tail.head).seven.2.2.1, (KB.drew.tail.tail.head).seven.2.2.2.1, (KB.drew.tail.tail.head).seven.2.2.2.2.1, (KB.drew.tail.tail.head).seven.2.2.2.2.2.1, (KB.drew.tail.tail.head).seven.2.2.2.2.2.2.1, (KB.drew.tail.tail.head).seven.2.2.2.2.2.2.2.1⟩) | go_keep)
    (first
      | (go_at_call 15; (with_reducible refine (AL.out _ (by with_reducible first | exact L.mono KB.hb | exact L.mono KB.drew.hb)).mono ?_); rintro e W9 ⟨rfl, k⟩
         with_reducible (first | replace KB := KB.below k | replace KB := KB.drew.below k)
         clear k
         obtain ⟨_, k0a, k0b, k0c, k0d, k0e, k0f, k0g, _⟩ := (KB.head).seven
         obtain ⟨_, k1a, k1b, _⟩ := (KB.tail.head).two
         obtain ⟨_, k2a, k2b, k2c, k2d, k2e, k2f, k2g, _⟩ := (KB.tail.tail.head).seven)
      | (go_at_call 27; (with_reducible refine (O1.out _ (by with_reducible first | exact L.mono KB.hb | exact L.mono KB.drew.hb)).mono ?_); rintro e W9 ⟨rfl, k⟩
         with_reducible (first | replace KB := KB.below k | replace KB := KB.drew.below k)
         clear k
         obtain ⟨_, k0a, k0b, k0c, k0d, k0e, k0f, k0g, _⟩ := (KB.head).seven
         obtain ⟨_, k1a, k1b, _⟩ := (KB.tail.head).two
         obtain ⟨_, k2a, k2b, k2c, k2d, k2e, k2f, k2g, _⟩ := (KB.tail.tail.head).seven)
      | (go_at_call 27; (with_reducible refine (O2.out _ (by with_reducible first | exact L.mono KB.hb | exact L.mono KB.drew.hb)).mono ?_); rintro e W9 ⟨rfl, k⟩
         with_reducible (first | replace KB := KB.below k | replace KB := KB.drew.below k)
         clear k
         obtain ⟨_, k0a, k0b, k0c, k0d, k0e, k0f, k0g, _⟩ := (KB.head).seven
         obtain ⟨_, k1a, k1b, _⟩ := (KB.tail.head).two
         obtain ⟨_, k2a, k2b, k2c, k2d, k2e, k2f, k2g, _⟩ := (KB.tail.tail.head).seven)
      | (go_at_call 24; (with_reducible refine (C1.out _ (by with_reducible first | exact L.mono KB.hb | exact L.mono KB.drew.hb)).mono ?_); rintro e W9 ⟨rfl, k⟩
         with_reducible (first | replace KB := KB.below k | replace KB := KB.drew.below k)
         clear k
         obtain ⟨_, k0a, k0b, k0c, k0d, k0e, k0f, k0g, _⟩ := (KB.head).seven
         obtain ⟨_, k1a, k1b, _⟩ := (KB.tail.head).two
         obtain ⟨_, k2a, k2b, k2c, k2d, k2e, k2f, k2g, _⟩ := (KB.tail.tail.head).seven)
      | (go_at_call 24; (with_reducible refine (C2.out _ (by with_reducible first | exact L.mono KB.hb | exact L.mono KB.drew.hb)).mono ?_); rintro e W9 ⟨rfl, k⟩
         with_reducible (first | replace KB := KB.below k | replace KB := KB.drew.below k)
         clear k
         obtain ⟨_, k0a, k0b, k0c, k0d, k0e, k0f, k0g, _⟩ := (KB.head).seven
         obtain ⟨_, k1a, k1b, _⟩ := (KB.tail.head).two
         obtain ⟨_, k2a, k2b, k2c, k2d, k2e, k2f, k2g, _⟩ := (KB.tail.tail.head).seven))
  all_goals
    go_wp2
    go_ret
    exact ⟨rfl, by first | exact KB.hb | exact KB.drew.hb⟩
theorem plainNear_walk (C : PlainP) (y m d h i s n ic mo : Int) (i0 : In64 y) (i1 : In64 m) (i2 : In64 d) (i3 : In64 h) (i4 : In64 i) (i5 : In64 s) (i6 : In64 n) (i8 : In64 ic) (i9 : In64 mo) (w : World) (L : Tabs w) : Calls Tryd.prog 7 #[.agg #[.int .i64 (y), .int .i64 (m), .int .i64 (d), .int .i64 (h), .int .i64 (i), .int .i64 (s), .int .i64 (n)], .int .i64 ic, .int .i64 mo] w (RetV w (.bool true)) := by
  have AL := Lib.hid fun W l => alive7 C W l
  by_cases g : okX y m d h i s n ∧ incOk ic mo
  · obtain ⟨k, g⟩ := g
    by_cases b : rndX y m d h i s n ic mo ≤ -8640000086400000000000 ∨ 8640000086400000000000 ≤ rndX y m d h i s n ic mo
    · exact near7_no y m d h i s n ic mo 4 (by decide) (Lib.hid fun W l => C.round_over y m d h i s n ic mo k g b W l) AL w L
    · obtain ⟨u0, u1, u2, u3, u4, u5, u6, ku, e, _⟩ := both_of (N := rndX y m d h i s n ic mo) (by omega) (by omega)
      have st := rndX_stays g k.2.1 ku e
      have nr := rndX_near (y := y) (m := m) (d := d) (h := h) (i := i) (s := s) (n := n) (mo := mo) (show 0 < ic by have := g.1; omega)
      rw [← e] at nr
      have SI := fun W l => C.since_yes y m d h i s n u0 u1 u2 u3 u4 u5 u6 k ku W l
      have C1 : ∀ W, Tabs W → Calls Tryd.prog 24 #[.agg #[.int .i64 (hiW (numX u0 u1 u2 u3 u4 u5 u6 - numX y m d h i s n)), .int .u64 (loW (numX u0 u1 u2 u3 u4 u5 u6 - numX y m d h i s n))], .agg #[.int .i64 (hiW ic), .int .u64 (loW ic)]] W (RetV W (.int .i64 (-1))) := fun W _ => by have c := wideCmp (numX u0 u1 u2 u3 u4 u5 u6 - numX y m d h i s n) ic W; rwa [ord_lt (by omega)] at c
      have C2 : ∀ W, Tabs W → Calls Tryd.prog 24 #[.agg #[.int .i64 (hiW (numX u0 u1 u2 u3 u4 u5 u6 - numX y m d h i s n)), .int .u64 (loW (numX u0 u1 u2 u3 u4 u5 u6 - numX y m d h i s n))], .agg #[.int .i64 (hiW (-ic)), .int .u64 (loW (-ic))]] W (RetV W (.int .i64 1)) := fun W _ => by have c := wideCmp (numX u0 u1 u2 u3 u4 u5 u6 - numX y m d h i s n) (-ic) W; rwa [ord_gt (by omega)] at c
      exact near7_yes y m d h i s n ic mo u0 u1 u2 u3 u4 u5 u6 _ _ _ _ _ g.1 g.2.1 (Lib.hid fun W l => C.round_yes y m d h i s n ic mo u0 u1 u2 u3 u4 u5 u6 k g ku e W l) (Lib.hid SI) (Lib.hid fun W l => C.round_yes u0 u1 u2 u3 u4 u5 u6 ic mo u0 u1 u2 u3 u4 u5 u6 ku g ku st.symm W l) AL
        (Lib.hid fun W _ => wideOf ic i8 W) (Lib.hid C1) (Lib.hid fun W _ => wideOf (-ic) (by have := g.1; have := g.2.1; unfold In64; omega) W) (Lib.hid C2) w L
  · have b : ¬ okX y m d h i s n ∨ ¬ incOk ic mo := by
      by_cases k : okX y m d h i s n
      · exact .inr fun c => g ⟨k, c⟩
      · exact .inl k
    exact near7_no y m d h i s n ic mo 1 (by decide) (Lib.hid fun W l => C.round_bad y m d h i s n ic mo i0 i1 i2 i3 i4 i5 i6 i8 i9 b W l) AL w L
end Go.Proofs.YtlidicnbmfkghaaDoor
