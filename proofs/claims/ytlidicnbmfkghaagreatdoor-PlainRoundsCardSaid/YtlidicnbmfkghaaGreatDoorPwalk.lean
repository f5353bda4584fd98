/- Package plain over what its calls answer: date-times' numbers, nanoseconds added, what lies between, date-times rounded, how two stand to each other. -/
import Derived.Test.YtlidicnbmfkghaaGreatDoorPtab
import Derived.Test.YtlidicnbmfkghaaGreatDoorGzon
import Derived.Test.YtlidicnbmfkghaaGreatDoorPspec
import Derived.Deep.RegionHeld3
namespace Go.Proofs.YtlidicnbmfkghaaGreatDoor
open Go.RowKit

set_option maxRecDepth 100000 in
set_option maxHeartbeats 8000000 in
theorem rightN (y m d h i s n a0 a1 : Int) (b : Bool) (NA : Hid (∀ W, Tabs W → Calls Tryz.prog 13 #[.agg #[.int .i64 (y), .int .i64 (m), .int .i64 (d), .int .i64 (h), .int .i64 (i), .int .i64 (s), .int .i64 (n)]] W (fun o w' => o = .returned (.tuple #[.agg #[.int .i64 (a0), .int .u64 (a1)], .bool b]) ∧ Below W.heap.size W w'))) (w : World) (L : Tabs w) :
    Calls Tryz.prog 7 #[.agg #[.int .i64 (y), .int .i64 (m), .int .i64 (d), .int .i64 (h), .int .i64 (i), .int .i64 (s), .int .i64 (n)]] w (RetV w (.bool b)) := by
  go_enter Tryz.func7, Tryz.ntmps7
  go_upto_region 1 with (fail)
  have KB := ((BK.nil w).more7 (.int .i64 (y)) (.int .i64 (m)) (.int .i64 (d)) (.int .i64 (h)) (.int .i64 (i)) (.int .i64 (s)) (.int .i64 (n)) 27)
  generalize (w.alloc (.cells #[.int .i64 (y), .int .i64 (m), .int .i64 (d), .int .i64 (h), .int .i64 (i), .int .i64 (s), .int .i64 (n)] 27)) = w0 at *
  obtain ⟨_, q0a, q0b, q0c, q0d, q0e, q0f, q0g, _⟩ := (KB.head).seven
  go_wp2_with fail
  clear q0a q0b q0c q0d q0e q0f q0g
  refine (NA.out _ (L.mono KB.hb)).mono ?_
  rintro e w1 ⟨rfl, k⟩
  replace KB := KB.below k
  clear k
  go_upto_region 2 with (fail)
  have ig0 : w1.heap.size ≠ w.heap.size := Nat.ne_of_gt (KB.head).lt
  have og0 := Ne.symm ig0
  have ggg : w.heap.size ≤ w1.heap.size := KB.hb.size
  replace KB := KB.more2 (.int .i64 (a0)) (.int .u64 (a1)) 45
  generalize w1.alloc (.cells #[.int .i64 (a0), .int .u64 (a1)] 45) = w2 at *
  generalize w1.heap.size = g at *
  have HB := KB.hb
  go_wp2
  go_ret
  exact ⟨rfl, HB⟩
set_option maxRecDepth 100000 in
set_option maxHeartbeats 8000000 in
theorem nanosN_d (y m d h i s n N r : Int) (b : Bool) (DA : Hid (∀ W, Tabs W → Calls Tryz.prog 29 #[.agg #[.int .i64 (y), .int .i64 (m), .int .i64 (d)]] W (fun o w' => o = .returned (.tuple #[.int .i64 (N), .bool false]) ∧ Below W.heap.size W w'))) (NA : Hid (∀ W, Tabs W → Calls Tryz.prog 16 #[.agg #[.int .i64 (h), .int .i64 (i), .int .i64 (s), .int .i64 (n)]] W (fun o w' => o = .returned (.tuple #[.int .i64 (r), .bool b]) ∧ Below W.heap.size W w'))) (w : World) (L : Tabs w) :
    Calls Tryz.prog 13 #[.agg #[.int .i64 (y), .int .i64 (m), .int .i64 (d), .int .i64 (h), .int .i64 (i), .int .i64 (s), .int .i64 (n)]] w (RetWB w 0 0 false) := by
  go_enter Tryz.func13, Tryz.ntmps13
  go_upto_region 1 with (fail)
  have KB := (((BK.nil w).more7 (.int .i64 (y)) (.int .i64 (m)) (.int .i64 (d)) (.int .i64 (h)) (.int .i64 (i)) (.int .i64 (s)) (.int .i64 (n)) 27).more2 (.int .i64 0) (.int .u64 0) 45)
  simp only [World.size_alloc] at KB
  generalize ((w.alloc (.cells #[.int .i64 (y), .int .i64 (m), .int .i64 (d), .int .i64 (h), .int .i64 (i), .int .i64 (s), .int .i64 (n)] 27)).alloc (.cells #[.int .i64 0, .int .u64 0] 45)) = w0 at *
  obtain ⟨_, q0a, q0b, q0c, q0d, q0e, q0f, q0g, _⟩ := (KB.tail.head).seven
  go_wp2_with fail
  clear q0a q0b q0c q0d q0e q0f q0g
  refine (DA.out _ (L.mono KB.hb)).mono ?_
  rintro e w1 ⟨rfl, k⟩
  replace KB := KB.below k
  clear k
  obtain ⟨_, q0a, q0b, q0c, q0d, q0e, q0f, q0g, _⟩ := (KB.tail.head).seven
  go_wp2_with fail
  clear q0a q0b q0c q0d q0e q0f q0g
  refine (NA.out _ (L.mono KB.hb)).mono ?_
  rintro e w2 ⟨rfl, k⟩
  replace KB := KB.below k
  clear k
  obtain ⟨_, ra, rb, fa, fb⟩ := (KB.head).two
  go_wp2
  obtain ⟨_, P0, P1, _⟩ := ((KB.head).self2 (.int .i64 0) (.int .u64 0)).two
  have HB := ((KB.hb.setCell (p := ⟨w.heap.size + 1, 0, none⟩) (by show _ ≤ w.heap.size + 1; omega) (.int .i64 0)).setCell (p := ⟨w.heap.size + 1, 1, none⟩) (by show _ ≤ w.heap.size + 1; omega) (.int .u64 0))
  exact bodyPost_ret (v := .tuple #[.agg #[.int .i64 0, .int .u64 0], .bool false]) (by simp [results, Tryz.results13, go_sem, P0, P1]) rfl ⟨rfl, HB⟩
set_option maxRecDepth 100000 in
set_option maxHeartbeats 8000000 in
theorem nanosN_t (y m d h i s n N r : Int) (DA : Hid (∀ W, Tabs W → Calls Tryz.prog 29 #[.agg #[.int .i64 (y), .int .i64 (m), .int .i64 (d)]] W (fun o w' => o = .returned (.tuple #[.int .i64 (N), .bool true]) ∧ Below W.heap.size W w'))) (NA : Hid (∀ W, Tabs W → Calls Tryz.prog 16 #[.agg #[.int .i64 (h), .int .i64 (i), .int .i64 (s), .int .i64 (n)]] W (fun o w' => o = .returned (.tuple #[.int .i64 (r), .bool false]) ∧ Below W.heap.size W w'))) (w : World) (L : Tabs w) :
    Calls Tryz.prog 13 #[.agg #[.int .i64 (y), .int .i64 (m), .int .i64 (d), .int .i64 (h), .int .i64 (i), .int .i64 (s), .int .i64 (n)]] w (RetWB w 0 0 false) := by
  go_enter Tryz.func13, Tryz.ntmps13
  go_upto_region 1 with (fail)
  have KB := (((BK.nil w).more7 (.int .i64 (y)) (.int .i64 (m)) (.int .i64 (d)) (.int .i64 (h)) (.int .i64 (i)) (.int .i64 (s)) (.int .i64 (n)) 27).more2 (.int .i64 0) (.int .u64 0) 45)
  simp only [World.size_alloc] at KB
  generalize ((w.alloc (.cells #[.int .i64 (y), .int .i64 (m), .int .i64 (d), .int .i64 (h), .int .i64 (i), .int .i64 (s), .int .i64 (n)] 27)).alloc (.cells #[.int .i64 0, .int .u64 0] 45)) = w0 at *
  obtain ⟨_, q0a, q0b, q0c, q0d, q0e, q0f, q0g, _⟩ := (KB.tail.head).seven
  go_wp2_with fail
  clear q0a q0b q0c q0d q0e q0f q0g
  refine (DA.out _ (L.mono KB.hb)).mono ?_
  rintro e w1 ⟨rfl, k⟩
  replace KB := KB.below k
  clear k
  obtain ⟨_, q0a, q0b, q0c, q0d, q0e, q0f, q0g, _⟩ := (KB.tail.head).seven
  go_wp2_with fail
  clear q0a q0b q0c q0d q0e q0f q0g
  refine (NA.out _ (L.mono KB.hb)).mono ?_
  rintro e w2 ⟨rfl, k⟩
  replace KB := KB.below k
  clear k
  obtain ⟨_, ra, rb, fa, fb⟩ := (KB.head).two
  go_wp2
  obtain ⟨_, P0, P1, _⟩ := ((KB.head).self2 (.int .i64 0) (.int .u64 0)).two
  have HB := ((KB.hb.setCell (p := ⟨w.heap.size + 1, 0, none⟩) (by show _ ≤ w.heap.size + 1; omega) (.int .i64 0)).setCell (p := ⟨w.heap.size + 1, 1, none⟩) (by show _ ≤ w.heap.size + 1; omega) (.int .u64 0))
  exact bodyPost_ret (v := .tuple #[.agg #[.int .i64 0, .int .u64 0], .bool false]) (by simp [results, Tryz.results13, go_sem, P0, P1]) rfl ⟨rfl, HB⟩
set_option maxRecDepth 100000 in
set_option maxHeartbeats 8000000 in
theorem nanosN_first (y m d h i s n : Int) (DA : Hid (∀ W, Tabs W → Calls Tryz.prog 29 #[.agg #[.int .i64 (y), .int .i64 (m), .int .i64 (d)]] W (fun o w' => o = .returned (.tuple #[.int .i64 (-100000001), .bool true]) ∧ Below W.heap.size W w'))) (NA : Hid (∀ W, Tabs W → Calls Tryz.prog 16 #[.agg #[.int .i64 (h), .int .i64 (i), .int .i64 (s), .int .i64 (n)]] W (fun o w' => o = .returned (.tuple #[.int .i64 (0), .bool true]) ∧ Below W.heap.size W w'))) (w : World) (L : Tabs w) :
    Calls Tryz.prog 13 #[.agg #[.int .i64 (y), .int .i64 (m), .int .i64 (d), .int .i64 (h), .int .i64 (i), .int .i64 (s), .int .i64 (n)]] w (RetWB w 0 0 false) := by
  go_enter Tryz.func13, Tryz.ntmps13
  go_upto_region 1 with (fail)
  have KB := (((BK.nil w).more7 (.int .i64 (y)) (.int .i64 (m)) (.int .i64 (d)) (.int .i64 (h)) (.int .i64 (i)) (.int .i64 (s)) (.int .i64 (n)) 27).more2 (.int .i64 0) (.int .u64 0) 45)
  simp only [World.size_alloc] at KB
  generalize ((w.alloc (.cells #[.int .i64 (y), .int .i64 (m), .int .i64 (d), .int .i64 (h), .int .i64 (i), .int .i64 (s), .int .i64 (n)] 27)).alloc (.cells #[.int .i64 0, .int .u64 0] 45)) = w0 at *
  obtain ⟨_, q0a, q0b, q0c, q0d, q0e, q0f, q0g, _⟩ := (KB.tail.head).seven
  go_wp2_with fail
  clear q0a q0b q0c q0d q0e q0f q0g
  refine (DA.out _ (L.mono KB.hb)).mono ?_
  rintro e w1 ⟨rfl, k⟩
  replace KB := KB.below k
  clear k
  obtain ⟨_, q0a, q0b, q0c, q0d, q0e, q0f, q0g, _⟩ := (KB.tail.head).seven
  go_wp2_with fail
  clear q0a q0b q0c q0d q0e q0f q0g
  refine (NA.out _ (L.mono KB.hb)).mono ?_
  rintro e w2 ⟨rfl, k⟩
  replace KB := KB.below k
  clear k
  obtain ⟨_, ra, rb, fa, fb⟩ := (KB.head).two
  go_wp2
  obtain ⟨_, P0, P1, _⟩ := ((KB.head).self2 (.int .i64 0) (.int .u64 0)).two
  have HB := ((KB.hb.setCell (p := ⟨w.heap.size + 1, 0, none⟩) (by show _ ≤ w.heap.size + 1; omega) (.int .i64 0)).setCell (p := ⟨w.heap.size + 1, 1, none⟩) (by show _ ≤ w.heap.size + 1; omega) (.int .u64 0))
  exact bodyPost_ret (v := .tuple #[.agg #[.int .i64 0, .int .u64 0], .bool false]) (by simp [results, Tryz.results13, go_sem, P0, P1]) rfl ⟨rfl, HB⟩
set_option maxRecDepth 100000 in
set_option maxHeartbeats 8000000 in
theorem nanosN_day (y m d h i s n N r m0 m1 o0 o1 s0 s1 e : Int) (h0 : ¬ N = -100000001) (DA : Hid (∀ W, Tabs W → Calls Tryz.prog 29 #[.agg #[.int .i64 (y), .int .i64 (m), .int .i64 (d)]] W (fun o w' => o = .returned (.tuple #[.int .i64 (N), .bool true]) ∧ Below W.heap.size W w'))) (NA : Hid (∀ W, Tabs W → Calls Tryz.prog 16 #[.agg #[.int .i64 (h), .int .i64 (i), .int .i64 (s), .int .i64 (n)]] W (fun o w' => o = .returned (.tuple #[.int .i64 (r), .bool true]) ∧ Below W.heap.size W w'))) (MU : Hid (∀ W, Tabs W → Calls Tryz.prog 31 #[.int .i64 (N), .int .i64 86400000000000] W (fun o w' => o = .returned (.agg #[.int .i64 (m0), .int .u64 (m1)]) ∧ Below W.heap.size W w'))) (OF : Hid (∀ W, Tabs W → Calls Tryz.prog 15 #[.int .i64 (r)] W (fun o w' => o = .returned (.agg #[.int .i64 (o0), .int .u64 (o1)]) ∧ Below W.heap.size W w'))) (AD : Hid (∀ W, Tabs W → Calls Tryz.prog 30 #[.agg #[.int .i64 (m0), .int .u64 (m1)], .agg #[.int .i64 (o0), .int .u64 (o1)]] W (fun o w' => o = .returned (.tuple #[.agg #[.int .i64 (s0), .int .u64 (s1)], .int .i64 (e)]) ∧ Below W.heap.size W w'))) (w : World) (L : Tabs w) :
    Calls Tryz.prog 13 #[.agg #[.int .i64 (y), .int .i64 (m), .int .i64 (d), .int .i64 (h), .int .i64 (i), .int .i64 (s), .int .i64 (n)]] w (RetWB w s0 s1 true) := by
  go_enter Tryz.func13, Tryz.ntmps13
  go_upto_region 1 with (fail)
  have KB := (((BK.nil w).more7 (.int .i64 (y)) (.int .i64 (m)) (.int .i64 (d)) (.int .i64 (h)) (.int .i64 (i)) (.int .i64 (s)) (.int .i64 (n)) 27).more2 (.int .i64 0) (.int .u64 0) 45)
  simp only [World.size_alloc] at KB
  generalize ((w.alloc (.cells #[.int .i64 (y), .int .i64 (m), .int .i64 (d), .int .i64 (h), .int .i64 (i), .int .i64 (s), .int .i64 (n)] 27)).alloc (.cells #[.int .i64 0, .int .u64 0] 45)) = w0 at *
  obtain ⟨_, q0a, q0b, q0c, q0d, q0e, q0f, q0g, _⟩ := (KB.tail.head).seven
  go_wp2_with fail
  clear q0a q0b q0c q0d q0e q0f q0g
  refine (DA.out _ (L.mono KB.hb)).mono ?_
  rintro e w1 ⟨rfl, k⟩
  replace KB := KB.below k
  clear k
  obtain ⟨_, q0a, q0b, q0c, q0d, q0e, q0f, q0g, _⟩ := (KB.tail.head).seven
  go_wp2_with fail
  clear q0a q0b q0c q0d q0e q0f q0g
  refine (NA.out _ (L.mono KB.hb)).mono ?_
  rintro e w2 ⟨rfl, k⟩
  replace KB := KB.below k
  clear k
  have d0 : (N == -100000001) = false := beq_eq_false_iff_ne.2 h0
  go_wp2_with fail
  refine (MU.out _ (L.mono KB.hb)).mono ?_
  rintro e w3 ⟨rfl, k⟩
  replace KB := KB.below k
  clear k
  go_wp2_with fail
  refine (OF.out _ (L.mono KB.hb)).mono ?_
  rintro e w4 ⟨rfl, k⟩
  replace KB := KB.below k
  clear k
  go_wp2_with fail
  refine (AD.out _ (L.mono KB.hb)).mono ?_
  rintro e w5 ⟨rfl, k⟩
  replace KB := KB.below k
  clear k
  go_upto_region 6 with (fail)
  have ig0 : w5.heap.size ≠ w.heap.size + 1 := Nat.ne_of_gt (KB.head).lt
  have og0 := Ne.symm ig0
  have ig1 : w5.heap.size ≠ w.heap.size := Nat.ne_of_gt (KB.tail.head).lt
  have og1 := Ne.symm ig1
  have ggg : w.heap.size ≤ w5.heap.size := KB.hb.size
  replace KB := KB.more2 (.int .i64 (s0)) (.int .u64 (s1)) 45
  generalize w5.alloc (.cells #[.int .i64 (s0), .int .u64 (s1)] 45) = w6 at *
  generalize w5.heap.size = g at *
  obtain ⟨_, j0a, j0b, _⟩ := (KB.head).two
  obtain ⟨_, ra, rb, fa, fb⟩ := (KB.tail.head).two
  go_wp2
  obtain ⟨_, P0, P1, _⟩ := ((KB.tail.head).self2 (.int .i64 (s0)) (.int .u64 (s1))).two
  have HB := ((KB.hb.setCell (p := ⟨w.heap.size + 1, 0, none⟩) (by show _ ≤ w.heap.size + 1; omega) (.int .i64 (s0))).setCell (p := ⟨w.heap.size + 1, 1, none⟩) (by show _ ≤ w.heap.size + 1; omega) (.int .u64 (s1)))
  exact bodyPost_ret (v := .tuple #[.agg #[.int .i64 (s0), .int .u64 (s1)], .bool true]) (by simp [results, Tryz.results13, go_sem, P0, P1]) rfl ⟨rfl, HB⟩
set_option maxRecDepth 100000 in
set_option maxHeartbeats 8000000 in
theorem nanosN_rest (y m d h i s n r m0 m1 o0 o1 s0 s1 e : Int) (h0 : ¬ r = 0) (DA : Hid (∀ W, Tabs W → Calls Tryz.prog 29 #[.agg #[.int .i64 (y), .int .i64 (m), .int .i64 (d)]] W (fun o w' => o = .returned (.tuple #[.int .i64 (-100000001), .bool true]) ∧ Below W.heap.size W w'))) (NA : Hid (∀ W, Tabs W → Calls Tryz.prog 16 #[.agg #[.int .i64 (h), .int .i64 (i), .int .i64 (s), .int .i64 (n)]] W (fun o w' => o = .returned (.tuple #[.int .i64 (r), .bool true]) ∧ Below W.heap.size W w'))) (MU : Hid (∀ W, Tabs W → Calls Tryz.prog 31 #[.int .i64 (-100000001), .int .i64 86400000000000] W (fun o w' => o = .returned (.agg #[.int .i64 (m0), .int .u64 (m1)]) ∧ Below W.heap.size W w'))) (OF : Hid (∀ W, Tabs W → Calls Tryz.prog 15 #[.int .i64 (r)] W (fun o w' => o = .returned (.agg #[.int .i64 (o0), .int .u64 (o1)]) ∧ Below W.heap.size W w'))) (AD : Hid (∀ W, Tabs W → Calls Tryz.prog 30 #[.agg #[.int .i64 (m0), .int .u64 (m1)], .agg #[.int .i64 (o0), .int .u64 (o1)]] W (fun o w' => o = .returned (.tuple #[.agg #[.int .i64 (s0), .int .u64 (s1)], .int .i64 (e)]) ∧ Below W.heap.size W w'))) (w : World) (L : Tabs w) :
    Calls Tryz.prog 13 #[.agg #[.int .i64 (y), .int .i64 (m), .int .i64 (d), .int .i64 (h), .int .i64 (i), .int .i64 (s), .int .i64 (n)]] w (RetWB w s0 s1 true) := by
  go_enter Tryz.func13, Tryz.ntmps13
  go_upto_region 1 with (fail)
  have KB := (((BK.nil w).more7 (.int .i64 (y)) (.int .i64 (m)) (.int .i64 (d)) (.int .i64 (h)) (.int .i64 (i)) (.int .i64 (s)) (.int .i64 (n)) 27).more2 (.int .i64 0) (.int .u64 0) 45)
  simp only [World.size_alloc] at KB
  generalize ((w.alloc (.cells #[.int .i64 (y), .int .i64 (m), .int .i64 (d), .int .i64 (h), .int .i64 (i), .int .i64 (s), .int .i64 (n)] 27)).alloc (.cells #[.int .i64 0, .int .u64 0] 45)) = w0 at *
  obtain ⟨_, q0a, q0b, q0c, q0d, q0e, q0f, q0g, _⟩ := (KB.tail.head).seven
  go_wp2_with fail
  clear q0a q0b q0c q0d q0e q0f q0g
  refine (DA.out _ (L.mono KB.hb)).mono ?_
  rintro e w1 ⟨rfl, k⟩
  replace KB := KB.below k
  clear k
  obtain ⟨_, q0a, q0b, q0c, q0d, q0e, q0f, q0g, _⟩ := (KB.tail.head).seven
  go_wp2_with fail
  clear q0a q0b q0c q0d q0e q0f q0g
  refine (NA.out _ (L.mono KB.hb)).mono ?_
  rintro e w2 ⟨rfl, k⟩
  replace KB := KB.below k
  clear k
  have d0 : (r == 0) = false := beq_eq_false_iff_ne.2 h0
  go_wp2_with fail
  refine (MU.out _ (L.mono KB.hb)).mono ?_
  rintro e w3 ⟨rfl, k⟩
  replace KB := KB.below k
  clear k
  go_wp2_with fail
  refine (OF.out _ (L.mono KB.hb)).mono ?_
  rintro e w4 ⟨rfl, k⟩
  replace KB := KB.below k
  clear k
  go_wp2_with fail
  refine (AD.out _ (L.mono KB.hb)).mono ?_
  rintro e w5 ⟨rfl, k⟩
  replace KB := KB.below k
  clear k
  go_upto_region 6 with (fail)
  have ig0 : w5.heap.size ≠ w.heap.size + 1 := Nat.ne_of_gt (KB.head).lt
  have og0 := Ne.symm ig0
  have ig1 : w5.heap.size ≠ w.heap.size := Nat.ne_of_gt (KB.tail.head).lt
  have og1 := Ne.symm ig1
  have ggg : w.heap.size ≤ w5.heap.size := KB.hb.size
  replace KB := KB.more2 (.int .i64 (s0)) (.int .u64 (s1)) 45
  generalize w5.alloc (.cells #[.int .i64 (s0), .int .u64 (s1)] 45) = w6 at *
  generalize w5.heap.size = g at *
  obtain ⟨_, j0a, j0b, _⟩ := (KB.head).two
  obtain ⟨_, ra, rb, fa, fb⟩ := (KB.tail.head).two
  go_wp2
  obtain ⟨_, P0, P1, _⟩ := ((KB.tail.head).self2 (.int .i64 (s0)) (.int .u64 (s1))).two
  have HB := ((KB.hb.setCell (p := ⟨w.heap.size + 1, 0, none⟩) (by show _ ≤ w.heap.size + 1; omega) (.int .i64 (s0))).setCell (p := ⟨w.heap.size + 1, 1, none⟩) (by show _ ≤ w.heap.size + 1; omega) (.int .u64 (s1)))
  exact bodyPost_ret (v := .tuple #[.agg #[.int .i64 (s0), .int .u64 (s1)], .bool true]) (by simp [results, Tryz.results13, go_sem, P0, P1]) rfl ⟨rfl, HB⟩
set_option maxRecDepth 100000 in
set_option maxHeartbeats 8000000 in
theorem ofN_yes (a u0 u1 u2 u3 u4 u5 u6 : Int) (AD : Hid (∀ W, Tabs W → Calls Tryz.prog 32 #[.agg #[.int .i64 (1970), .int .i64 (1), .int .i64 (1), .int .i64 (0), .int .i64 (0), .int .i64 (0), .int .i64 (0)], .agg #[.int .i64 (hiW a), .int .u64 (loW a)]] W (fun o w' => o = .returned (.tuple #[.agg #[.int .i64 (u0), .int .i64 (u1), .int .i64 (u2), .int .i64 (u3), .int .i64 (u4), .int .i64 (u5), .int .i64 (u6)], .int .i64 (0)]) ∧ Below W.heap.size W w'))) (w : World) (L : Tabs w) :
    Calls Tryz.prog 14 #[.agg #[.int .i64 (hiW a), .int .u64 (loW a)]] w (RetXB w u0 u1 u2 u3 u4 u5 u6 true) := by
  go_enter Tryz.func14, Tryz.ntmps14
  go_upto_region 1 with (fail)
  have KB := (((BK.nil w).more2 (.int .i64 (hiW a)) (.int .u64 (loW a)) 45).more7 (.int .i64 0) (.int .i64 0) (.int .i64 0) (.int .i64 0) (.int .i64 0) (.int .i64 0) (.int .i64 0) 27)
  simp only [World.size_alloc] at KB
  generalize ((w.alloc (.cells #[.int .i64 (hiW a), .int .u64 (loW a)] 45)).alloc (.cells #[.int .i64 0, .int .i64 0, .int .i64 0, .int .i64 0, .int .i64 0, .int .i64 0, .int .i64 0] 27)) = w0 at *
  obtain ⟨_, q0a, q0b, _⟩ := (KB.tail.head).two
  go_wp2_with fail
  clear q0a q0b
  refine (AD.out _ (L.mono KB.hb)).mono ?_
  rintro e w1 ⟨rfl, k⟩
  replace KB := KB.below k
  clear k
  go_upto_region 2 with (fail)
  have ig0 : w1.heap.size ≠ w.heap.size + 1 := Nat.ne_of_gt (KB.head).lt
  have og0 := Ne.symm ig0
  have ig1 : w1.heap.size ≠ w.heap.size := Nat.ne_of_gt (KB.tail.head).lt
  have og1 := Ne.symm ig1
  have ggg : w.heap.size ≤ w1.heap.size := KB.hb.size
  replace KB := KB.more7 (.int .i64 (u0)) (.int .i64 (u1)) (.int .i64 (u2)) (.int .i64 (u3)) (.int .i64 (u4)) (.int .i64 (u5)) (.int .i64 (u6)) 27
  generalize w1.alloc (.cells #[.int .i64 (u0), .int .i64 (u1), .int .i64 (u2), .int .i64 (u3), .int .i64 (u4), .int .i64 (u5), .int .i64 (u6)] 27) = w2 at *
  generalize w1.heap.size = g at *
  obtain ⟨_, j0a, j0b, j0c, j0d, j0e, j0f, j0g, _⟩ := (KB.head).seven
  obtain ⟨_, ra, rb, rc, rd, re, rf, rg, fa, fb, fc, fd, fe, ff, fg⟩ := (KB.tail.head).seven
  go_wp2
  obtain ⟨_, P0, P1, P2, P3, P4, P5, P6, _⟩ := ((KB.tail.head).self7 (.int .i64 (u0)) (.int .i64 (u1)) (.int .i64 (u2)) (.int .i64 (u3)) (.int .i64 (u4)) (.int .i64 (u5)) (.int .i64 (u6))).seven
  have HB := (((((((KB.hb.setCell (p := ⟨w.heap.size + 1, 0, none⟩) (by show _ ≤ w.heap.size + 1; omega) (.int .i64 (u0))).setCell (p := ⟨w.heap.size + 1, 1, none⟩) (by show _ ≤ w.heap.size + 1; omega) (.int .i64 (u1))).setCell (p := ⟨w.heap.size + 1, 2, none⟩) (by show _ ≤ w.heap.size + 1; omega) (.int .i64 (u2))).setCell (p := ⟨w.heap.size + 1, 3, none⟩) (by show _ ≤ w.heap.size + 1; omega) (.int .i64 (u3))).setCell (p := ⟨w.heap.size + 1, 4, none⟩) (by show _ ≤ w.heap.size + 1; omega) (.int .i64 (u4))).setCell (p := ⟨w.heap.size + 1, 5, none⟩) (by show _ ≤ w.heap.size + 1; omega) (.int .i64 (u5))).setCell (p := ⟨w.heap.size + 1, 6, none⟩) (by show _ ≤ w.heap.size + 1; omega) (.int .i64 (u6)))
  exact bodyPost_ret (v := .tuple #[.agg #[.int .i64 (u0), .int .i64 (u1), .int .i64 (u2), .int .i64 (u3), .int .i64 (u4), .int .i64 (u5), .int .i64 (u6)], .bool true]) (by simp [results, Tryz.results14, go_sem, P0, P1, P2, P3, P4, P5, P6]) rfl ⟨rfl, HB⟩
set_option maxRecDepth 100000 in
set_option maxHeartbeats 8000000 in
theorem ofN_no (a u0 u1 u2 u3 u4 u5 u6 : Int) (AD : Hid (∀ W, Tabs W → Calls Tryz.prog 32 #[.agg #[.int .i64 (1970), .int .i64 (1), .int .i64 (1), .int .i64 (0), .int .i64 (0), .int .i64 (0), .int .i64 (0)], .agg #[.int .i64 (hiW a), .int .u64 (loW a)]] W (fun o w' => o = .returned (.tuple #[.agg #[.int .i64 (u0), .int .i64 (u1), .int .i64 (u2), .int .i64 (u3), .int .i64 (u4), .int .i64 (u5), .int .i64 (u6)], .int .i64 (4)]) ∧ Below W.heap.size W w'))) (w : World) (L : Tabs w) :
    Calls Tryz.prog 14 #[.agg #[.int .i64 (hiW a), .int .u64 (loW a)]] w (RetXB w u0 u1 u2 u3 u4 u5 u6 false) := by
  go_enter Tryz.func14, Tryz.ntmps14
  go_upto_region 1 with (fail)
  have KB := (((BK.nil w).more2 (.int .i64 (hiW a)) (.int .u64 (loW a)) 45).more7 (.int .i64 0) (.int .i64 0) (.int .i64 0) (.int .i64 0) (.int .i64 0) (.int .i64 0) (.int .i64 0) 27)
  simp only [World.size_alloc] at KB
  generalize ((w.alloc (.cells #[.int .i64 (hiW a), .int .u64 (loW a)] 45)).alloc (.cells #[.int .i64 0, .int .i64 0, .int .i64 0, .int .i64 0, .int .i64 0, .int .i64 0, .int .i64 0] 27)) = w0 at *
  obtain ⟨_, q0a, q0b, _⟩ := (KB.tail.head).two
  go_wp2_with fail
  clear q0a q0b
  refine (AD.out _ (L.mono KB.hb)).mono ?_
  rintro e w1 ⟨rfl, k⟩
  replace KB := KB.below k
  clear k
  go_upto_region 2 with (fail)
  have ig0 : w1.heap.size ≠ w.heap.size + 1 := Nat.ne_of_gt (KB.head).lt
  have og0 := Ne.symm ig0
  have ig1 : w1.heap.size ≠ w.heap.size := Nat.ne_of_gt (KB.tail.head).lt
  have og1 := Ne.symm ig1
  have ggg : w.heap.size ≤ w1.heap.size := KB.hb.size
  replace KB := KB.more7 (.int .i64 (u0)) (.int .i64 (u1)) (.int .i64 (u2)) (.int .i64 (u3)) (.int .i64 (u4)) (.int .i64 (u5)) (.int .i64 (u6)) 27
  generalize w1.alloc (.cells #[.int .i64 (u0), .int .i64 (u1), .int .i64 (u2), .int .i64 (u3), .int .i64 (u4), .int .i64 (u5), .int .i64 (u6)] 27) = w2 at *
  generalize w1.heap.size = g at *
  obtain ⟨_, j0a, j0b, j0c, j0d, j0e, j0f, j0g, _⟩ := (KB.head).seven
  obtain ⟨_, ra, rb, rc, rd, re, rf, rg, fa, fb, fc, fd, fe, ff, fg⟩ := (KB.tail.head).seven
  go_wp2
  obtain ⟨_, P0, P1, P2, P3, P4, P5, P6, _⟩ := ((KB.tail.head).self7 (.int .i64 (u0)) (.int .i64 (u1)) (.int .i64 (u2)) (.int .i64 (u3)) (.int .i64 (u4)) (.int .i64 (u5)) (.int .i64 (u6))).seven
  have HB := (((((((KB.hb.setCell (p := ⟨w.heap.size + 1, 0, none⟩) (by show _ ≤ w.heap.size + 1; omega) (.int .i64 (u0))).setCell (p := ⟨w.heap.size + 1, 1, none⟩) (by show _ ≤ w.heap.size + 1; omega) (.int .i64 (u1))).setCell (p := ⟨w.heap.size + 1, 2, none⟩) (by show _ ≤ w.heap.size + 1; omega) (.int .i64 (u2))).setCell (p := ⟨w.heap.size + 1, 3, none⟩) (by show _ ≤ w.heap.size + 1; omega) (.int .i64 (u3))).setCell (p := ⟨w.heap.size + 1, 4, none⟩) (by show _ ≤ w.heap.size + 1; omega) (.int .i64 (u4))).setCell (p := ⟨w.heap.size + 1, 5, none⟩) (by show _ ≤ w.heap.size + 1; omega) (.int .i64 (u5))).setCell (p := ⟨w.heap.size + 1, 6, none⟩) (by show _ ≤ w.heap.size + 1; omega) (.int .i64 (u6)))
  exact bodyPost_ret (v := .tuple #[.agg #[.int .i64 (u0), .int .i64 (u1), .int .i64 (u2), .int .i64 (u3), .int .i64 (u4), .int .i64 (u5), .int .i64 (u6)], .bool false]) (by simp [results, Tryz.results14, go_sem, P0, P1, P2, P3, P4, P5, P6]) rfl ⟨rfl, HB⟩
set_option maxRecDepth 100000 in
set_option maxHeartbeats 8000000 in
theorem addN_bad (y m d h i s n a : Int) (RI : Hid (∀ W, Tabs W → Calls Tryz.prog 7 #[.agg #[.int .i64 (y), .int .i64 (m), .int .i64 (d), .int .i64 (h), .int .i64 (i), .int .i64 (s), .int .i64 (n)]] W (fun o w' => o = .returned (.bool false) ∧ Below W.heap.size W w'))) (w : World) (L : Tabs w) :
    Calls Tryz.prog 32 #[.agg #[.int .i64 (y), .int .i64 (m), .int .i64 (d), .int .i64 (h), .int .i64 (i), .int .i64 (s), .int .i64 (n)], .agg #[.int .i64 (hiW a), .int .u64 (loW a)]] w (RetXE w 0 0 0 0 0 0 0 1) := by
  go_enter Tryz.func32, Tryz.ntmps32
  go_upto_region 1 with (fail)
  have KB := ((((BK.nil w).more7 (.int .i64 (y)) (.int .i64 (m)) (.int .i64 (d)) (.int .i64 (h)) (.int .i64 (i)) (.int .i64 (s)) (.int .i64 (n)) 27).more2 (.int .i64 (hiW a)) (.int .u64 (loW a)) 45).more7 (.int .i64 0) (.int .i64 0) (.int .i64 0) (.int .i64 0) (.int .i64 0) (.int .i64 0) (.int .i64 0) 27)
  simp only [World.size_alloc] at KB
  generalize (((w.alloc (.cells #[.int .i64 (y), .int .i64 (m), .int .i64 (d), .int .i64 (h), .int .i64 (i), .int .i64 (s), .int .i64 (n)] 27)).alloc (.cells #[.int .i64 (hiW a), .int .u64 (loW a)] 45)).alloc (.cells #[.int .i64 0, .int .i64 0, .int .i64 0, .int .i64 0, .int .i64 0, .int .i64 0, .int .i64 0] 27)) = w0 at *
  obtain ⟨_, q0a, q0b, q0c, q0d, q0e, q0f, q0g, _⟩ := (KB.tail.tail.head).seven
  go_wp2_with fail
  clear q0a q0b q0c q0d q0e q0f q0g
  refine (RI.out _ (L.mono KB.hb)).mono ?_
  rintro e w1 ⟨rfl, k⟩
  replace KB := KB.below k
  clear k
  obtain ⟨_, ra, rb, rc, rd, re, rf, rg, fa, fb, fc, fd, fe, ff, fg⟩ := (KB.head).seven
  go_wp2
  obtain ⟨_, P0, P1, P2, P3, P4, P5, P6, _⟩ := ((KB.head).self7 (.int .i64 0) (.int .i64 0) (.int .i64 0) (.int .i64 0) (.int .i64 0) (.int .i64 0) (.int .i64 0)).seven
  have HB := (((((((KB.hb.setCell (p := ⟨w.heap.size + 1 + 1, 0, none⟩) (by show _ ≤ w.heap.size + 1 + 1; omega) (.int .i64 0)).setCell (p := ⟨w.heap.size + 1 + 1, 1, none⟩) (by show _ ≤ w.heap.size + 1 + 1; omega) (.int .i64 0)).setCell (p := ⟨w.heap.size + 1 + 1, 2, none⟩) (by show _ ≤ w.heap.size + 1 + 1; omega) (.int .i64 0)).setCell (p := ⟨w.heap.size + 1 + 1, 3, none⟩) (by show _ ≤ w.heap.size + 1 + 1; omega) (.int .i64 0)).setCell (p := ⟨w.heap.size + 1 + 1, 4, none⟩) (by show _ ≤ w.heap.size + 1 + 1; omega) (.int .i64 0)).setCell (p := ⟨w.heap.size + 1 + 1, 5, none⟩) (by show _ ≤ w.heap.size + 1 + 1; omega) (.int .i64 0)).setCell (p := ⟨w.heap.size + 1 + 1, 6, none⟩) (by show _ ≤ w.heap.size + 1 + 1; omega) (.int .i64 0))
  exact bodyPost_ret (v := .tuple #[.agg #[.int .i64 0, .int .i64 0, .int .i64 0, .int .i64 0, .int .i64 0, .int .i64 0, .int .i64 0], .int .i64 (1)]) (by simp [results, Tryz.results32, go_sem, P0, P1, P2, P3, P4, P5, P6]) rfl ⟨rfl, HB⟩
set_option maxRecDepth 100000 in
set_option maxHeartbeats 8000000 in
theorem addN_over (y m d h i s n a t0 t1 t2 t3 k : Int) (RI : Hid (∀ W, Tabs W → Calls Tryz.prog 7 #[.agg #[.int .i64 (y), .int .i64 (m), .int .i64 (d), .int .i64 (h), .int .i64 (i), .int .i64 (s), .int .i64 (n)]] W (fun o w' => o = .returned (.bool true) ∧ Below W.heap.size W w'))) (CA : Hid (∀ W, Tabs W → Calls Tryz.prog 64 #[.agg #[.int .i64 (h), .int .i64 (i), .int .i64 (s), .int .i64 (n)], .agg #[.int .i64 (hiW a), .int .u64 (loW a)]] W (fun o w' => o = .returned (.tuple #[.agg #[.int .i64 (t0), .int .i64 (t1), .int .i64 (t2), .int .i64 (t3)], .int .i64 (k), .int .i64 (2)]) ∧ Below W.heap.size W w'))) (w : World) (L : Tabs w) :
    Calls Tryz.prog 32 #[.agg #[.int .i64 (y), .int .i64 (m), .int .i64 (d), .int .i64 (h), .int .i64 (i), .int .i64 (s), .int .i64 (n)], .agg #[.int .i64 (hiW a), .int .u64 (loW a)]] w (RetXE w 0 0 0 0 0 0 0 4) := by
  go_enter Tryz.func32, Tryz.ntmps32
  go_upto_region 1 with (fail)
  have KB := ((((BK.nil w).more7 (.int .i64 (y)) (.int .i64 (m)) (.int .i64 (d)) (.int .i64 (h)) (.int .i64 (i)) (.int .i64 (s)) (.int .i64 (n)) 27).more2 (.int .i64 (hiW a)) (.int .u64 (loW a)) 45).more7 (.int .i64 0) (.int .i64 0) (.int .i64 0) (.int .i64 0) (.int .i64 0) (.int .i64 0) (.int .i64 0) 27)
  simp only [World.size_alloc] at KB
  generalize (((w.alloc (.cells #[.int .i64 (y), .int .i64 (m), .int .i64 (d), .int .i64 (h), .int .i64 (i), .int .i64 (s), .int .i64 (n)] 27)).alloc (.cells #[.int .i64 (hiW a), .int .u64 (loW a)] 45)).alloc (.cells #[.int .i64 0, .int .i64 0, .int .i64 0, .int .i64 0, .int .i64 0, .int .i64 0, .int .i64 0] 27)) = w0 at *
  obtain ⟨_, q0a, q0b, q0c, q0d, q0e, q0f, q0g, _⟩ := (KB.tail.tail.head).seven
  go_wp2_with fail
  clear q0a q0b q0c q0d q0e q0f q0g
  refine (RI.out _ (L.mono KB.hb)).mono ?_
  rintro e w1 ⟨rfl, k⟩
  replace KB := KB.below k
  clear k
  obtain ⟨_, q0a, q0b, q0c, q0d, q0e, q0f, q0g, _⟩ := (KB.tail.tail.head).seven
  obtain ⟨_, q1a, q1b, _⟩ := (KB.tail.head).two
  go_wp2_with fail
  clear q0a q0b q0c q0d q0e q0f q0g q1a q1b
  refine (CA.out _ (L.mono KB.hb)).mono ?_
  rintro e w2 ⟨rfl, k⟩
  replace KB := KB.below k
  clear k
  go_upto_region 4 with (fail)
  have ig0 : w2.heap.size ≠ w.heap.size + 1 + 1 := Nat.ne_of_gt (KB.head).lt
  have og0 := Ne.symm ig0
  have ig1 : w2.heap.size ≠ w.heap.size + 1 := Nat.ne_of_gt (KB.tail.head).lt
  have og1 := Ne.symm ig1
  have ig2 : w2.heap.size ≠ w.heap.size := Nat.ne_of_gt (KB.tail.tail.head).lt
  have og2 := Ne.symm ig2
  have ggg : w.heap.size ≤ w2.heap.size := KB.hb.size
  replace KB := KB.more4 (.int .i64 (t0)) (.int .i64 (t1)) (.int .i64 (t2)) (.int .i64 (t3)) 25
  generalize w2.alloc (.cells #[.int .i64 (t0), .int .i64 (t1), .int .i64 (t2), .int .i64 (t3)] 25) = w3 at *
  generalize w2.heap.size = g at *
  obtain ⟨_, ra, rb, rc, rd, re, rf, rg, fa, fb, fc, fd, fe, ff, fg⟩ := (KB.tail.head).seven
  go_wp2
  obtain ⟨_, P0, P1, P2, P3, P4, P5, P6, _⟩ := ((KB.tail.head).self7 (.int .i64 0) (.int .i64 0) (.int .i64 0) (.int .i64 0) (.int .i64 0) (.int .i64 0) (.int .i64 0)).seven
  have HB := (((((((KB.hb.setCell (p := ⟨w.heap.size + 1 + 1, 0, none⟩) (by show _ ≤ w.heap.size + 1 + 1; omega) (.int .i64 0)).setCell (p := ⟨w.heap.size + 1 + 1, 1, none⟩) (by show _ ≤ w.heap.size + 1 + 1; omega) (.int .i64 0)).setCell (p := ⟨w.heap.size + 1 + 1, 2, none⟩) (by show _ ≤ w.heap.size + 1 + 1; omega) (.int .i64 0)).setCell (p := ⟨w.heap.size + 1 + 1, 3, none⟩) (by show _ ≤ w.heap.size + 1 + 1; omega) (.int .i64 0)).setCell (p := ⟨w.heap.size + 1 + 1, 4, none⟩) (by show _ ≤ w.heap.size + 1 + 1; omega) (.int .i64 0)).setCell (p := ⟨w.heap.size + 1 + 1, 5, none⟩) (by show _ ≤ w.heap.size + 1 + 1; omega) (.int .i64 0)).setCell (p := ⟨w.heap.size + 1 + 1, 6, none⟩) (by show _ ≤ w.heap.size + 1 + 1; omega) (.int .i64 0))
  exact bodyPost_ret (v := .tuple #[.agg #[.int .i64 0, .int .i64 0, .int .i64 0, .int .i64 0, .int .i64 0, .int .i64 0, .int .i64 0], .int .i64 (4)]) (by simp [results, Tryz.results32, go_sem, P0, P1, P2, P3, P4, P5, P6]) rfl ⟨rfl, HB⟩
set_option maxRecDepth 100000 in
set_option maxHeartbeats 8000000 in
theorem addN_core (y m d h i s n a t0 t1 t2 t3 k u0 u1 u2 u3 u4 u5 u6 e : Int) (RI : Hid (∀ W, Tabs W → Calls Tryz.prog 7 #[.agg #[.int .i64 (y), .int .i64 (m), .int .i64 (d), .int .i64 (h), .int .i64 (i), .int .i64 (s), .int .i64 (n)]] W (fun o w' => o = .returned (.bool true) ∧ Below W.heap.size W w'))) (CA : Hid (∀ W, Tabs W → Calls Tryz.prog 64 #[.agg #[.int .i64 (h), .int .i64 (i), .int .i64 (s), .int .i64 (n)], .agg #[.int .i64 (hiW a), .int .u64 (loW a)]] W (fun o w' => o = .returned (.tuple #[.agg #[.int .i64 (t0), .int .i64 (t1), .int .i64 (t2), .int .i64 (t3)], .int .i64 (k), .int .i64 (0)]) ∧ Below W.heap.size W w'))) (MV : Hid (∀ W, Tabs W → Calls Tryz.prog 9 #[.agg #[.int .i64 (y), .int .i64 (m), .int .i64 (d)], .int .i64 (k), .agg #[.int .i64 (t0), .int .i64 (t1), .int .i64 (t2), .int .i64 (t3)]] W (fun o w' => o = .returned (.tuple #[.agg #[.int .i64 (u0), .int .i64 (u1), .int .i64 (u2), .int .i64 (u3), .int .i64 (u4), .int .i64 (u5), .int .i64 (u6)], .int .i64 (e)]) ∧ Below W.heap.size W w'))) (w : World) (L : Tabs w) :
    Calls Tryz.prog 32 #[.agg #[.int .i64 (y), .int .i64 (m), .int .i64 (d), .int .i64 (h), .int .i64 (i), .int .i64 (s), .int .i64 (n)], .agg #[.int .i64 (hiW a), .int .u64 (loW a)]] w (RetXE w u0 u1 u2 u3 u4 u5 u6 e) := by
  go_enter Tryz.func32, Tryz.ntmps32
  go_upto_region 1 with (fail)
  have KB := ((((BK.nil w).more7 (.int .i64 (y)) (.int .i64 (m)) (.int .i64 (d)) (.int .i64 (h)) (.int .i64 (i)) (.int .i64 (s)) (.int .i64 (n)) 27).more2 (.int .i64 (hiW a)) (.int .u64 (loW a)) 45).more7 (.int .i64 0) (.int .i64 0) (.int .i64 0) (.int .i64 0) (.int .i64 0) (.int .i64 0) (.int .i64 0) 27)
  simp only [World.size_alloc] at KB
  generalize (((w.alloc (.cells #[.int .i64 (y), .int .i64 (m), .int .i64 (d), .int .i64 (h), .int .i64 (i), .int .i64 (s), .int .i64 (n)] 27)).alloc (.cells #[.int .i64 (hiW a), .int .u64 (loW a)] 45)).alloc (.cells #[.int .i64 0, .int .i64 0, .int .i64 0, .int .i64 0, .int .i64 0, .int .i64 0, .int .i64 0] 27)) = w0 at *
  obtain ⟨_, q0a, q0b, q0c, q0d, q0e, q0f, q0g, _⟩ := (KB.tail.tail.head).seven
  go_wp2_with fail
  clear q0a q0b q0c q0d q0e q0f q0g
  refine (RI.out _ (L.mono KB.hb)).mono ?_
  rintro e w1 ⟨rfl, k⟩
  replace KB := KB.below k
  clear k
  obtain ⟨_, q0a, q0b, q0c, q0d, q0e, q0f, q0g, _⟩ := (KB.tail.tail.head).seven
  obtain ⟨_, q1a, q1b, _⟩ := (KB.tail.head).two
  go_wp2_with fail
  clear q0a q0b q0c q0d q0e q0f q0g q1a q1b
  refine (CA.out _ (L.mono KB.hb)).mono ?_
  rintro e w2 ⟨rfl, k⟩
  replace KB := KB.below k
  clear k
  go_upto_region 4 with (fail)
  have ig0 : w2.heap.size ≠ w.heap.size + 1 + 1 := Nat.ne_of_gt (KB.head).lt
  have og0 := Ne.symm ig0
  have ig1 : w2.heap.size ≠ w.heap.size + 1 := Nat.ne_of_gt (KB.tail.head).lt
  have og1 := Ne.symm ig1
  have ig2 : w2.heap.size ≠ w.heap.size := Nat.ne_of_gt (KB.tail.tail.head).lt
  have og2 := Ne.symm ig2
  have ggg : w.heap.size ≤ w2.heap.size := KB.hb.size
  replace KB := KB.more4 (.int .i64 (t0)) (.int .i64 (t1)) (.int .i64 (t2)) (.int .i64 (t3)) 25
  generalize w2.alloc (.cells #[.int .i64 (t0), .int .i64 (t1), .int .i64 (t2), .int .i64 (t3)] 25) = w3 at *
  generalize w2.heap.size = g at *
  obtain ⟨_, q0a, q0b, q0c, q0d, q0e, q0f, q0g, _⟩ := (KB.tail.tail.tail.head).seven
  obtain ⟨_, q1a, q1b, q1c, q1d, _⟩ := (KB.head).four
  go_wp2_with fail
  clear q0a q0b q0c q0d q0e q0f q0g q1a q1b q1c q1d
  refine (MV.out _ (L.mono KB.hb)).mono ?_
  rintro e w4 ⟨rfl, k⟩
  replace KB := KB.below k
  clear k
  obtain ⟨_, ra, rb, rc, rd, re, rf, rg, fa, fb, fc, fd, fe, ff, fg⟩ := (KB.tail.head).seven
  go_wp2
  obtain ⟨_, P0, P1, P2, P3, P4, P5, P6, _⟩ := ((KB.tail.head).self7 (.int .i64 (u0)) (.int .i64 (u1)) (.int .i64 (u2)) (.int .i64 (u3)) (.int .i64 (u4)) (.int .i64 (u5)) (.int .i64 (u6))).seven
  have HB := (((((((KB.hb.setCell (p := ⟨w.heap.size + 1 + 1, 0, none⟩) (by show _ ≤ w.heap.size + 1 + 1; omega) (.int .i64 (u0))).setCell (p := ⟨w.heap.size + 1 + 1, 1, none⟩) (by show _ ≤ w.heap.size + 1 + 1; omega) (.int .i64 (u1))).setCell (p := ⟨w.heap.size + 1 + 1, 2, none⟩) (by show _ ≤ w.heap.size + 1 + 1; omega) (.int .i64 (u2))).setCell (p := ⟨w.heap.size + 1 + 1, 3, none⟩) (by show _ ≤ w.heap.size + 1 + 1; omega) (.int .i64 (u3))).setCell (p := ⟨w.heap.size + 1 + 1, 4, none⟩) (by show _ ≤ w.heap.size + 1 + 1; omega) (.int .i64 (u4))).setCell (p := ⟨w.heap.size + 1 + 1, 5, none⟩) (by show _ ≤ w.heap.size + 1 + 1; omega) (.int .i64 (u5))).setCell (p := ⟨w.heap.size + 1 + 1, 6, none⟩) (by show _ ≤ w.heap.size + 1 + 1; omega) (.int .i64 (u6)))
  exact bodyPost_ret (v := .tuple #[.agg #[.int .i64 (u0), .int .i64 (u1), .int .i64 (u2), .int .i64 (u3), .int .i64 (u4), .int .i64 (u5), .int .i64 (u6)], .int .i64 (e)]) (by simp [results, Tryz.results32, go_sem, P0, P1, P2, P3, P4, P5, P6]) rfl ⟨rfl, HB⟩
set_option maxRecDepth 100000 in
set_option maxHeartbeats 8000000 in
theorem roundN_bad (y m d h i s n ic mo : Int) (RI : Hid (∀ W, Tabs W → Calls Tryz.prog 7 #[.agg #[.int .i64 (y), .int .i64 (m), .int .i64 (d), .int .i64 (h), .int .i64 (i), .int .i64 (s), .int .i64 (n)]] W (fun o w' => o = .returned (.bool false) ∧ Below W.heap.size W w'))) (w : World) (L : Tabs w) :
    Calls Tryz.prog 4 #[.agg #[.int .i64 (y), .int .i64 (m), .int .i64 (d), .int .i64 (h), .int .i64 (i), .int .i64 (s), .int .i64 (n)], .int .i64 ic, .int .i64 mo] w (RetXE w 0 0 0 0 0 0 0 1) := by
  go_enter Tryz.func4, Tryz.ntmps4
  go_upto_region 1 with (fail)
  have KB := (((BK.nil w).more7 (.int .i64 (y)) (.int .i64 (m)) (.int .i64 (d)) (.int .i64 (h)) (.int .i64 (i)) (.int .i64 (s)) (.int .i64 (n)) 27).more7 (.int .i64 0) (.int .i64 0) (.int .i64 0) (.int .i64 0) (.int .i64 0) (.int .i64 0) (.int .i64 0) 27)
  simp only [World.size_alloc] at KB
  generalize ((w.alloc (.cells #[.int .i64 (y), .int .i64 (m), .int .i64 (d), .int .i64 (h), .int .i64 (i), .int .i64 (s), .int .i64 (n)] 27)).alloc (.cells #[.int .i64 0, .int .i64 0, .int .i64 0, .int .i64 0, .int .i64 0, .int .i64 0, .int .i64 0] 27)) = w0 at *
  obtain ⟨_, q0a, q0b, q0c, q0d, q0e, q0f, q0g, _⟩ := (KB.tail.head).seven
  go_wp2_with fail
  clear q0a q0b q0c q0d q0e q0f q0g
  refine (RI.out _ (L.mono KB.hb)).mono ?_
  rintro e w1 ⟨rfl, k⟩
  replace KB := KB.below k
  clear k
  obtain ⟨_, ra, rb, rc, rd, re, rf, rg, fa, fb, fc, fd, fe, ff, fg⟩ := (KB.head).seven
  go_wp2
  obtain ⟨_, P0, P1, P2, P3, P4, P5, P6, _⟩ := ((KB.head).self7 (.int .i64 0) (.int .i64 0) (.int .i64 0) (.int .i64 0) (.int .i64 0) (.int .i64 0) (.int .i64 0)).seven
  have HB := (((((((KB.hb.setCell (p := ⟨w.heap.size + 1, 0, none⟩) (by show _ ≤ w.heap.size + 1; omega) (.int .i64 0)).setCell (p := ⟨w.heap.size + 1, 1, none⟩) (by show _ ≤ w.heap.size + 1; omega) (.int .i64 0)).setCell (p := ⟨w.heap.size + 1, 2, none⟩) (by show _ ≤ w.heap.size + 1; omega) (.int .i64 0)).setCell (p := ⟨w.heap.size + 1, 3, none⟩) (by show _ ≤ w.heap.size + 1; omega) (.int .i64 0)).setCell (p := ⟨w.heap.size + 1, 4, none⟩) (by show _ ≤ w.heap.size + 1; omega) (.int .i64 0)).setCell (p := ⟨w.heap.size + 1, 5, none⟩) (by show _ ≤ w.heap.size + 1; omega) (.int .i64 0)).setCell (p := ⟨w.heap.size + 1, 6, none⟩) (by show _ ≤ w.heap.size + 1; omega) (.int .i64 0))
  exact bodyPost_ret (v := .tuple #[.agg #[.int .i64 0, .int .i64 0, .int .i64 0, .int .i64 0, .int .i64 0, .int .i64 0, .int .i64 0], .int .i64 (1)]) (by simp [results, Tryz.results4, go_sem, P0, P1, P2, P3, P4, P5, P6]) rfl ⟨rfl, HB⟩
set_option maxRecDepth 100000 in
set_option maxHeartbeats 8000000 in
theorem roundN_no (y m d h i s n ic mo t0 t1 t2 t3 k : Int) (RI : Hid (∀ W, Tabs W → Calls Tryz.prog 7 #[.agg #[.int .i64 (y), .int .i64 (m), .int .i64 (d), .int .i64 (h), .int .i64 (i), .int .i64 (s), .int .i64 (n)]] W (fun o w' => o = .returned (.bool true) ∧ Below W.heap.size W w'))) (CR : Hid (∀ W, Tabs W → Calls Tryz.prog 8 #[.agg #[.int .i64 (h), .int .i64 (i), .int .i64 (s), .int .i64 (n)], .int .i64 ic, .int .i64 mo] W (fun o w' => o = .returned (.tuple #[.agg #[.int .i64 (t0), .int .i64 (t1), .int .i64 (t2), .int .i64 (t3)], .int .i64 (k), .int .i64 (1)]) ∧ Below W.heap.size W w'))) (w : World) (L : Tabs w) :
    Calls Tryz.prog 4 #[.agg #[.int .i64 (y), .int .i64 (m), .int .i64 (d), .int .i64 (h), .int .i64 (i), .int .i64 (s), .int .i64 (n)], .int .i64 ic, .int .i64 mo] w (RetXE w 0 0 0 0 0 0 0 1) := by
  go_enter Tryz.func4, Tryz.ntmps4
  go_upto_region 1 with (fail)
  have KB := (((BK.nil w).more7 (.int .i64 (y)) (.int .i64 (m)) (.int .i64 (d)) (.int .i64 (h)) (.int .i64 (i)) (.int .i64 (s)) (.int .i64 (n)) 27).more7 (.int .i64 0) (.int .i64 0) (.int .i64 0) (.int .i64 0) (.int .i64 0) (.int .i64 0) (.int .i64 0) 27)
  simp only [World.size_alloc] at KB
  generalize ((w.alloc (.cells #[.int .i64 (y), .int .i64 (m), .int .i64 (d), .int .i64 (h), .int .i64 (i), .int .i64 (s), .int .i64 (n)] 27)).alloc (.cells #[.int .i64 0, .int .i64 0, .int .i64 0, .int .i64 0, .int .i64 0, .int .i64 0, .int .i64 0] 27)) = w0 at *
  obtain ⟨_, q0a, q0b, q0c, q0d, q0e, q0f, q0g, _⟩ := (KB.tail.head).seven
  go_wp2_with fail
  clear q0a q0b q0c q0d q0e q0f q0g
  refine (RI.out _ (L.mono KB.hb)).mono ?_
  rintro e w1 ⟨rfl, k⟩
  replace KB := KB.below k
  clear k
  obtain ⟨_, q0a, q0b, q0c, q0d, q0e, q0f, q0g, _⟩ := (KB.tail.head).seven
  go_wp2_with fail
  clear q0a q0b q0c q0d q0e q0f q0g
  refine (CR.out _ (L.mono KB.hb)).mono ?_
  rintro e w2 ⟨rfl, k⟩
  replace KB := KB.below k
  clear k
  go_upto_region 4 with (fail)
  have ig0 : w2.heap.size ≠ w.heap.size + 1 := Nat.ne_of_gt (KB.head).lt
  have og0 := Ne.symm ig0
  have ig1 : w2.heap.size ≠ w.heap.size := Nat.ne_of_gt (KB.tail.head).lt
  have og1 := Ne.symm ig1
  have ggg : w.heap.size ≤ w2.heap.size := KB.hb.size
  replace KB := KB.more4 (.int .i64 (t0)) (.int .i64 (t1)) (.int .i64 (t2)) (.int .i64 (t3)) 25
  generalize w2.alloc (.cells #[.int .i64 (t0), .int .i64 (t1), .int .i64 (t2), .int .i64 (t3)] 25) = w3 at *
  generalize w2.heap.size = g at *
  obtain ⟨_, ra, rb, rc, rd, re, rf, rg, fa, fb, fc, fd, fe, ff, fg⟩ := (KB.tail.head).seven
  go_wp2
  obtain ⟨_, P0, P1, P2, P3, P4, P5, P6, _⟩ := ((KB.tail.head).self7 (.int .i64 0) (.int .i64 0) (.int .i64 0) (.int .i64 0) (.int .i64 0) (.int .i64 0) (.int .i64 0)).seven
  have HB := (((((((KB.hb.setCell (p := ⟨w.heap.size + 1, 0, none⟩) (by show _ ≤ w.heap.size + 1; omega) (.int .i64 0)).setCell (p := ⟨w.heap.size + 1, 1, none⟩) (by show _ ≤ w.heap.size + 1; omega) (.int .i64 0)).setCell (p := ⟨w.heap.size + 1, 2, none⟩) (by show _ ≤ w.heap.size + 1; omega) (.int .i64 0)).setCell (p := ⟨w.heap.size + 1, 3, none⟩) (by show _ ≤ w.heap.size + 1; omega) (.int .i64 0)).setCell (p := ⟨w.heap.size + 1, 4, none⟩) (by show _ ≤ w.heap.size + 1; omega) (.int .i64 0)).setCell (p := ⟨w.heap.size + 1, 5, none⟩) (by show _ ≤ w.heap.size + 1; omega) (.int .i64 0)).setCell (p := ⟨w.heap.size + 1, 6, none⟩) (by show _ ≤ w.heap.size + 1; omega) (.int .i64 0))
  exact bodyPost_ret (v := .tuple #[.agg #[.int .i64 0, .int .i64 0, .int .i64 0, .int .i64 0, .int .i64 0, .int .i64 0, .int .i64 0], .int .i64 (1)]) (by simp [results, Tryz.results4, go_sem, P0, P1, P2, P3, P4, P5, P6]) rfl ⟨rfl, HB⟩
set_option maxRecDepth 100000 in
set_option maxHeartbeats 8000000 in
theorem roundN_core (y m d h i s n ic mo t0 t1 t2 t3 k u0 u1 u2 u3 u4 u5 u6 e : Int) (RI : Hid (∀ W, Tabs W → Calls Tryz.prog 7 #[.agg #[.int .i64 (y), .int .i64 (m), .int .i64 (d), .int .i64 (h), .int .i64 (i), .int .i64 (s), .int .i64 (n)]] W (fun o w' => o = .returned (.bool true) ∧ Below W.heap.size W w'))) (CR : Hid (∀ W, Tabs W → Calls Tryz.prog 8 #[.agg #[.int .i64 (h), .int .i64 (i), .int .i64 (s), .int .i64 (n)], .int .i64 ic, .int .i64 mo] W (fun o w' => o = .returned (.tuple #[.agg #[.int .i64 (t0), .int .i64 (t1), .int .i64 (t2), .int .i64 (t3)], .int .i64 (k), .int .i64 (0)]) ∧ Below W.heap.size W w'))) (MV : Hid (∀ W, Tabs W → Calls Tryz.prog 9 #[.agg #[.int .i64 (y), .int .i64 (m), .int .i64 (d)], .int .i64 (k), .agg #[.int .i64 (t0), .int .i64 (t1), .int .i64 (t2), .int .i64 (t3)]] W (fun o w' => o = .returned (.tuple #[.agg #[.int .i64 (u0), .int .i64 (u1), .int .i64 (u2), .int .i64 (u3), .int .i64 (u4), .int .i64 (u5), .int .i64 (u6)], .int .i64 (e)]) ∧ Below W.heap.size W w'))) (w : World) (L : Tabs w) :
    Calls Tryz.prog 4 #[.agg #[.int .i64 (y), .int .i64 (m), .int .i64 (d), .int .i64 (h), .int .i64 (i), .int .i64 (s), .int .i64 (n)], .int .i64 ic, .int .i64 mo] w (RetXE w u0 u1 u2 u3 u4 u5 u6 e) := by
  go_enter Tryz.func4, Tryz.ntmps4
  go_upto_region 1 with (fail)
  have KB := (((BK.nil w).more7 (.int .i64 (y)) (.int .i64 (m)) (.int .i64 (d)) (.int .i64 (h)) (.int .i64 (i)) (.int .i64 (s)) (.int .i64 (n)) 27).more7 (.int .i64 0) (.int .i64 0) (.int .i64 0) (.int .i64 0) (.int .i64 0) (.int .i64 0) (.int .i64 0) 27)
  simp only [World.size_alloc] at KB
  generalize ((w.alloc (.cells #[.int .i64 (y), .int .i64 (m), .int .i64 (d), .int .i64 (h), .int .i64 (i), .int .i64 (s), .int .i64 (n)] 27)).alloc (.cells #[.int .i64 0, .int .i64 0, .int .i64 0, .int .i64 0, .int .i64 0, .int .i64 0, .int .i64 0] 27)) = w0 at *
  obtain ⟨_, q0a, q0b, q0c, q0d, q0e, q0f, q0g, _⟩ := (KB.tail.head).seven
  go_wp2_with fail
  clear q0a q0b q0c q0d q0e q0f q0g
  refine (RI.out _ (L.mono KB.hb)).mono ?_
  rintro e w1 ⟨rfl, k⟩
  replace KB := KB.below k
  clear k
  obtain ⟨_, q0a, q0b, q0c, q0d, q0e, q0f, q0g, _⟩ := (KB.tail.head).seven
  go_wp2_with fail
  clear q0a q0b q0c q0d q0e q0f q0g
  refine (CR.out _ (L.mono KB.hb)).mono ?_
  rintro e w2 ⟨rfl, k⟩
  replace KB := KB.below k
  clear k
  go_upto_region 4 with (fail)
  have ig0 : w2.heap.size ≠ w.heap.size + 1 := Nat.ne_of_gt (KB.head).lt
  have og0 := Ne.symm ig0
  have ig1 : w2.heap.size ≠ w.heap.size := Nat.ne_of_gt (KB.tail.head).lt
  have og1 := Ne.symm ig1
  have ggg : w.heap.size ≤ w2.heap.size := KB.hb.size
  replace KB := KB.more4 (.int .i64 (t0)) (.int .i64 (t1)) (.int .i64 (t2)) (.int .i64 (t3)) 25
  generalize w2.alloc (.cells #[.int .i64 (t0), .int .i64 (t1), .int .i64 (t2), .int .i64 (t3)] 25) = w3 at *
  generalize w2.heap.size = g at *
  obtain ⟨_, q0a, q0b, q0c, q0d, q0e, q0f, q0g, _⟩ := (KB.tail.tail.head).seven
  obtain ⟨_, q1a, q1b, q1c, q1d, _⟩ := (KB.head).four
  go_wp2_with fail
  clear q0a q0b q0c q0d q0e q0f q0g q1a q1b q1c q1d
  refine (MV.out _ (L.mono KB.hb)).mono ?_
  rintro e w4 ⟨rfl, k⟩
  replace KB := KB.below k
  clear k
  obtain ⟨_, ra, rb, rc, rd, re, rf, rg, fa, fb, fc, fd, fe, ff, fg⟩ := (KB.tail.head).seven
  go_wp2
  obtain ⟨_, P0, P1, P2, P3, P4, P5, P6, _⟩ := ((KB.tail.head).self7 (.int .i64 (u0)) (.int .i64 (u1)) (.int .i64 (u2)) (.int .i64 (u3)) (.int .i64 (u4)) (.int .i64 (u5)) (.int .i64 (u6))).seven
  have HB := (((((((KB.hb.setCell (p := ⟨w.heap.size + 1, 0, none⟩) (by show _ ≤ w.heap.size + 1; omega) (.int .i64 (u0))).setCell (p := ⟨w.heap.size + 1, 1, none⟩) (by show _ ≤ w.heap.size + 1; omega) (.int .i64 (u1))).setCell (p := ⟨w.heap.size + 1, 2, none⟩) (by show _ ≤ w.heap.size + 1; omega) (.int .i64 (u2))).setCell (p := ⟨w.heap.size + 1, 3, none⟩) (by show _ ≤ w.heap.size + 1; omega) (.int .i64 (u3))).setCell (p := ⟨w.heap.size + 1, 4, none⟩) (by show _ ≤ w.heap.size + 1; omega) (.int .i64 (u4))).setCell (p := ⟨w.heap.size + 1, 5, none⟩) (by show _ ≤ w.heap.size + 1; omega) (.int .i64 (u5))).setCell (p := ⟨w.heap.size + 1, 6, none⟩) (by show _ ≤ w.heap.size + 1; omega) (.int .i64 (u6)))
  exact bodyPost_ret (v := .tuple #[.agg #[.int .i64 (u0), .int .i64 (u1), .int .i64 (u2), .int .i64 (u3), .int .i64 (u4), .int .i64 (u5), .int .i64 (u6)], .int .i64 (e)]) (by simp [results, Tryz.results4, go_sem, P0, P1, P2, P3, P4, P5, P6]) rfl ⟨rfl, HB⟩
set_option maxRecDepth 100000 in
set_option maxHeartbeats 8000000 in
theorem movedN_date (y m d h i s n k u0 u1 u2 : Int) (AD : Hid (∀ W, Tabs W → Calls Tryz.prog 19 #[.agg #[.int .i64 (y), .int .i64 (m), .int .i64 (d)], .int .i64 k] W (fun o w' => o = .returned (.tuple #[.agg #[.int .i64 (u0), .int .i64 (u1), .int .i64 (u2)], .int .i64 (4)]) ∧ Below W.heap.size W w'))) (w : World) (L : Tabs w) :
    Calls Tryz.prog 9 #[.agg #[.int .i64 (y), .int .i64 (m), .int .i64 (d)], .int .i64 k, .agg #[.int .i64 (h), .int .i64 (i), .int .i64 (s), .int .i64 (n)]] w (RetXE w 0 0 0 0 0 0 0 4) := by
  go_enter Tryz.func9, Tryz.ntmps9
  go_upto_region 1 with (fail)
  have KB := ((((BK.nil w).more3 (.int .i64 (y)) (.int .i64 (m)) (.int .i64 (d)) 23).more4 (.int .i64 (h)) (.int .i64 (i)) (.int .i64 (s)) (.int .i64 (n)) 25).more7 (.int .i64 0) (.int .i64 0) (.int .i64 0) (.int .i64 0) (.int .i64 0) (.int .i64 0) (.int .i64 0) 27)
  simp only [World.size_alloc] at KB
  generalize (((w.alloc (.cells #[.int .i64 (y), .int .i64 (m), .int .i64 (d)] 23)).alloc (.cells #[.int .i64 (h), .int .i64 (i), .int .i64 (s), .int .i64 (n)] 25)).alloc (.cells #[.int .i64 0, .int .i64 0, .int .i64 0, .int .i64 0, .int .i64 0, .int .i64 0, .int .i64 0] 27)) = w0 at *
  obtain ⟨_, q0a, q0b, q0c, _⟩ := (KB.tail.tail.head).three
  go_wp2_with fail
  clear q0a q0b q0c
  refine (AD.out _ (L.mono KB.hb)).mono ?_
  rintro e w1 ⟨rfl, k⟩
  replace KB := KB.below k
  clear k
  go_upto_region 2 with (fail)
  have ig0 : w1.heap.size ≠ w.heap.size + 1 + 1 := Nat.ne_of_gt (KB.head).lt
  have og0 := Ne.symm ig0
  have ig1 : w1.heap.size ≠ w.heap.size + 1 := Nat.ne_of_gt (KB.tail.head).lt
  have og1 := Ne.symm ig1
  have ig2 : w1.heap.size ≠ w.heap.size := Nat.ne_of_gt (KB.tail.tail.head).lt
  have og2 := Ne.symm ig2
  have ggg : w.heap.size ≤ w1.heap.size := KB.hb.size
  replace KB := KB.more3 (.int .i64 (u0)) (.int .i64 (u1)) (.int .i64 (u2)) 23
  generalize w1.alloc (.cells #[.int .i64 (u0), .int .i64 (u1), .int .i64 (u2)] 23) = w2 at *
  generalize w1.heap.size = g at *
  obtain ⟨_, q0a, q0b, q0c, _⟩ := (KB.head).three
  obtain ⟨_, q1a, q1b, q1c, q1d, _⟩ := (KB.tail.tail.head).four
  go_upto_region 3 with (fail)
  clear q0a q0b q0c q1a q1b q1c q1d
  have iq0 : w2.heap.size ≠ g := Nat.ne_of_gt (KB.head).lt
  have oq0 := Ne.symm iq0
  have iq1 : w2.heap.size ≠ w.heap.size + 1 + 1 := Nat.ne_of_gt (KB.tail.head).lt
  have oq1 := Ne.symm iq1
  have iq2 : w2.heap.size ≠ w.heap.size + 1 := Nat.ne_of_gt (KB.tail.tail.head).lt
  have oq2 := Ne.symm iq2
  have iq3 : w2.heap.size ≠ w.heap.size := Nat.ne_of_gt (KB.tail.tail.tail.head).lt
  have oq3 := Ne.symm iq3
  have ggq : w.heap.size ≤ w2.heap.size := KB.hb.size
  replace KB := KB.more7 (.int .i64 (u0)) (.int .i64 (u1)) (.int .i64 (u2)) (.int .i64 (h)) (.int .i64 (i)) (.int .i64 (s)) (.int .i64 (n)) 27
  generalize w2.alloc (.cells #[.int .i64 (u0), .int .i64 (u1), .int .i64 (u2), .int .i64 (h), .int .i64 (i), .int .i64 (s), .int .i64 (n)] 27) = w3 at *
  generalize w2.heap.size = q at *
  obtain ⟨_, ra, rb, rc, rd, re, rf, rg, fa, fb, fc, fd, fe, ff, fg⟩ := (KB.tail.tail.head).seven
  go_wp2
  obtain ⟨_, P0, P1, P2, P3, P4, P5, P6, _⟩ := ((KB.tail.tail.head).self7 (.int .i64 0) (.int .i64 0) (.int .i64 0) (.int .i64 0) (.int .i64 0) (.int .i64 0) (.int .i64 0)).seven
  have HB := (((((((KB.hb.setCell (p := ⟨w.heap.size + 1 + 1, 0, none⟩) (by show _ ≤ w.heap.size + 1 + 1; omega) (.int .i64 0)).setCell (p := ⟨w.heap.size + 1 + 1, 1, none⟩) (by show _ ≤ w.heap.size + 1 + 1; omega) (.int .i64 0)).setCell (p := ⟨w.heap.size + 1 + 1, 2, none⟩) (by show _ ≤ w.heap.size + 1 + 1; omega) (.int .i64 0)).setCell (p := ⟨w.heap.size + 1 + 1, 3, none⟩) (by show _ ≤ w.heap.size + 1 + 1; omega) (.int .i64 0)).setCell (p := ⟨w.heap.size + 1 + 1, 4, none⟩) (by show _ ≤ w.heap.size + 1 + 1; omega) (.int .i64 0)).setCell (p := ⟨w.heap.size + 1 + 1, 5, none⟩) (by show _ ≤ w.heap.size + 1 + 1; omega) (.int .i64 0)).setCell (p := ⟨w.heap.size + 1 + 1, 6, none⟩) (by show _ ≤ w.heap.size + 1 + 1; omega) (.int .i64 0))
  exact bodyPost_ret (v := .tuple #[.agg #[.int .i64 0, .int .i64 0, .int .i64 0, .int .i64 0, .int .i64 0, .int .i64 0, .int .i64 0], .int .i64 (4)]) (by simp [results, Tryz.results9, go_sem, P0, P1, P2, P3, P4, P5, P6]) rfl ⟨rfl, HB⟩
set_option maxRecDepth 100000 in
set_option maxHeartbeats 8000000 in
theorem movedN_no (y m d h i s n k u0 u1 u2 : Int) (AD : Hid (∀ W, Tabs W → Calls Tryz.prog 19 #[.agg #[.int .i64 (y), .int .i64 (m), .int .i64 (d)], .int .i64 k] W (fun o w' => o = .returned (.tuple #[.agg #[.int .i64 (u0), .int .i64 (u1), .int .i64 (u2)], .int .i64 (0)]) ∧ Below W.heap.size W w'))) (RI : Hid (∀ W, Tabs W → Calls Tryz.prog 7 #[.agg #[.int .i64 (u0), .int .i64 (u1), .int .i64 (u2), .int .i64 (h), .int .i64 (i), .int .i64 (s), .int .i64 (n)]] W (fun o w' => o = .returned (.bool false) ∧ Below W.heap.size W w'))) (w : World) (L : Tabs w) :
    Calls Tryz.prog 9 #[.agg #[.int .i64 (y), .int .i64 (m), .int .i64 (d)], .int .i64 k, .agg #[.int .i64 (h), .int .i64 (i), .int .i64 (s), .int .i64 (n)]] w (RetXE w 0 0 0 0 0 0 0 4) := by
  go_enter Tryz.func9, Tryz.ntmps9
  go_upto_region 1 with (fail)
  have KB := ((((BK.nil w).more3 (.int .i64 (y)) (.int .i64 (m)) (.int .i64 (d)) 23).more4 (.int .i64 (h)) (.int .i64 (i)) (.int .i64 (s)) (.int .i64 (n)) 25).more7 (.int .i64 0) (.int .i64 0) (.int .i64 0) (.int .i64 0) (.int .i64 0) (.int .i64 0) (.int .i64 0) 27)
  simp only [World.size_alloc] at KB
  generalize (((w.alloc (.cells #[.int .i64 (y), .int .i64 (m), .int .i64 (d)] 23)).alloc (.cells #[.int .i64 (h), .int .i64 (i), .int .i64 (s), .int .i64 (n)] 25)).alloc (.cells #[.int .i64 0, .int .i64 0, .int .i64 0, .int .i64 0, .int .i64 0, .int .i64 0, .int .i64 0] 27)) = w0 at *
  obtain ⟨_, q0a, q0b, q0c, _⟩ := (KB.tail.tail.head).three
  go_wp2_with fail
  clear q0a q0b q0c
  refine (AD.out _ (L.mono KB.hb)).mono ?_
  rintro e w1 ⟨rfl, k⟩
  replace KB := KB.below k
  clear k
  go_upto_region 2 with (fail)
  have ig0 : w1.heap.size ≠ w.heap.size + 1 + 1 := Nat.ne_of_gt (KB.head).lt
  have og0 := Ne.symm ig0
  have ig1 : w1.heap.size ≠ w.heap.size + 1 := Nat.ne_of_gt (KB.tail.head).lt
  have og1 := Ne.symm ig1
  have ig2 : w1.heap.size ≠ w.heap.size := Nat.ne_of_gt (KB.tail.tail.head).lt
  have og2 := Ne.symm ig2
  have ggg : w.heap.size ≤ w1.heap.size := KB.hb.size
  replace KB := KB.more3 (.int .i64 (u0)) (.int .i64 (u1)) (.int .i64 (u2)) 23
  generalize w1.alloc (.cells #[.int .i64 (u0), .int .i64 (u1), .int .i64 (u2)] 23) = w2 at *
  generalize w1.heap.size = g at *
  obtain ⟨_, q0a, q0b, q0c, _⟩ := (KB.head).three
  obtain ⟨_, q1a, q1b, q1c, q1d, _⟩ := (KB.tail.tail.head).four
  go_upto_region 3 with (fail)
  clear q0a q0b q0c q1a q1b q1c q1d
  have iq0 : w2.heap.size ≠ g := Nat.ne_of_gt (KB.head).lt
  have oq0 := Ne.symm iq0
  have iq1 : w2.heap.size ≠ w.heap.size + 1 + 1 := Nat.ne_of_gt (KB.tail.head).lt
  have oq1 := Ne.symm iq1
  have iq2 : w2.heap.size ≠ w.heap.size + 1 := Nat.ne_of_gt (KB.tail.tail.head).lt
  have oq2 := Ne.symm iq2
  have iq3 : w2.heap.size ≠ w.heap.size := Nat.ne_of_gt (KB.tail.tail.tail.head).lt
  have oq3 := Ne.symm iq3
  have ggq : w.heap.size ≤ w2.heap.size := KB.hb.size
  replace KB := KB.more7 (.int .i64 (u0)) (.int .i64 (u1)) (.int .i64 (u2)) (.int .i64 (h)) (.int .i64 (i)) (.int .i64 (s)) (.int .i64 (n)) 27
  generalize w2.alloc (.cells #[.int .i64 (u0), .int .i64 (u1), .int .i64 (u2), .int .i64 (h), .int .i64 (i), .int .i64 (s), .int .i64 (n)] 27) = w3 at *
  generalize w2.heap.size = q at *
  obtain ⟨_, q0a, q0b, q0c, q0d, q0e, q0f, q0g, _⟩ := (KB.head).seven
  go_wp2_with fail
  clear q0a q0b q0c q0d q0e q0f q0g
  refine (RI.out _ (L.mono KB.hb)).mono ?_
  rintro e w4 ⟨rfl, k⟩
  replace KB := KB.below k
  clear k
  obtain ⟨_, ra, rb, rc, rd, re, rf, rg, fa, fb, fc, fd, fe, ff, fg⟩ := (KB.tail.tail.head).seven
  go_wp2
  obtain ⟨_, P0, P1, P2, P3, P4, P5, P6, _⟩ := ((KB.tail.tail.head).self7 (.int .i64 0) (.int .i64 0) (.int .i64 0) (.int .i64 0) (.int .i64 0) (.int .i64 0) (.int .i64 0)).seven
  have HB := (((((((KB.hb.setCell (p := ⟨w.heap.size + 1 + 1, 0, none⟩) (by show _ ≤ w.heap.size + 1 + 1; omega) (.int .i64 0)).setCell (p := ⟨w.heap.size + 1 + 1, 1, none⟩) (by show _ ≤ w.heap.size + 1 + 1; omega) (.int .i64 0)).setCell (p := ⟨w.heap.size + 1 + 1, 2, none⟩) (by show _ ≤ w.heap.size + 1 + 1; omega) (.int .i64 0)).setCell (p := ⟨w.heap.size + 1 + 1, 3, none⟩) (by show _ ≤ w.heap.size + 1 + 1; omega) (.int .i64 0)).setCell (p := ⟨w.heap.size + 1 + 1, 4, none⟩) (by show _ ≤ w.heap.size + 1 + 1; omega) (.int .i64 0)).setCell (p := ⟨w.heap.size + 1 + 1, 5, none⟩) (by show _ ≤ w.heap.size + 1 + 1; omega) (.int .i64 0)).setCell (p := ⟨w.heap.size + 1 + 1, 6, none⟩) (by show _ ≤ w.heap.size + 1 + 1; omega) (.int .i64 0))
  exact bodyPost_ret (v := .tuple #[.agg #[.int .i64 0, .int .i64 0, .int .i64 0, .int .i64 0, .int .i64 0, .int .i64 0, .int .i64 0], .int .i64 (4)]) (by simp [results, Tryz.results9, go_sem, P0, P1, P2, P3, P4, P5, P6]) rfl ⟨rfl, HB⟩
set_option maxRecDepth 100000 in
set_option maxHeartbeats 8000000 in
theorem movedN_yes (y m d h i s n k u0 u1 u2 : Int) (AD : Hid (∀ W, Tabs W → Calls Tryz.prog 19 #[.agg #[.int .i64 (y), .int .i64 (m), .int .i64 (d)], .int .i64 k] W (fun o w' => o = .returned (.tuple #[.agg #[.int .i64 (u0), .int .i64 (u1), .int .i64 (u2)], .int .i64 (0)]) ∧ Below W.heap.size W w'))) (RI : Hid (∀ W, Tabs W → Calls Tryz.prog 7 #[.agg #[.int .i64 (u0), .int .i64 (u1), .int .i64 (u2), .int .i64 (h), .int .i64 (i), .int .i64 (s), .int .i64 (n)]] W (fun o w' => o = .returned (.bool true) ∧ Below W.heap.size W w'))) (w : World) (L : Tabs w) :
    Calls Tryz.prog 9 #[.agg #[.int .i64 (y), .int .i64 (m), .int .i64 (d)], .int .i64 k, .agg #[.int .i64 (h), .int .i64 (i), .int .i64 (s), .int .i64 (n)]] w (RetXE w u0 u1 u2 h i s n 0) := by
  go_enter Tryz.func9, Tryz.ntmps9
  go_upto_region 1 with (fail)
  have KB := ((((BK.nil w).more3 (.int .i64 (y)) (.int .i64 (m)) (.int .i64 (d)) 23).more4 (.int .i64 (h)) (.int .i64 (i)) (.int .i64 (s)) (.int .i64 (n)) 25).more7 (.int .i64 0) (.int .i64 0) (.int .i64 0) (.int .i64 0) (.int .i64 0) (.int .i64 0) (.int .i64 0) 27)
  simp only [World.size_alloc] at KB
  generalize (((w.alloc (.cells #[.int .i64 (y), .int .i64 (m), .int .i64 (d)] 23)).alloc (.cells #[.int .i64 (h), .int .i64 (i), .int .i64 (s), .int .i64 (n)] 25)).alloc (.cells #[.int .i64 0, .int .i64 0, .int .i64 0, .int .i64 0, .int .i64 0, .int .i64 0, .int .i64 0] 27)) = w0 at *
  obtain ⟨_, q0a, q0b, q0c, _⟩ := (KB.tail.tail.head).three
  go_wp2_with fail
  clear q0a q0b q0c
  refine (AD.out _ (L.mono KB.hb)).mono ?_
  rintro e w1 ⟨rfl, k⟩
  replace KB := KB.below k
  clear k
  go_upto_region 2 with (fail)
  have ig0 : w1.heap.size ≠ w.heap.size + 1 + 1 := Nat.ne_of_gt (KB.head).lt
  have og0 := Ne.symm ig0
  have ig1 : w1.heap.size ≠ w.heap.size + 1 := Nat.ne_of_gt (KB.tail.head).lt
  have og1 := Ne.symm ig1
  have ig2 : w1.heap.size ≠ w.heap.size := Nat.ne_of_gt (KB.tail.tail.head).lt
  have og2 := Ne.symm ig2
  have ggg : w.heap.size ≤ w1.heap.size := KB.hb.size
  replace KB := KB.more3 (.int .i64 (u0)) (.int .i64 (u1)) (.int .i64 (u2)) 23
  generalize w1.alloc (.cells #[.int .i64 (u0), .int .i64 (u1), .int .i64 (u2)] 23) = w2 at *
  generalize w1.heap.size = g at *
  obtain ⟨_, q0a, q0b, q0c, _⟩ := (KB.head).three
  obtain ⟨_, q1a, q1b, q1c, q1d, _⟩ := (KB.tail.tail.head).four
  go_upto_region 3 with (fail)
  clear q0a q0b q0c q1a q1b q1c q1d
  have iq0 : w2.heap.size ≠ g := Nat.ne_of_gt (KB.head).lt
  have oq0 := Ne.symm iq0
  have iq1 : w2.heap.size ≠ w.heap.size + 1 + 1 := Nat.ne_of_gt (KB.tail.head).lt
  have oq1 := Ne.symm iq1
  have iq2 : w2.heap.size ≠ w.heap.size + 1 := Nat.ne_of_gt (KB.tail.tail.head).lt
  have oq2 := Ne.symm iq2
  have iq3 : w2.heap.size ≠ w.heap.size := Nat.ne_of_gt (KB.tail.tail.tail.head).lt
  have oq3 := Ne.symm iq3
  have ggq : w.heap.size ≤ w2.heap.size := KB.hb.size
  replace KB := KB.more7 (.int .i64 (u0)) (.int .i64 (u1)) (.int .i64 (u2)) (.int .i64 (h)) (.int .i64 (i)) (.int .i64 (s)) (.int .i64 (n)) 27
  generalize w2.alloc (.cells #[.int .i64 (u0), .int .i64 (u1), .int .i64 (u2), .int .i64 (h), .int .i64 (i), .int .i64 (s), .int .i64 (n)] 27) = w3 at *
  generalize w2.heap.size = q at *
  obtain ⟨_, q0a, q0b, q0c, q0d, q0e, q0f, q0g, _⟩ := (KB.head).seven
  go_wp2_with fail
  clear q0a q0b q0c q0d q0e q0f q0g
  refine (RI.out _ (L.mono KB.hb)).mono ?_
  rintro e w4 ⟨rfl, k⟩
  replace KB := KB.below k
  clear k
  obtain ⟨_, j0a, j0b, j0c, j0d, j0e, j0f, j0g, _⟩ := (KB.head).seven
  obtain ⟨_, ra, rb, rc, rd, re, rf, rg, fa, fb, fc, fd, fe, ff, fg⟩ := (KB.tail.tail.head).seven
  go_wp2
  obtain ⟨_, P0, P1, P2, P3, P4, P5, P6, _⟩ := ((KB.tail.tail.head).self7 (.int .i64 (u0)) (.int .i64 (u1)) (.int .i64 (u2)) (.int .i64 (h)) (.int .i64 (i)) (.int .i64 (s)) (.int .i64 (n))).seven
  have HB := (((((((KB.hb.setCell (p := ⟨w.heap.size + 1 + 1, 0, none⟩) (by show _ ≤ w.heap.size + 1 + 1; omega) (.int .i64 (u0))).setCell (p := ⟨w.heap.size + 1 + 1, 1, none⟩) (by show _ ≤ w.heap.size + 1 + 1; omega) (.int .i64 (u1))).setCell (p := ⟨w.heap.size + 1 + 1, 2, none⟩) (by show _ ≤ w.heap.size + 1 + 1; omega) (.int .i64 (u2))).setCell (p := ⟨w.heap.size + 1 + 1, 3, none⟩) (by show _ ≤ w.heap.size + 1 + 1; omega) (.int .i64 (h))).setCell (p := ⟨w.heap.size + 1 + 1, 4, none⟩) (by show _ ≤ w.heap.size + 1 + 1; omega) (.int .i64 (i))).setCell (p := ⟨w.heap.size + 1 + 1, 5, none⟩) (by show _ ≤ w.heap.size + 1 + 1; omega) (.int .i64 (s))).setCell (p := ⟨w.heap.size + 1 + 1, 6, none⟩) (by show _ ≤ w.heap.size + 1 + 1; omega) (.int .i64 (n)))
  exact bodyPost_ret (v := .tuple #[.agg #[.int .i64 (u0), .int .i64 (u1), .int .i64 (u2), .int .i64 (h), .int .i64 (i), .int .i64 (s), .int .i64 (n)], .int .i64 (0)]) (by simp [results, Tryz.results9, go_sem, P0, P1, P2, P3, P4, P5, P6]) rfl ⟨rfl, HB⟩
/-- the first of two that isn't 0 -/
def or2 (a b : Int) : Int := if a = 0 then b else a
end Go.Proofs.YtlidicnbmfkghaaGreatDoor
