/- Package plain over what its calls answer: date-times' numbers, nanoseconds added, what lies between, date-times rounded, how two stand to each other. -/
import Derived.Test.YtlidicnbmfkghaaDoorPtab
import Derived.Test.YtlidicnbmfkghaaDoorGzon
import Derived.Test.YtlidicnbmfkghaaDoorPspec
import Derived.Deep.RegionHeld3
namespace Go.Proofs.YtlidicnbmfkghaaDoor
open Go.RowKit

set_option maxRecDepth 100000 in
set_option maxHeartbeats 8000000 in
theorem rightN (y m d h i s n a0 a1 : Int) (b : Bool) (NA : Hid (∀ W, Tabs W → Calls Tryd.prog 8 #[.agg #[.int .i64 (y), .int .i64 (m), .int .i64 (d), .int .i64 (h), .int .i64 (i), .int .i64 (s), .int .i64 (n)]] W (fun o w' => o = .returned (.tuple #[.agg #[.int .i64 (a0), .int .u64 (a1)], .bool b]) ∧ Below W.heap.size W w'))) (w : World) (L : Tabs w) :
    Calls Tryd.prog 16 #[.agg #[.int .i64 (y), .int .i64 (m), .int .i64 (d), .int .i64 (h), .int .i64 (i), .int .i64 (s), .int .i64 (n)]] w (RetV w (.bool b)) := by
  go_enter Tryd.func16, Tryd.ntmps16
  go_upto_region 1 with (fail)
  have KB := ((BK.nil w).more7 (.int .i64 (y)) (.int .i64 (m)) (.int .i64 (d)) (.int .i64 (h)) (.int .i64 (i)) (.int .i64 (s)) (.int .i64 (n)) 27)
  generalize (w.alloc (.cells #[.int .i64 (y), .int .i64 (m), .int .i64 (d), .int .i64 (h), .int .i64 (i), .int .i64 (s), .int .i64 (n)] 27)) = w0 at *
  obtain ⟨_, q0a, q0b, q0c, q0d, q0e, q0f, q0g, _⟩ := (KB.head).seven
  go_wp2_with fail
  clear q0a q0b q0c q0d q0e q0f q0g
  refine (NA.out _ (L.mono KB.hb)).mono ?_
  rintro e w1 ⟨rfl, k⟩
  replace KB := KB.below k
  clear k
  go_upto_region 2 with (fail)
  have ig0 : w1.heap.size ≠ w.heap.size := Nat.ne_of_gt (KB.head).lt
  have og0 := Ne.symm ig0
  have ggg : w.heap.size ≤ w1.heap.size := KB.hb.size
  replace KB := KB.more2 (.int .i64 (a0)) (.int .u64 (a1)) 30
  generalize w1.alloc (.cells #[.int .i64 (a0), .int .u64 (a1)] 30) = w2 at *
  generalize w1.heap.size = g at *
  have HB := KB.hb
  go_wp2
  go_ret
  exact ⟨rfl, HB⟩
set_option maxRecDepth 100000 in
set_option maxHeartbeats 8000000 in
theorem nanosN_d (y m d h i s n N r : Int) (b : Bool) (DA : Hid (∀ W, Tabs W → Calls Tryd.prog 28 #[.agg #[.int .i64 (y), .int .i64 (m), .int .i64 (d)]] W (fun o w' => o = .returned (.tuple #[.int .i64 (N), .bool false]) ∧ Below W.heap.size W w'))) (NA : Hid (∀ W, Tabs W → Calls Tryd.prog 29 #[.agg #[.int .i64 (h), .int .i64 (i), .int .i64 (s), .int .i64 (n)]] W (fun o w' => o = .returned (.tuple #[.int .i64 (r), .bool b]) ∧ Below W.heap.size W w'))) (w : World) (L : Tabs w) :
    Calls Tryd.prog 8 #[.agg #[.int .i64 (y), .int .i64 (m), .int .i64 (d), .int .i64 (h), .int .i64 (i), .int .i64 (s), .int .i64 (n)]] w (RetWB w 0 0 false) := by
  go_enter Tryd.func8, Tryd.ntmps8
  go_upto_region 1 with (fail)
  have KB := (((BK.nil w).more7 (.int .i64 (y)) (.int .i64 (m)) (.int .i64 (d)) (.int .i64 (h)) (.int .i64 (i)) (.int .i64 (s)) (.int .i64 (n)) 27).more2 (.int .i64 0) (.int .u64 0) 30)
  simp only [World.size_alloc] at KB
  generalize ((w.alloc (.cells #[.int .i64 (y), .int .i64 (m), .int .i64 (d), .int .i64 (h), .int .i64 (i), .int .i64 (s), .int .i64 (n)] 27)).alloc (.cells #[.int .i64 0, .int .u64 0] 30)) = w0 at *
  obtain ⟨_, q0a, q0b, q0c, q0d, q0e, q0f, q0g, _⟩ := (KB.tail.head).seven
  go_wp2_with fail
  clear q0a q0b q0c q0d q0e q0f q0g
  refine (DA.out _ (L.mono KB.hb)).mono ?_
  rintro e w1 ⟨rfl, k⟩
  replace KB := KB.below k
  clear k
  obtain ⟨_, q0a, q0b, q0c, q0d, q0e, q0f, q0g, _⟩ := (KB.tail.head).seven
  go_wp2_with fail
  clear q0a q0b q0c q0d q0e q0f q0g
  refine (NA.out _ (L.mono KB.hb)).mono ?_
  rintro e w2 ⟨rfl, k⟩
  replace KB := KB.below k
  clear k
  obtain ⟨_, ra, rb, fa, fb⟩ := (KB.head).two
  go_wp2
  obtain ⟨_, P0, P1, _⟩ := ((KB.head).self2 (.int .i64 0) (.int .u64 0)).two
  have HB := ((KB.hb.setCell (p := ⟨w.heap.size + 1, 0, none⟩) (by show _ ≤ w.heap.size + 1; omega) (.int .i64 0)).setCell (p := ⟨w.heap.size + 1, 1, none⟩) (by show _ ≤ w.heap.size + 1; omega) (.int .u64 0))
  exact bodyPost_ret (v := .tuple #[.agg #[.int .i64 0, .int .u64 0], .bool false]) (by simp [results, Tryd.results8, go_sem, P0, P1]) rfl ⟨rfl, HB⟩
set_option maxRecDepth 100000 in
set_option maxHeartbeats 8000000 in
theorem nanosN_t (y m d h i s n N r : Int) (DA : Hid (∀ W, Tabs W → Calls Tryd.prog 28 #[.agg #[.int .i64 (y), .int .i64 (m), .int .i64 (d)]] W (fun o w' => o = .returned (.tuple #[.int .i64 (N), .bool true]) ∧ Below W.heap.size W w'))) (NA : Hid (∀ W, Tabs W → Calls Tryd.prog 29 #[.agg #[.int .i64 (h), .int .i64 (i), .int .i64 (s), .int .i64 (n)]] W (fun o w' => o = .returned (.tuple #[.int .i64 (r), .bool false]) ∧ Below W.heap.size W w'))) (w : World) (L : Tabs w) :
    Calls Tryd.prog 8 #[.agg #[.int .i64 (y), .int .i64 (m), .int .i64 (d), .int .i64 (h), .int .i64 (i), .int .i64 (s), .int .i64 (n)]] w (RetWB w 0 0 false) := by
  go_enter Tryd.func8, Tryd.ntmps8
  go_upto_region 1 with (fail)
  have KB := (((BK.nil w).more7 (.int .i64 (y)) (.int .i64 (m)) (.int .i64 (d)) (.int .i64 (h)) (.int .i64 (i)) (.int .i64 (s)) (.int .i64 (n)) 27).more2 (.int .i64 0) (.int .u64 0) 30)
  simp only [World.size_alloc] at KB
  generalize ((w.alloc (.cells #[.int .i64 (y), .int .i64 (m), .int .i64 (d), .int .i64 (h), .int .i64 (i), .int .i64 (s), .int .i64 (n)] 27)).alloc (.cells #[.int .i64 0, .int .u64 0] 30)) = w0 at *
  obtain ⟨_, q0a, q0b, q0c, q0d, q0e, q0f, q0g, _⟩ := (KB.tail.head).seven
  go_wp2_with fail
  clear q0a q0b q0c q0d q0e q0f q0g
  refine (DA.out _ (L.mono KB.hb)).mono ?_
  rintro e w1 ⟨rfl, k⟩
  replace KB := KB.below k
  clear k
  obtain ⟨_, q0a, q0b, q0c, q0d, q0e, q0f, q0g, _⟩ := (KB.tail.head).seven
  go_wp2_with fail
  clear q0a q0b q0c q0d q0e q0f q0g
  refine (NA.out _ (L.mono KB.hb)).mono ?_
  rintro e w2 ⟨rfl, k⟩
  replace KB := KB.below k
  clear k
  obtain ⟨_, ra, rb, fa, fb⟩ := (KB.head).two
  go_wp2
  obtain ⟨_, P0, P1, _⟩ := ((KB.head).self2 (.int .i64 0) (.int .u64 0)).two
  have HB := ((KB.hb.setCell (p := ⟨w.heap.size + 1, 0, none⟩) (by show _ ≤ w.heap.size + 1; omega) (.int .i64 0)).setCell (p := ⟨w.heap.size + 1, 1, none⟩) (by show _ ≤ w.heap.size + 1; omega) (.int .u64 0))
  exact bodyPost_ret (v := .tuple #[.agg #[.int .i64 0, .int .u64 0], .bool false]) (by simp [results, Tryd.results8, go_sem, P0, P1]) rfl ⟨rfl, HB⟩
set_option maxRecDepth 100000 in
set_option maxHeartbeats 8000000 in
theorem nanosN_first (y m d h i s n : Int) (DA : Hid (∀ W, Tabs W → Calls Tryd.prog 28 #[.agg #[.int .i64 (y), .int .i64 (m), .int .i64 (d)]] W (fun o w' => o = .returned (.tuple #[.int .i64 (-100000001), .bool true]) ∧ Below W.heap.size W w'))) (NA : Hid (∀ W, Tabs W → Calls Tryd.prog 29 #[.agg #[.int .i64 (h), .int .i64 (i), .int .i64 (s), .int .i64 (n)]] W (fun o w' => o = .returned (.tuple #[.int .i64 (0), .bool true]) ∧ Below W.heap.size W w'))) (w : World) (L : Tabs w) :
    Calls Tryd.prog 8 #[.agg #[.int .i64 (y), .int .i64 (m), .int .i64 (d), .int .i64 (h), .int .i64 (i), .int .i64 (s), .int .i64 (n)]] w (RetWB w 0 0 false) := by
  go_enter Tryd.func8, Tryd.ntmps8
  go_upto_region 1 with (fail)
  have KB := (((BK.nil w).more7 (.int .i64 (y)) (.int .i64 (m)) (.int .i64 (d)) (.int .i64 (h)) (.int .i64 (i)) (.int .i64 (s)) (.int .i64 (n)) 27).more2 (.int .i64 0) (.int .u64 0) 30)
  simp only [World.size_alloc] at KB
  generalize ((w.alloc (.cells #[.int .i64 (y), .int .i64 (m), .int .i64 (d), .int .i64 (h), .int .i64 (i), .int .i64 (s), .int .i64 (n)] 27)).alloc (.cells #[.int .i64 0, .int .u64 0] 30)) = w0 at *
  obtain ⟨_, q0a, q0b, q0c, q0d, q0e, q0f, q0g, _⟩ := (KB.tail.head).seven
  go_wp2_with fail
  clear q0a q0b q0c q0d q0e q0f q0g
  refine (DA.out _ (L.mono KB.hb)).mono ?_
  rintro e w1 ⟨rfl, k⟩
  replace KB := KB.below k
  clear k
  obtain ⟨_, q0a, q0b, q0c, q0d, q0e, q0f, q0g, _⟩ := (KB.tail.head).seven
  go_wp2_with fail
  clear q0a q0b q0c q0d q0e q0f q0g
  refine (NA.out _ (L.mono KB.hb)).mono ?_
  rintro e w2 ⟨rfl, k⟩
  replace KB := KB.below k
  clear k
  obtain ⟨_, ra, rb, fa, fb⟩ := (KB.head).two
  go_wp2
  obtain ⟨_, P0, P1, _⟩ := ((KB.head).self2 (.int .i64 0) (.int .u64 0)).two
  have HB := ((KB.hb.setCell (p := ⟨w.heap.size + 1, 0, none⟩) (by show _ ≤ w.heap.size + 1; omega) (.int .i64 0)).setCell (p := ⟨w.heap.size + 1, 1, none⟩) (by show _ ≤ w.heap.size + 1; omega) (.int .u64 0))
  exact bodyPost_ret (v := .tuple #[.agg #[.int .i64 0, .int .u64 0], .bool false]) (by simp [results, Tryd.results8, go_sem, P0, P1]) rfl ⟨rfl, HB⟩
set_option maxRecDepth 100000 in
set_option maxHeartbeats 8000000 in
theorem nanosN_day (y m d h i s n N r m0 m1 o0 o1 s0 s1 e : Int) (h0 : ¬ N = -100000001) (DA : Hid (∀ W, Tabs W → Calls Tryd.prog 28 #[.agg #[.int .i64 (y), .int .i64 (m), .int .i64 (d)]] W (fun o w' => o = .returned (.tuple #[.int .i64 (N), .bool true]) ∧ Below W.heap.size W w'))) (NA : Hid (∀ W, Tabs W → Calls Tryd.prog 29 #[.agg #[.int .i64 (h), .int .i64 (i), .int .i64 (s), .int .i64 (n)]] W (fun o w' => o = .returned (.tuple #[.int .i64 (r), .bool true]) ∧ Below W.heap.size W w'))) (MU : Hid (∀ W, Tabs W → Calls Tryd.prog 31 #[.int .i64 (N), .int .i64 86400000000000] W (fun o w' => o = .returned (.agg #[.int .i64 (m0), .int .u64 (m1)]) ∧ Below W.heap.size W w'))) (OF : Hid (∀ W, Tabs W → Calls Tryd.prog 27 #[.int .i64 (r)] W (fun o w' => o = .returned (.agg #[.int .i64 (o0), .int .u64 (o1)]) ∧ Below W.heap.size W w'))) (AD : Hid (∀ W, Tabs W → Calls Tryd.prog 30 #[.agg #[.int .i64 (m0), .int .u64 (m1)], .agg #[.int .i64 (o0), .int .u64 (o1)]] W (fun o w' => o = .returned (.tuple #[.agg #[.int .i64 (s0), .int .u64 (s1)], .int .i64 (e)]) ∧ Below W.heap.size W w'))) (w : World) (L : Tabs w) :
    Calls Tryd.prog 8 #[.agg #[.int .i64 (y), .int .i64 (m), .int .i64 (d), .int .i64 (h), .int .i64 (i), .int .i64 (s), .int .i64 (n)]] w (RetWB w s0 s1 true) := by
  go_enter Tryd.func8, Tryd.ntmps8
  go_upto_region 1 with (fail)
  have KB := (((BK.nil w).more7 (.int .i64 (y)) (.int .i64 (m)) (.int .i64 (d)) (.int .i64 (h)) (.int .i64 (i)) (.int .i64 (s)) (.int .i64 (n)) 27).more2 (.int .i64 0) (.int .u64 0) 30)
  simp only [World.size_alloc] at KB
  generalize ((w.alloc (.cells #[.int .i64 (y), .int .i64 (m), .int .i64 (d), .int .i64 (h), .int .i64 (i), .int .i64 (s), .int .i64 (n)] 27)).alloc (.cells #[.int .i64 0, .int .u64 0] 30)) = w0 at *
  obtain ⟨_, q0a, q0b, q0c, q0d, q0e, q0f, q0g, _⟩ := (KB.tail.head).seven
  go_wp2_with fail
  clear q0a q0b q0c q0d q0e q0f q0g
  refine (DA.out _ (L.mono KB.hb)).mono ?_
  rintro e w1 ⟨rfl, k⟩
  replace KB := KB.below k
  clear k
  obtain ⟨_, q0a, q0b, q0c, q0d, q0e, q0f, q0g, _⟩ := (KB.tail.head).seven
  go_wp2_with fail
  clear q0a q0b q0c q0d q0e q0f q0g
  refine (NA.out _ (L.mono KB.hb)).mono ?_
  rintro e w2 ⟨rfl, k⟩
  replace KB := KB.below k
  clear k
  have d0 : (N == -100000001) = false := beq_eq_false_iff_ne.2 h0
  go_wp2_with fail
  refine (MU.out _ (L.mono KB.hb)).mono ?_
  rintro e w3 ⟨rfl, k⟩
  replace KB := KB.below k
  clear k
  go_wp2_with fail
  refine (OF.out _ (L.mono KB.hb)).mono ?_
  rintro e w4 ⟨rfl, k⟩
  replace KB := KB.below k
  clear k
  go_wp2_with fail
  refine (AD.out _ (L.mono KB.hb)).mono ?_
  rintro e w5 ⟨rfl, k⟩
  replace KB := KB.below k
  clear k
  go_upto_region 6 with (fail)
  have ig0 : w5.heap.size ≠ w.heap.size + 1 := Nat.ne_of_gt (KB.head).lt
  have og0 := Ne.symm ig0
  have ig1 : w5.heap.size ≠ w.heap.size := Nat.ne_of_gt (KB.tail.head).lt
  have og1 := Ne.symm ig1
  have ggg : w.heap.size ≤ w5.heap.size := KB.hb.size
  replace KB := KB.more2 (.int .i64 (s0)) (.int .u64 (s1)) 30
  generalize w5.alloc (.cells #[.int .i64 (s0), .int .u64 (s1)] 30) = w6 at *
  generalize w5.heap.size = g at *
  obtain ⟨_, j0a, j0b, _⟩ := (KB.head).two
  obtain ⟨_, ra, rb, fa, fb⟩ := (KB.tail.head).two
  go_wp2
  obtain ⟨_, P0, P1, _⟩ := ((KB.tail.head).self2 (.int .i64 (s0)) (.int .u64 (s1))).two
  have HB := ((KB.hb.setCell (p := ⟨w.heap.size + 1, 0, none⟩) (by show _ ≤ w.heap.size + 1; omega) (.int .i64 (s0))).setCell (p := ⟨w.heap.size + 1, 1, none⟩) (by show _ ≤ w.heap.size + 1; omega) (.int .u64 (s1)))
  exact bodyPost_ret (v := .tuple #[.agg #[.int .i64 (s0), .int .u64 (s1)], .bool true]) (by simp [results, Tryd.results8, go_sem, P0, P1]) rfl ⟨rfl, HB⟩
set_option maxRecDepth 100000 in
set_option maxHeartbeats 8000000 in
theorem nanosN_rest (y m d h i s n r m0 m1 o0 o1 s0 s1 e : Int) (h0 : ¬ r = 0) (DA : Hid (∀ W, Tabs W → Calls Tryd.prog 28 #[.agg #[.int .i64 (y), .int .i64 (m), .int .i64 (d)]] W (fun o w' => o = .returned (.tuple #[.int .i64 (-100000001), .bool true]) ∧ Below W.heap.size W w'))) (NA : Hid (∀ W, Tabs W → Calls Tryd.prog 29 #[.agg #[.int .i64 (h), .int .i64 (i), .int .i64 (s), .int .i64 (n)]] W (fun o w' => o = .returned (.tuple #[.int .i64 (r), .bool true]) ∧ Below W.heap.size W w'))) (MU : Hid (∀ W, Tabs W → Calls Tryd.prog 31 #[.int .i64 (-100000001), .int .i64 86400000000000] W (fun o w' => o = .returned (.agg #[.int .i64 (m0), .int .u64 (m1)]) ∧ Below W.heap.size W w'))) (OF : Hid (∀ W, Tabs W → Calls Tryd.prog 27 #[.int .i64 (r)] W (fun o w' => o = .returned (.agg #[.int .i64 (o0), .int .u64 (o1)]) ∧ Below W.heap.size W w'))) (AD : Hid (∀ W, Tabs W → Calls Tryd.prog 30 #[.agg #[.int .i64 (m0), .int .u64 (m1)], .agg #[.int .i64 (o0), .int .u64 (o1)]] W (fun o w' => o = .returned (.tuple #[.agg #[.int .i64 (s0), .int .u64 (s1)], .int .i64 (e)]) ∧ Below W.heap.size W w'))) (w : World) (L : Tabs w) :
    Calls Tryd.prog 8 #[.agg #[.int .i64 (y), .int .i64 (m), .int .i64 (d), .int .i64 (h), .int .i64 (i), .int .i64 (s), .int .i64 (n)]] w (RetWB w s0 s1 true) := by
  go_enter Tryd.func8, Tryd.ntmps8
  go_upto_region 1 with (fail)
  have KB := (((BK.nil w).more7 (.int .i64 (y)) (.int .i64 (m)) (.int .i64 (d)) (.int .i64 (h)) (.int .i64 (i)) (.int .i64 (s)) (.int .i64 (n)) 27).more2 (.int .i64 0) (.int .u64 0) 30)
  simp only [World.size_alloc] at KB
  generalize ((w.alloc (.cells #[.int .i64 (y), .int .i64 (m), .int .i64 (d), .int .i64 (h), .int .i64 (i), .int .i64 (s), .int .i64 (n)] 27)).alloc (.cells #[.int .i64 0, .int .u64 0] 30)) = w0 at *
  obtain ⟨_, q0a, q0b, q0c, q0d, q0e, q0f, q0g, _⟩ := (KB.tail.head).seven
  go_wp2_with fail
  clear q0a q0b q0c q0d q0e q0f q0g
  refine (DA.out _ (L.mono KB.hb)).mono ?_
  rintro e w1 ⟨rfl, k⟩
  replace KB := KB.below k
  clear k
  obtain ⟨_, q0a, q0b, q0c, q0d, q0e, q0f, q0g, _⟩ := (KB.tail.head).seven
  go_wp2_with fail
  clear q0a q0b q0c q0d q0e q0f q0g
  refine (NA.out _ (L.mono KB.hb)).mono ?_
  rintro e w2 ⟨rfl, k⟩
  replace KB := KB.below k
  clear k
  have d0 : (r == 0) = false := beq_eq_false_iff_ne.2 h0
  go_wp2_with fail
  refine (MU.out _ (L.mono KB.hb)).mono ?_
  rintro e w3 ⟨rfl, k⟩
  replace KB := KB.below k
  clear k
  go_wp2_with fail
  refine (OF.out _ (L.mono KB.hb)).mono ?_
  rintro e w4 ⟨rfl, k⟩
  replace KB := KB.below k
  clear k
  go_wp2_with fail
  refine (AD.out _ (L.mono KB.hb)).mono ?_
  rintro e w5 ⟨rfl, k⟩
  replace KB := KB.below k
  clear k
  go_upto_region 6 with (fail)
  have ig0 : w5.heap.size ≠ w.heap.size + 1 := Nat.ne_of_gt (KB.head).lt
  have og0 := Ne.symm ig0
  have ig1 : w5.heap.size ≠ w.heap.size := Nat.ne_of_gt (KB.tail.head).lt
  have og1 := Ne.symm ig1
  have ggg : w.heap.size ≤ w5.heap.size := KB.hb.size
  replace KB := KB.more2 (.int .i64 (s0)) (.int .u64 (s1)) 30
  generalize w5.alloc (.cells #[.int .i64 (s0), .int .u64 (s1)] 30) = w6 at *
  generalize w5.heap.size = g at *
  obtain ⟨_, j0a, j0b, _⟩ := (KB.head).two
  obtain ⟨_, ra, rb, fa, fb⟩ := (KB.tail.head).two
  go_wp2
  obtain ⟨_, P0, P1, _⟩ := ((KB.tail.head).self2 (.int .i64 (s0)) (.int .u64 (s1))).two
  have HB := ((KB.hb.setCell (p := ⟨w.heap.size + 1, 0, none⟩) (by show _ ≤ w.heap.size + 1; omega) (.int .i64 (s0))).setCell (p := ⟨w.heap.size + 1, 1, none⟩) (by show _ ≤ w.heap.size + 1; omega) (.int .u64 (s1)))
  exact bodyPost_ret (v := .tuple #[.agg #[.int .i64 (s0), .int .u64 (s1)], .bool true]) (by simp [results, Tryd.results8, go_sem, P0, P1]) rfl ⟨rfl, HB⟩
set_option maxRecDepth 100000 in
set_option maxHeartbeats 8000000 in
theorem ofN_yes (a u0 u1 u2 u3 u4 u5 u6 : Int) (AD : Hid (∀ W, Tabs W → Calls Tryd.prog 17 #[.agg #[.int .i64 (1970), .int .i64 (1), .int .i64 (1), .int .i64 (0), .int .i64 (0), .int .i64 (0), .int .i64 (0)], .agg #[.int .i64 (hiW a), .int .u64 (loW a)]] W (fun o w' => o = .returned (.tuple #[.agg #[.int .i64 (u0), .int .i64 (u1), .int .i64 (u2), .int .i64 (u3), .int .i64 (u4), .int .i64 (u5), .int .i64 (u6)], .int .i64 (0)]) ∧ Below W.heap.size W w'))) (w : World) (L : Tabs w) :
    Calls Tryd.prog 10 #[.agg #[.int .i64 (hiW a), .int .u64 (loW a)]] w (RetXB w u0 u1 u2 u3 u4 u5 u6 true) := by
  go_enter Tryd.func10, Tryd.ntmps10
  go_upto_region 1 with (fail)
  have KB := (((BK.nil w).more2 (.int .i64 (hiW a)) (.int .u64 (loW a)) 30).more7 (.int .i64 0) (.int .i64 0) (.int .i64 0) (.int .i64 0) (.int .i64 0) (.int .i64 0) (.int .i64 0) 27)
  simp only [World.size_alloc] at KB
  generalize ((w.alloc (.cells #[.int .i64 (hiW a), .int .u64 (loW a)] 30)).alloc (.cells #[.int .i64 0, .int .i64 0, .int .i64 0, .int .i64 0, .int .i64 0, .int .i64 0, .int .i64 0] 27)) = w0 at *
  obtain ⟨_, q0a, q0b, _⟩ := (KB.tail.head).two
  go_wp2_with fail
  clear q0a q0b
  refine (AD.out _ (L.mono KB.hb)).mono ?_
  rintro e w1 ⟨rfl, k⟩
  replace KB := KB.below k
  clear k
  go_upto_region 2 with (fail)
  have ig0 : w1.heap.size ≠ w.heap.size + 1 := Nat.ne_of_gt (KB.head).lt
  have og0 := Ne.symm ig0
  have ig1 : w1.heap.size ≠ w.heap.size := Nat.ne_of_gt (KB.tail.head).lt
  have og1 := Ne.symm ig1
  have ggg : w.heap.size ≤ w1.heap.size := KB.hb.size
  replace KB := KB.more7 (.int .i64 (u0)) (.int .i64 (u1)) (.int .i64 (u2)) (.int .i64 (u3)) (.int .i64 (u4)) (.int .i64 (u5)) (.int .i64 (u6)) 27
  generalize w1.alloc (.cells #[.int .i64 (u0), .int .i64 (u1), .int .i64 (u2), .int .i64 (u3), .int .i64 (u4), .int .i64 (u5), .int .i64 (u6)] 27) = w2 at *
  generalize w1.heap.size = g at *
  obtain ⟨_, j0a, j0b, j0c, j0d, j0e, j0f, j0g, _⟩ := (KB.head).seven
  obtain ⟨_, ra, rb, rc, rd, re, rf, rg, fa, fb, fc, fd, fe, ff, fg⟩ := (KB.tail.head).seven
  go_wp2
  obtain ⟨_, P0, P1, P2, P3, P4, P5, P6, _⟩ := ((KB.tail.head).self7 (.int .i64 (u0)) (.int .i64 (u1)) (.int .i64 (u2)) (.int .i64 (u3)) (.int .i64 (u4)) (.int .i64 (u5)) (.int .i64 (u6))).seven
  have HB := (((((((KB.hb.setCell (p := ⟨w.heap.size + 1, 0, none⟩) (by show _ ≤ w.heap.size + 1; omega) (.int .i64 (u0))).setCell (p := ⟨w.heap.size + 1, 1, none⟩) (by show _ ≤ w.heap.size + 1; omega) (.int .i64 (u1))).setCell (p := ⟨w.heap.size + 1, 2, none⟩) (by show _ ≤ w.heap.size + 1; omega) (.int .i64 (u2))).setCell (p := ⟨w.heap.size + 1, 3, none⟩) (by show _ ≤ w.heap.size + 1; omega) (.int .i64 (u3))).setCell (p := ⟨w.heap.size + 1, 4, none⟩) (by show _ ≤ w.heap.size + 1; omega) (.int .i64 (u4))).setCell (p := ⟨w.heap.size + 1, 5, none⟩) (by show _ ≤ w.heap.size + 1; omega) (.int .i64 (u5))).setCell (p := ⟨w.heap.size + 1, 6, none⟩) (by show _ ≤ w.heap.size + 1; omega) (.int .i64 (u6)))
  exact bodyPost_ret (v := .tuple #[.agg #[.int .i64 (u0), .int .i64 (u1), .int .i64 (u2), .int .i64 (u3), .int .i64 (u4), .int .i64 (u5), .int .i64 (u6)], .bool true]) (by simp [results, Tryd.results10, go_sem, P0, P1, P2, P3, P4, P5, P6]) rfl ⟨rfl, HB⟩
set_option maxRecDepth 100000 in
set_option maxHeartbeats 8000000 in
theorem ofN_no (a u0 u1 u2 u3 u4 u5 u6 : Int) (AD : Hid (∀ W, Tabs W → Calls Tryd.prog 17 #[.agg #[.int .i64 (1970), .int .i64 (1), .int .i64 (1), .int .i64 (0), .int .i64 (0), .int .i64 (0), .int .i64 (0)], .agg #[.int .i64 (hiW a), .int .u64 (loW a)]] W (fun o w' => o = .returned (.tuple #[.agg #[.int .i64 (u0), .int .i64 (u1), .int .i64 (u2), .int .i64 (u3), .int .i64 (u4), .int .i64 (u5), .int .i64 (u6)], .int .i64 (4)]) ∧ Below W.heap.size W w'))) (w : World) (L : Tabs w) :
    Calls Tryd.prog 10 #[.agg #[.int .i64 (hiW a), .int .u64 (loW a)]] w (RetXB w u0 u1 u2 u3 u4 u5 u6 false) := by
  go_enter Tryd.func10, Tryd.ntmps10
  go_upto_region 1 with (fail)
  have KB := (((BK.nil w).more2 (.int .i64 (hiW a)) (.int .u64 (loW a)) 30).more7 (.int .i64 0) (.int .i64 0) (.int .i64 0) (.int .i64 0) (.int .i64 0) (.int .i64 0) (.int .i64 0) 27)
  simp only [World.size_alloc] at KB
  generalize ((w.alloc (.cells #[.int .i64 (hiW a), .int .u64 (loW a)] 30)).alloc (.cells #[.int .i64 0, .int .i64 0, .int .i64 0, .int .i64 0, .int .i64 0, .int .i64 0, .int .i64 0] 27)) = w0 at *
  obtain ⟨_, q0a, q0b, _⟩ := (KB.tail.head).two
  go_wp2_with fail
  clear q0a q0b
  refine (AD.out _ (L.mono KB.hb)).mono ?_
  rintro e w1 ⟨rfl, k⟩
  replace KB := KB.below k
  clear k
  go_upto_region 2 with (fail)
  have ig0 : w1.heap.size ≠ w.heap.size + 1 := Nat.ne_of_gt (KB.head).lt
  have og0 := Ne.symm ig0
  have ig1 : w1.heap.size ≠ w.heap.size := Nat.ne_of_gt (KB.tail.head).lt
  have og1 := Ne.symm ig1
  have ggg : w.heap.size ≤ w1.heap.size := KB.hb.size
  replace KB := KB.more7 (.int .i64 (u0)) (.int .i64 (u1)) (.int .i64 (u2)) (.int .i64 (u3)) (.int .i64 (u4)) (.int .i64 (u5)) (.int .i64 (u6)) 27
  generalize w1.alloc (.cells #[.int .i64 (u0), .int .i64 (u1), .int .i64 (u2), .int .i64 (u3), .int .i64 (u4), .int .i64 (u5), .int .i64 (u6)] 27) = w2 at *
  generalize w1.heap.size = g at *
  obtain ⟨_, j0a, j0b, j0c, j0d, j0e, j0f, j0g, _⟩ := (KB.head).seven
  obtain ⟨_, ra, rb, rc, rd, re, rf, rg, fa, fb, fc, fd, fe, ff, fg⟩ := (KB.tail.head).seven
  go_wp2
  obtain ⟨_, P0, P1, P2, P3, P4, P5, P6, _⟩ := ((KB.tail.head).self7 (.int .i64 (u0)) (.int .i64 (u1)) (.int .i64 (u2)) (.int .i64 (u3)) (.int .i64 (u4)) (.int .i64 (u5)) (.int .i64 (u6))).seven
  have HB := (((((((KB.hb.setCell (p := ⟨w.heap.size + 1, 0, none⟩) (by show _ ≤ w.heap.size + 1; omega) (.int .i64 (u0))).setCell (p := ⟨w.heap.size + 1, 1, none⟩) (by show _ ≤ w.heap.size + 1; omega) (.int .i64 (u1))).setCell (p := ⟨w.heap.size + 1, 2, none⟩) (by show _ ≤ w.heap.size + 1; omega) (.int .i64 (u2))).setCell (p := ⟨w.heap.size + 1, 3, none⟩) (by show _ ≤ w.heap.size + 1; omega) (.int .i64 (u3))).setCell (p := ⟨w.heap.size + 1, 4, none⟩) (by show _ ≤ w.heap.size + 1; omega) (.int .i64 (u4))).setCell (p := ⟨w.heap.size + 1, 5, none⟩) (by show _ ≤ w.heap.size + 1; omega) (.int .i64 (u5))).setCell (p := ⟨w.heap.size + 1, 6, none⟩) (by show _ ≤ w.heap.size + 1; omega) (.int .i64 (u6)))
  exact bodyPost_ret (v := .tuple #[.agg #[.int .i64 (u0), .int .i64 (u1), .int .i64 (u2), .int .i64 (u3), .int .i64 (u4), .int .i64 (u5), .int .i64 (u6)], .bool false]) (by simp [results, Tryd.results10, go_sem, P0, P1, P2, P3, P4, P5, P6]) rfl ⟨rfl, HB⟩
set_option maxRecDepth 100000 in
set_option maxHeartbeats 8000000 in
theorem addN_bad (y m d h i s n a : Int) (RI : Hid (∀ W, Tabs W → Calls Tryd.prog 16 #[.agg #[.int .i64 (y), .int .i64 (m), .int .i64 (d), .int .i64 (h), .int .i64 (i), .int .i64 (s), .int .i64 (n)]] W (fun o w' => o = .returned (.bool false) ∧ Below W.heap.size W w'))) (w : World) (L : Tabs w) :
    Calls Tryd.prog 17 #[.agg #[.int .i64 (y), .int .i64 (m), .int .i64 (d), .int .i64 (h), .int .i64 (i), .int .i64 (s), .int .i64 (n)], .agg #[.int .i64 (hiW a), .int .u64 (loW a)]] w (RetXE w 0 0 0 0 0 0 0 1) := by
  go_enter Tryd.func17, Tryd.ntmps17
  go_upto_region 1 with (fail)
  have KB := ((((BK.nil w).more7 (.int .i64 (y)) (.int .i64 (m)) (.int .i64 (d)) (.int .i64 (h)) (.int .i64 (i)) (.int .i64 (s)) (.int .i64 (n)) 27).more2 (.int .i64 (hiW a)) (.int .u64 (loW a)) 30).more7 (.int .i64 0) (.int .i64 0) (.int .i64 0) (.int .i64 0) (.int .i64 0) (.int .i64 0) (.int .i64 0) 27)
  simp only [World.size_alloc] at KB
  generalize (((w.alloc (.cells #[.int .i64 (y), .int .i64 (m), .int .i64 (d), .int .i64 (h), .int .i64 (i), .int .i64 (s), .int .i64 (n)] 27)).alloc (.cells #[.int .i64 (hiW a), .int .u64 (loW a)] 30)).alloc (.cells #[.int .i64 0, .int .i64 0, .int .i64 0, .int .i64 0, .int .i64 0, .int .i64 0, .int .i64 0] 27)) = w0 at *
  obtain ⟨_, q0a, q0b, q0c, q0d, q0e, q0f, q0g, _⟩ := (KB.tail.tail.head).seven
  go_wp2_with fail
  clear q0a q0b q0c q0d q0e q0f q0g
  refine (RI.out _ (L.mono KB.hb)).mono ?_
  rintro e w1 ⟨rfl, k⟩
  replace KB := KB.below k
  clear k
  obtain ⟨_, ra, rb, rc, rd, re, rf, rg, fa, fb, fc, fd, fe, ff, fg⟩ := (KB.head).seven
  go_wp2
  obtain ⟨_, P0, P1, P2, P3, P4, P5, P6, _⟩ := ((KB.head).self7 (.int .i64 0) (.int .i64 0) (.int .i64 0) (.int .i64 0) (.int .i64 0) (.int .i64 0) (.int .i64 0)).seven
  have HB := (((((((KB.hb.setCell (p := ⟨w.heap.size + 1 + 1, 0, none⟩) (by show _ ≤ w.heap.size + 1 + 1; omega) (.int .i64 0)).setCell (p := ⟨w.heap.size + 1 + 1, 1, none⟩) (by show _ ≤ w.heap.size + 1 + 1; omega) (.int .i64 0)).setCell (p := ⟨w.heap.size + 1 + 1, 2, none⟩) (by show _ ≤ w.heap.size + 1 + 1; omega) (.int .i64 0)).setCell (p := ⟨w.heap.size + 1 + 1, 3, none⟩) (by show _ ≤ w.heap.size + 1 + 1; omega) (.int .i64 0)).setCell (p := ⟨w.heap.size + 1 + 1, 4, none⟩) (by show _ ≤ w.heap.size + 1 + 1; omega) (.int .i64 0)).setCell (p := ⟨w.heap.size + 1 + 1, 5, none⟩) (by show _ ≤ w.heap.size + 1 + 1; omega) (.int .i64 0)).setCell (p := ⟨w.heap.size + 1 + 1, 6, none⟩) (by show _ ≤ w.heap.size + 1 + 1; omega) (.int .i64 0))
  exact bodyPost_ret (v := .tuple #[.agg #[.int .i64 0, .int .i64 0, .int .i64 0, .int .i64 0, .int .i64 0, .int .i64 0, .int .i64 0], .int .i64 (1)]) (by simp [results, Tryd.results17, go_sem, P0, P1, P2, P3, P4, P5, P6]) rfl ⟨rfl, HB⟩
set_option maxRecDepth 100000 in
set_option maxHeartbeats 8000000 in
theorem addN_over (y m d h i s n a t0 t1 t2 t3 k : Int) (RI : Hid (∀ W, Tabs W → Calls Tryd.prog 16 #[.agg #[.int .i64 (y), .int .i64 (m), .int .i64 (d), .int .i64 (h), .int .i64 (i), .int .i64 (s), .int .i64 (n)]] W (fun o w' => o = .returned (.bool true) ∧ Below W.heap.size W w'))) (CA : Hid (∀ W, Tabs W → Calls Tryd.prog 46 #[.agg #[.int .i64 (h), .int .i64 (i), .int .i64 (s), .int .i64 (n)], .agg #[.int .i64 (hiW a), .int .u64 (loW a)]] W (fun o w' => o = .returned (.tuple #[.agg #[.int .i64 (t0), .int .i64 (t1), .int .i64 (t2), .int .i64 (t3)], .int .i64 (k), .int .i64 (2)]) ∧ Below W.heap.size W w'))) (w : World) (L : Tabs w) :
    Calls Tryd.prog 17 #[.agg #[.int .i64 (y), .int .i64 (m), .int .i64 (d), .int .i64 (h), .int .i64 (i), .int .i64 (s), .int .i64 (n)], .agg #[.int .i64 (hiW a), .int .u64 (loW a)]] w (RetXE w 0 0 0 0 0 0 0 4) := by
  go_enter Tryd.func17, Tryd.ntmps17
  go_upto_region 1 with (fail)
  have KB := ((((BK.nil w).more7 (.int .i64 (y)) (.int .i64 (m)) (.int .i64 (d)) (.int .i64 (h)) (.int .i64 (i)) (.int .i64 (s)) (.int .i64 (n)) 27).more2 (.int .i64 (hiW a)) (.int .u64 (loW a)) 30).more7 (.int .i64 0) (.int .i64 0) (.int .i64 0) (.int .i64 0) (.int .i64 0) (.int .i64 0) (.int .i64 0) 27)
  simp only [World.size_alloc] at KB
  generalize (((w.alloc (.cells #[.int .i64 (y), .int .i64 (m), .int .i64 (d), .int .i64 (h), .int .i64 (i), .int .i64 (s), .int .i64 (n)] 27)).alloc (.cells #[.int .i64 (hiW a), .int .u64 (loW a)] 30)).alloc (.cells #[.int .i64 0, .int .i64 0, .int .i64 0, .int .i64 0, .int .i64 0, .int .i64 0, .int .i64 0] 27)) = w0 at *
  obtain ⟨_, q0a, q0b, q0c, q0d, q0e, q0f, q0g, _⟩ := (KB.tail.tail.head).seven
  go_wp2_with fail
  clear q0a q0b q0c q0d q0e q0f q0g
  refine (RI.out _ (L.mono KB.hb)).mono ?_
  rintro e w1 ⟨rfl, k⟩
  replace KB := KB.below k
  clear k
  obtain ⟨_, q0a, q0b, q0c, q0d, q0e, q0f, q0g, _⟩ := (KB.tail.tail.head).seven
  obtain ⟨_, q1a, q1b, _⟩ := (KB.tail.head).two
  go_wp2_with fail
  clear q0a q0b q0c q0d q0e q0f q0g q1a q1b
  refine (CA.out _ (L.mono KB.hb)).mono ?_
  rintro e w2 ⟨rfl, k⟩
  replace KB := KB.below k
  clear k
  go_upto_region 4 with (fail)
  have ig0 : w2.heap.size ≠ w.heap.size + 1 + 1 := Nat.ne_of_gt (KB.head).lt
  have og0 := Ne.symm ig0
  have ig1 : w2.heap.size ≠ w.heap.size + 1 := Nat.ne_of_gt (KB.tail.head).lt
  have og1 := Ne.symm ig1
  have ig2 : w2.heap.size ≠ w.heap.size := Nat.ne_of_gt (KB.tail.tail.head).lt
  have og2 := Ne.symm ig2
  have ggg : w.heap.size ≤ w2.heap.size := KB.hb.size
  replace KB := KB.more4 (.int .i64 (t0)) (.int .i64 (t1)) (.int .i64 (t2)) (.int .i64 (t3)) 25
  generalize w2.alloc (.cells #[.int .i64 (t0), .int .i64 (t1), .int .i64 (t2), .int .i64 (t3)] 25) = w3 at *
  generalize w2.heap.size = g at *
  obtain ⟨_, ra, rb, rc, rd, re, rf, rg, fa, fb, fc, fd, fe, ff, fg⟩ := (KB.tail.head).seven
  go_wp2
  obtain ⟨_, P0, P1, P2, P3, P4, P5, P6, _⟩ := ((KB.tail.head).self7 (.int .i64 0) (.int .i64 0) (.int .i64 0) (.int .i64 0) (.int .i64 0) (.int .i64 0) (.int .i64 0)).seven
  have HB := (((((((KB.hb.setCell (p := ⟨w.heap.size + 1 + 1, 0, none⟩) (by show _ ≤ w.heap.size + 1 + 1; omega) (.int .i64 0)).setCell (p := ⟨w.heap.size + 1 + 1, 1, none⟩) (by show _ ≤ w.heap.size + 1 + 1; omega) (.int .i64 0)).setCell (p := ⟨w.heap.size + 1 + 1, 2, none⟩) (by show _ ≤ w.heap.size + 1 + 1; omega) (.int .i64 0)).setCell (p := ⟨w.heap.size + 1 + 1, 3, none⟩) (by show _ ≤ w.heap.size + 1 + 1; omega) (.int .i64 0)).setCell (p := ⟨w.heap.size + 1 + 1, 4, none⟩) (by show _ ≤ w.heap.size + 1 + 1; omega) (.int .i64 0)).setCell (p := ⟨w.heap.size + 1 + 1, 5, none⟩) (by show _ ≤ w.heap.size + 1 + 1; omega) (.int .i64 0)).setCell (p := ⟨w.heap.size + 1 + 1, 6, none⟩) (by show _ ≤ w.heap.size + 1 + 1; omega) (.int .i64 0))
  exact bodyPost_ret (v := .tuple #[.agg #[.int .i64 0, .int .i64 0, .int .i64 0, .int .i64 0, .int .i64 0, .int .i64 0, .int .i64 0], .int .i64 (4)]) (by simp [results, Tryd.results17, go_sem, P0, P1, P2, P3, P4, P5, P6]) rfl ⟨rfl, HB⟩
set_option maxRecDepth 100000 in
set_option maxHeartbeats 8000000 in
theorem addN_core (y m d h i s n a t0 t1 t2 t3 k u0 u1 u2 u3 u4 u5 u6 e : Int) (RI : Hid (∀ W, Tabs W → Calls Tryd.prog 16 #[.agg #[.int .i64 (y), .int .i64 (m), .int .i64 (d), .int .i64 (h), .int .i64 (i), .int .i64 (s), .int .i64 (n)]] W (fun o w' => o = .returned (.bool true) ∧ Below W.heap.size W w'))) (CA : Hid (∀ W, Tabs W → Calls Tryd.prog 46 #[.agg #[.int .i64 (h), .int .i64 (i), .int .i64 (s), .int .i64 (n)], .agg #[.int .i64 (hiW a), .int .u64 (loW a)]] W (fun o w' => o = .returned (.tuple #[.agg #[.int .i64 (t0), .int .i64 (t1), .int .i64 (t2), .int .i64 (t3)], .int .i64 (k), .int .i64 (0)]) ∧ Below W.heap.size W w'))) (MV : Hid (∀ W, Tabs W → Calls Tryd.prog 47 #[.agg #[.int .i64 (y), .int .i64 (m), .int .i64 (d)], .int .i64 (k), .agg #[.int .i64 (t0), .int .i64 (t1), .int .i64 (t2), .int .i64 (t3)]] W (fun o w' => o = .returned (.tuple #[.agg #[.int .i64 (u0), .int .i64 (u1), .int .i64 (u2), .int .i64 (u3), .int .i64 (u4), .int .i64 (u5), .int .i64 (u6)], .int .i64 (e)]) ∧ Below W.heap.size W w'))) (w : World) (L : Tabs w) :
    Calls Tryd.prog 17 #[.agg #[.int .i64 (y), .int .i64 (m), .int .i64 (d), .int .i64 (h), .int .i64 (i), .int .i64 (s), .int .i64 (n)], .agg #[.int .i64 (hiW a), .int .u64 (loW a)]] w (RetXE w u0 u1 u2 u3 u4 u5 u6 e) := by
  go_enter Tryd.func17, Tryd.ntmps17
  go_upto_region 1 with (fail)
  have KB := ((((BK.nil w).more7 (.int .i64 (y)) (.int .i64 (m)) (.int .i64 (d)) (.int .i64 (h)) (.int .i64 (i)) (.int .i64 (s)) (.int .i64 (n)) 27).more2 (.int .i64 (hiW a)) (.int .u64 (loW a)) 30).more7 (.int .i64 0) (.int .i64 0) (.int .i64 0) (.int .i64 0) (.int .i64 0) (.int .i64 0) (.int .i64 0) 27)
  simp only [World.size_alloc] at KB
  generalize (((w.alloc (.cells #[.int .i64 (y), .int .i64 (m), .int .i64 (d), .int .i64 (h), .int .i64 (i), .int .i64 (s), .int .i64 (n)] 27)).alloc (.cells #[.int .i64 (hiW a), .int .u64 (loW a)] 30)).alloc (.cells #[.int .i64 0, .int .i64 0, .int .i64 0, .int .i64 0, .int .i64 0, .int .i64 0, .int .i64 0] 27)) = w0 at *
  obtain ⟨_, q0a, q0b, q0c, q0d, q0e, q0f, q0g, _⟩ := (KB.tail.tail.head).seven
  go_wp2_with fail
  clear q0a q0b q0c q0d q0e q0f q0g
  refine (RI.out _ (L.mono KB.hb)).mono ?_
  rintro e w1 ⟨rfl, k⟩
  replace KB := KB.below k
  clear k
  obtain ⟨_, q0a, q0b, q0c, q0d, q0e, q0f, q0g, _⟩ := (KB.tail.tail.head).seven
  obtain ⟨_, q1a, q1b, _⟩ := (KB.tail.head).two
  go_wp2_with fail
  clear q0a q0b q0c q0d q0e q0f q0g q1a q1b
  refine (CA.out _ (L.mono KB.hb)).mono ?_
  rintro e w2 ⟨rfl, k⟩
  replace KB := KB.below k
  clear k
  go_upto_region 4 with (fail)
  have ig0 : w2.heap.size ≠ w.heap.size + 1 + 1 := Nat.ne_of_gt (KB.head).lt
  have og0 := Ne.symm ig0
  have ig1 : w2.heap.size ≠ w.heap.size + 1 := Nat.ne_of_gt (KB.tail.head).lt
  have og1 := Ne.symm ig1
  have ig2 : w2.heap.size ≠ w.heap.size := Nat.ne_of_gt (KB.tail.tail.head).lt
  have og2 := Ne.symm ig2
  have ggg : w.heap.size ≤ w2.heap.size := KB.hb.size
  replace KB := KB.more4 (.int .i64 (t0)) (.int .i64 (t1)) (.int .i64 (t2)) (.int .i64 (t3)) 25
  generalize w2.alloc (.cells #[.int .i64 (t0), .int .i64 (t1), .int .i64 (t2), .int .i64 (t3)] 25) = w3 at *
  generalize w2.heap.size = g at *
  obtain ⟨_, q0a, q0b, q0c, q0d, q0e, q0f, q0g, _⟩ := (KB.tail.tail.tail.head).seven
  obtain ⟨_, q1a, q1b, q1c, q1d, _⟩ := (KB.head).four
  go_wp2_with fail
  clear q0a q0b q0c q0d q0e q0f q0g q1a q1b q1c q1d
  refine (MV.out _ (L.mono KB.hb)).mono ?_
  rintro e w4 ⟨rfl, k⟩
  replace KB := KB.below k
  clear k
  obtain ⟨_, ra, rb, rc, rd, re, rf, rg, fa, fb, fc, fd, fe, ff, fg⟩ := (KB.tail.head).seven
  go_wp2
  obtain ⟨_, P0, P1, P2, P3, P4, P5, P6, _⟩ := ((KB.tail.head).self7 (.int .i64 (u0)) (.int .i64 (u1)) (.int .i64 (u2)) (.int .i64 (u3)) (.int .i64 (u4)) (.int .i64 (u5)) (.int .i64 (u6))).seven
  have HB := (((((((KB.hb.setCell (p := ⟨w.heap.size + 1 + 1, 0, none⟩) (by show _ ≤ w.heap.size + 1 + 1; omega) (.int .i64 (u0))).setCell (p := ⟨w.heap.size + 1 + 1, 1, none⟩) (by show _ ≤ w.heap.size + 1 + 1; omega) (.int .i64 (u1))).setCell (p := ⟨w.heap.size + 1 + 1, 2, none⟩) (by show _ ≤ w.heap.size + 1 + 1; omega) (.int .i64 (u2))).setCell (p := ⟨w.heap.size + 1 + 1, 3, none⟩) (by show _ ≤ w.heap.size + 1 + 1; omega) (.int .i64 (u3))).setCell (p := ⟨w.heap.size + 1 + 1, 4, none⟩) (by show _ ≤ w.heap.size + 1 + 1; omega) (.int .i64 (u4))).setCell (p := ⟨w.heap.size + 1 + 1, 5, none⟩) (by show _ ≤ w.heap.size + 1 + 1; omega) (.int .i64 (u5))).setCell (p := ⟨w.heap.size + 1 + 1, 6, none⟩) (by show _ ≤ w.heap.size + 1 + 1; omega) (.int .i64 (u6)))
  exact bodyPost_ret (v := .tuple #[.agg #[.int .i64 (u0), .int .i64 (u1), .int .i64 (u2), .int .i64 (u3), .int .i64 (u4), .int .i64 (u5), .int .i64 (u6)], .int .i64 (e)]) (by simp [results, Tryd.results17, go_sem, P0, P1, P2, P3, P4, P5, P6]) rfl ⟨rfl, HB⟩
set_option maxRecDepth 100000 in
set_option maxHeartbeats 8000000 in
theorem roundN_bad (y m d h i s n ic mo : Int) (RI : Hid (∀ W, Tabs W → Calls Tryd.prog 16 #[.agg #[.int .i64 (y), .int .i64 (m), .int .i64 (d), .int .i64 (h), .int .i64 (i), .int .i64 (s), .int .i64 (n)]] W (fun o w' => o = .returned (.bool false) ∧ Below W.heap.size W w'))) (w : World) (L : Tabs w) :
    Calls Tryd.prog 26 #[.agg #[.int .i64 (y), .int .i64 (m), .int .i64 (d), .int .i64 (h), .int .i64 (i), .int .i64 (s), .int .i64 (n)], .int .i64 ic, .int .i64 mo] w (RetXE w 0 0 0 0 0 0 0 1) := by
  go_enter Tryd.func26, Tryd.ntmps26
  go_upto_region 1 with (fail)
  have KB := (((BK.nil w).more7 (.int .i64 (y)) (.int .i64 (m)) (.int .i64 (d)) (.int .i64 (h)) (.int .i64 (i)) (.int .i64 (s)) (.int .i64 (n)) 27).more7 (.int .i64 0) (.int .i64 0) (.int .i64 0) (.int .i64 0) (.int .i64 0) (.int .i64 0) (.int .i64 0) 27)
  simp only [World.size_alloc] at KB
  generalize ((w.alloc (.cells #[.int .i64 (y), .int .i64 (m), .int .i64 (d), .int .i64 (h), .int .i64 (i), .int .i64 (s), .int .i64 (n)] 27)).alloc (.cells #[.int .i64 0, .int .i64 0, .int .i64 0, .int .i64 0, .int .i64 0, .int .i64 0, .int .i64 0] 27)) = w0 at *
  obtain ⟨_, q0a, q0b, q0c, q0d, q0e, q0f, q0g, _⟩ := (KB.tail.head).seven
  go_wp2_with fail
  clear q0a q0b q0c q0d q0e q0f q0g
  refine (RI.out _ (L.mono KB.hb)).mono ?_
  rintro e w1 ⟨rfl, k⟩
  replace KB := KB.below k
  clear k
  obtain ⟨_, ra, rb, rc, rd, re, rf, rg, fa, fb, fc, fd, fe, ff, fg⟩ := (KB.head).seven
  go_wp2
  obtain ⟨_, P0, P1, P2, P3, P4, P5, P6, _⟩ := ((KB.head).self7 (.int .i64 0) (.int .i64 0) (.int .i64 0) (.int .i64 0) (.int .i64 0) (.int .i64 0) (.int .i64 0)).seven
  have HB := (((((((KB.hb.setCell (p := ⟨w.heap.size + 1, 0, none⟩) (by show _ ≤ w.heap.size + 1; omega) (.int .i64 0)).setCell (p := ⟨w.heap.size + 1, 1, none⟩) (by show _ ≤ w.heap.size + 1; omega) (.int .i64 0)).setCell (p := ⟨w.heap.size + 1, 2, none⟩) (by show _ ≤ w.heap.size + 1; omega) (.int .i64 0)).setCell (p := ⟨w.heap.size + 1, 3, none⟩) (by show _ ≤ w.heap.size + 1; omega) (.int .i64 0)).setCell (p := ⟨w.heap.size + 1, 4, none⟩) (by show _ ≤ w.heap.size + 1; omega) (.int .i64 0)).setCell (p := ⟨w.heap.size + 1, 5, none⟩) (by show _ ≤ w.heap.size + 1; omega) (.int .i64 0)).setCell (p := ⟨w.heap.size + 1, 6, none⟩) (by show _ ≤ w.heap.size + 1; omega) (.int .i64 0))
  exact bodyPost_ret (v := .tuple #[.agg #[.int .i64 0, .int .i64 0, .int .i64 0, .int .i64 0, .int .i64 0, .int .i64 0, .int .i64 0], .int .i64 (1)]) (by simp [results, Tryd.results26, go_sem, P0, P1, P2, P3, P4, P5, P6]) rfl ⟨rfl, HB⟩
set_option maxRecDepth 100000 in
set_option maxHeartbeats 8000000 in
theorem roundN_no (y m d h i s n ic mo t0 t1 t2 t3 k : Int) (RI : Hid (∀ W, Tabs W → Calls Tryd.prog 16 #[.agg #[.int .i64 (y), .int .i64 (m), .int .i64 (d), .int .i64 (h), .int .i64 (i), .int .i64 (s), .int .i64 (n)]] W (fun o w' => o = .returned (.bool true) ∧ Below W.heap.size W w'))) (CR : Hid (∀ W, Tabs W → Calls Tryd.prog 56 #[.agg #[.int .i64 (h), .int .i64 (i), .int .i64 (s), .int .i64 (n)], .int .i64 ic, .int .i64 mo] W (fun o w' => o = .returned (.tuple #[.agg #[.int .i64 (t0), .int .i64 (t1), .int .i64 (t2), .int .i64 (t3)], .int .i64 (k), .int .i64 (1)]) ∧ Below W.heap.size W w'))) (w : World) (L : Tabs w) :
    Calls Tryd.prog 26 #[.agg #[.int .i64 (y), .int .i64 (m), .int .i64 (d), .int .i64 (h), .int .i64 (i), .int .i64 (s), .int .i64 (n)], .int .i64 ic, .int .i64 mo] w (RetXE w 0 0 0 0 0 0 0 1) := by
  go_enter Tryd.func26, Tryd.ntmps26
  go_upto_region 1 with (fail)
  have KB := (((BK.nil w).more7 (.int .i64 (y)) (.int .i64 (m)) (.int .i64 (d)) (.int .i64 (h)) (.int .i64 (i)) (.int .i64 (s)) (.int .i64 (n)) 27).more7 (.int .i64 0) (.int .i64 0) (.int .i64 0) (.int .i64 0) (.int .i64 0) (.int .i64 0) (.int .i64 0) 27)
  simp only [World.size_alloc] at KB
  generalize ((w.alloc (.cells #[.int .i64 (y), .int .i64 (m), .int .i64 (d), .int .i64 (h), .int .i64 (i), .int .i64 (s), .int .i64 (n)] 27)).alloc (.cells #[.int .i64 0, .int .i64 0, .int .i64 0, .int .i64 0, .int .i64 0, .int .i64 0, .int .i64 0] 27)) = w0 at *
  obtain ⟨_, q0a, q0b, q0c, q0d, q0e, q0f, q0g, _⟩ := (KB.tail.head).seven
  go_wp2_with fail
  clear q0a q0b q0c q0d q0e q0f q0g
  refine (RI.out _ (L.mono KB.hb)).mono ?_
  rintro e w1 ⟨rfl, k⟩
  replace KB := KB.below k
  clear k
  obtain ⟨_, q0a, q0b, q0c, q0d, q0e, q0f, q0g, _⟩ := (KB.tail.head).seven
  go_wp2_with fail
  clear q0a q0b q0c q0d q0e q0f q0g
  refine (CR.out _ (L.mono KB.hb)).mono ?_
  rintro e w2 ⟨rfl, k⟩
  replace KB := KB.below k
  clear k
  go_upto_region 4 with (fail)
  have ig0 : w2.heap.size ≠ w.heap.size + 1 := Nat.ne_of_gt (KB.head).lt
  have og0 := Ne.symm ig0
  have ig1 : w2.heap.size ≠ w.heap.size := Nat.ne_of_gt (KB.tail.head).lt
  have og1 := Ne.symm ig1
  have ggg : w.heap.size ≤ w2.heap.size := KB.hb.size
  replace KB := KB.more4 (.int .i64 (t0)) (.int .i64 (t1)) (.int .i64 (t2)) (.int .i64 (t3)) 25
  generalize w2.alloc (.cells #[.int .i64 (t0), .int .i64 (t1), .int .i64 (t2), .int .i64 (t3)] 25) = w3 at *
  generalize w2.heap.size = g at *
  obtain ⟨_, ra, rb, rc, rd, re, rf, rg, fa, fb, fc, fd, fe, ff, fg⟩ := (KB.tail.head).seven
  go_wp2
  obtain ⟨_, P0, P1, P2, P3, P4, P5, P6, _⟩ := ((KB.tail.head).self7 (.int .i64 0) (.int .i64 0) (.int .i64 0) (.int .i64 0) (.int .i64 0) (.int .i64 0) (.int .i64 0)).seven
  have HB := (((((((KB.hb.setCell (p := ⟨w.heap.size + 1, 0, none⟩) (by show _ ≤ w.heap.size + 1; omega) (.int .i64 0)).setCell (p := ⟨w.heap.size + 1, 1, none⟩) (by show _ ≤ w.heap.size + 1; omega) (.int .i64 0)).setCell (p := ⟨w.heap.size + 1, 2, none⟩) (by show _ ≤ w.heap.size + 1; omega) (.int .i64 0)).setCell (p := ⟨w.heap.size + 1, 3, none⟩) (by show _ ≤ w.heap.size + 1; omega) (.int .i64 0)).setCell (p := ⟨w.heap.size + 1, 4, none⟩) (by show _ ≤ w.heap.size + 1; omega) (.int .i64 0)).setCell (p := ⟨w.heap.size + 1, 5, none⟩) (by show _ ≤ w.heap.size + 1; omega) (.int .i64 0)).setCell (p := ⟨w.heap.size + 1, 6, none⟩) (by show _ ≤ w.heap.size + 1; omega) (.int .i64 0))
  exact bodyPost_ret (v := .tuple #[.agg #[.int .i64 0, .int .i64 0, .int .i64 0, .int .i64 0, .int .i64 0, .int .i64 0, .int .i64 0], .int .i64 (1)]) (by simp [results, Tryd.results26, go_sem, P0, P1, P2, P3, P4, P5, P6]) rfl ⟨rfl, HB⟩
set_option maxRecDepth 100000 in
set_option maxHeartbeats 8000000 in
theorem roundN_core (y m d h i s n ic mo t0 t1 t2 t3 k u0 u1 u2 u3 u4 u5 u6 e : Int) (RI : Hid (∀ W, Tabs W → Calls Tryd.prog 16 #[.agg #[.int .i64 (y), .int .i64 (m), .int .i64 (d), .int .i64 (h), .int .i64 (i), .int .i64 (s), .int .i64 (n)]] W (fun o w' => o = .returned (.bool true) ∧ Below W.heap.size W w'))) (CR : Hid (∀ W, Tabs W → Calls Tryd.prog 56 #[.agg #[.int .i64 (h), .int .i64 (i), .int .i64 (s), .int .i64 (n)], .int .i64 ic, .int .i64 mo] W (fun o w' => o = .returned (.tuple #[.agg #[.int .i64 (t0), .int .i64 (t1), .int .i64 (t2), .int .i64 (t3)], .int .i64 (k), .int .i64 (0)]) ∧ Below W.heap.size W w'))) (MV : Hid (∀ W, Tabs W → Calls Tryd.prog 47 #[.agg #[.int .i64 (y), .int .i64 (m), .int .i64 (d)], .int .i64 (k), .agg #[.int .i64 (t0), .int .i64 (t1), .int .i64 (t2), .int .i64 (t3)]] W (fun o w' => o = .returned (.tuple #[.agg #[.int .i64 (u0), .int .i64 (u1), .int .i64 (u2), .int .i64 (u3), .int .i64 (u4), .int .i64 (u5), .int .i64 (u6)], .int .i64 (e)]) ∧ Below W.heap.size W w'))) (w : World) (L : Tabs w) :
    Calls Tryd.prog 26 #[.agg #[.int .i64 (y), .int .i64 (m), .int .i64 (d), .int .i64 (h), .int .i64 (i), .int .i64 (s), .int .i64 (n)], .int .i64 ic, .int .i64 mo] w (RetXE w u0 u1 u2 u3 u4 u5 u6 e) := by
  go_enter Tryd.func26, Tryd.ntmps26
  go_upto_region 1 with (fail)
  have KB := (((BK.nil w).more7 (.int .i64 (y)) (.int .i64 (m)) (.int .i64 (d)) (.int .i64 (h)) (.int .i64 (i)) (.int .i64 (s)) (.int .i64 (n)) 27).more7 (.int .i64 0) (.int .i64 0) (.int .i64 0) (.int .i64 0) (.int .i64 0) (.int .i64 0) (.int .i64 0) 27)
  simp only [World.size_alloc] at KB
  generalize ((w.alloc (.cells #[.int .i64 (y), .int .i64 (m), .int .i64 (d), .int .i64 (h), .int .i64 (i), .int .i64 (s), .int .i64 (n)] 27)).alloc (.cells #[.int .i64 0, .int .i64 0, .int .i64 0, .int .i64 0, .int .i64 0, .int .i64 0, .int .i64 0] 27)) = w0 at *
  obtain ⟨_, q0a, q0b, q0c, q0d, q0e, q0f, q0g, _⟩ := (KB.tail.head).seven
  go_wp2_with fail
  clear q0a q0b q0c q0d q0e q0f q0g
  refine (RI.out _ (L.mono KB.hb)).mono ?_
  rintro e w1 ⟨rfl, k⟩
  replace KB := KB.below k
  clear k
  obtain ⟨_, q0a, q0b, q0c, q0d, q0e, q0f, q0g, _⟩ := (KB.tail.head).seven
  go_wp2_with fail
  clear q0a q0b q0c q0d q0e q0f q0g
  refine (CR.out _ (L.mono KB.hb)).mono ?_
  rintro e w2 ⟨rfl, k⟩
  replace KB := KB.below k
  clear k
  go_upto_region 4 with (fail)
  have ig0 : w2.heap.size ≠ w.heap.size + 1 := Nat.ne_of_gt (KB.head).lt
  have og0 := Ne.symm ig0
  have ig1 : w2.heap.size ≠ w.heap.size := Nat.ne_of_gt (KB.tail.head).lt
  have og1 := Ne.symm ig1
  have ggg : w.heap.size ≤ w2.heap.size := KB.hb.size
  replace KB := KB.more4 (.int .i64 (t0)) (.int .i64 (t1)) (.int .i64 (t2)) (.int .i64 (t3)) 25
  generalize w2.alloc (.cells #[.int .i64 (t0), .int .i64 (t1), .int .i64 (t2), .int .i64 (t3)] 25) = w3 at *
  generalize w2.heap.size = g at *
  obtain ⟨_, q0a, q0b, q0c, q0d, q0e, q0f, q0g, _⟩ := (KB.tail.tail.head).seven
  obtain ⟨_, q1a, q1b, q1c, q1d, _⟩ := (KB.head).four
  go_wp2_with fail
  clear q0a q0b q0c q0d q0e q0f q0g q1a q1b q1c q1d
  refine (MV.out _ (L.mono KB.hb)).mono ?_
  rintro e w4 ⟨rfl, k⟩
  replace KB := KB.below k
  clear k
  obtain ⟨_, ra, rb, rc, rd, re, rf, rg, fa, fb, fc, fd, fe, ff, fg⟩ := (KB.tail.head).seven
  go_wp2
  obtain ⟨_, P0, P1, P2, P3, P4, P5, P6, _⟩ := ((KB.tail.head).self7 (.int .i64 (u0)) (.int .i64 (u1)) (.int .i64 (u2)) (.int .i64 (u3)) (.int .i64 (u4)) (.int .i64 (u5)) (.int .i64 (u6))).seven
  have HB := (((((((KB.hb.setCell (p := ⟨w.heap.size + 1, 0, none⟩) (by show _ ≤ w.heap.size + 1; omega) (.int .i64 (u0))).setCell (p := ⟨w.heap.size + 1, 1, none⟩) (by show _ ≤ w.heap.size + 1; omega) (.int .i64 (u1))).setCell (p := ⟨w.heap.size + 1, 2, none⟩) (by show _ ≤ w.heap.size + 1; omega) (.int .i64 (u2))).setCell (p := ⟨w.heap.size + 1, 3, none⟩) (by show _ ≤ w.heap.size + 1; omega) (.int .i64 (u3))).setCell (p := ⟨w.heap.size + 1, 4, none⟩) (by show _ ≤ w.heap.size + 1; omega) (.int .i64 (u4))).setCell (p := ⟨w.heap.size + 1, 5, none⟩) (by show _ ≤ w.heap.size + 1; omega) (.int .i64 (u5))).setCell (p := ⟨w.heap.size + 1, 6, none⟩) (by show _ ≤ w.heap.size + 1; omega) (.int .i64 (u6)))
  exact bodyPost_ret (v := .tuple #[.agg #[.int .i64 (u0), .int .i64 (u1), .int .i64 (u2), .int .i64 (u3), .int .i64 (u4), .int .i64 (u5), .int .i64 (u6)], .int .i64 (e)]) (by simp [results, Tryd.results26, go_sem, P0, P1, P2, P3, P4, P5, P6]) rfl ⟨rfl, HB⟩
set_option maxRecDepth 100000 in
set_option maxHeartbeats 8000000 in
theorem sinceN_a (y m d h i s n y' m' d' h' i' s' n' a0 a1 : Int) (N1 : Hid (∀ W, Tabs W → Calls Tryd.prog 8 #[.agg #[.int .i64 (y), .int .i64 (m), .int .i64 (d), .int .i64 (h), .int .i64 (i), .int .i64 (s), .int .i64 (n)]] W (fun o w' => o = .returned (.tuple #[.agg #[.int .i64 (a0), .int .u64 (a1)], .bool false]) ∧ Below W.heap.size W w'))) (w : World) (L : Tabs w) :
    Calls Tryd.prog 19 #[.agg #[.int .i64 (y), .int .i64 (m), .int .i64 (d), .int .i64 (h), .int .i64 (i), .int .i64 (s), .int .i64 (n)], .agg #[.int .i64 (y'), .int .i64 (m'), .int .i64 (d'), .int .i64 (h'), .int .i64 (i'), .int .i64 (s'), .int .i64 (n')]] w (RetWN w 0 1) := by
  go_enter Tryd.func19, Tryd.ntmps19
  go_upto_region 1 with (fail)
  have KB := ((((BK.nil w).more7 (.int .i64 (y)) (.int .i64 (m)) (.int .i64 (d)) (.int .i64 (h)) (.int .i64 (i)) (.int .i64 (s)) (.int .i64 (n)) 27).more7 (.int .i64 (y')) (.int .i64 (m')) (.int .i64 (d')) (.int .i64 (h')) (.int .i64 (i')) (.int .i64 (s')) (.int .i64 (n')) 27).more2 (.int .i64 0) (.int .u64 0) 30)
  simp only [World.size_alloc] at KB
  generalize (((w.alloc (.cells #[.int .i64 (y), .int .i64 (m), .int .i64 (d), .int .i64 (h), .int .i64 (i), .int .i64 (s), .int .i64 (n)] 27)).alloc (.cells #[.int .i64 (y'), .int .i64 (m'), .int .i64 (d'), .int .i64 (h'), .int .i64 (i'), .int .i64 (s'), .int .i64 (n')] 27)).alloc (.cells #[.int .i64 0, .int .u64 0] 30)) = w0 at *
  obtain ⟨_, q0a, q0b, q0c, q0d, q0e, q0f, q0g, _⟩ := (KB.tail.tail.head).seven
  go_wp2_with fail
  clear q0a q0b q0c q0d q0e q0f q0g
  refine (N1.out _ (L.mono KB.hb)).mono ?_
  rintro e w1 ⟨rfl, k⟩
  replace KB := KB.below k
  clear k
  go_upto_region 2 with (fail)
  have ig0 : w1.heap.size ≠ w.heap.size + 1 + 1 := Nat.ne_of_gt (KB.head).lt
  have og0 := Ne.symm ig0
  have ig1 : w1.heap.size ≠ w.heap.size + 1 := Nat.ne_of_gt (KB.tail.head).lt
  have og1 := Ne.symm ig1
  have ig2 : w1.heap.size ≠ w.heap.size := Nat.ne_of_gt (KB.tail.tail.head).lt
  have og2 := Ne.symm ig2
  have ggg : w.heap.size ≤ w1.heap.size := KB.hb.size
  replace KB := KB.more2 (.int .i64 (a0)) (.int .u64 (a1)) 30
  generalize w1.alloc (.cells #[.int .i64 (a0), .int .u64 (a1)] 30) = w2 at *
  generalize w1.heap.size = g at *
  obtain ⟨_, ra, rb, fa, fb⟩ := (KB.tail.head).two
  go_wp2
  obtain ⟨_, P0, P1, _⟩ := ((KB.tail.head).self2 (.int .i64 0) (.int .u64 0)).two
  have HB := ((KB.hb.setCell (p := ⟨w.heap.size + 1 + 1, 0, none⟩) (by show _ ≤ w.heap.size + 1 + 1; omega) (.int .i64 0)).setCell (p := ⟨w.heap.size + 1 + 1, 1, none⟩) (by show _ ≤ w.heap.size + 1 + 1; omega) (.int .u64 0))
  exact bodyPost_ret (v := .tuple #[.agg #[.int .i64 0, .int .u64 0], .int .i64 (1)]) (by simp [results, Tryd.results19, go_sem, P0, P1]) rfl ⟨rfl, HB⟩
set_option maxRecDepth 100000 in
set_option maxHeartbeats 8000000 in
theorem sinceN_b (y m d h i s n y' m' d' h' i' s' n' a0 a1 b0 b1 : Int) (N1 : Hid (∀ W, Tabs W → Calls Tryd.prog 8 #[.agg #[.int .i64 (y), .int .i64 (m), .int .i64 (d), .int .i64 (h), .int .i64 (i), .int .i64 (s), .int .i64 (n)]] W (fun o w' => o = .returned (.tuple #[.agg #[.int .i64 (a0), .int .u64 (a1)], .bool true]) ∧ Below W.heap.size W w'))) (N2 : Hid (∀ W, Tabs W → Calls Tryd.prog 8 #[.agg #[.int .i64 (y'), .int .i64 (m'), .int .i64 (d'), .int .i64 (h'), .int .i64 (i'), .int .i64 (s'), .int .i64 (n')]] W (fun o w' => o = .returned (.tuple #[.agg #[.int .i64 (b0), .int .u64 (b1)], .bool false]) ∧ Below W.heap.size W w'))) (w : World) (L : Tabs w) :
    Calls Tryd.prog 19 #[.agg #[.int .i64 (y), .int .i64 (m), .int .i64 (d), .int .i64 (h), .int .i64 (i), .int .i64 (s), .int .i64 (n)], .agg #[.int .i64 (y'), .int .i64 (m'), .int .i64 (d'), .int .i64 (h'), .int .i64 (i'), .int .i64 (s'), .int .i64 (n')]] w (RetWN w 0 1) := by
  go_enter Tryd.func19, Tryd.ntmps19
  go_upto_region 1 with (fail)
  have KB := ((((BK.nil w).more7 (.int .i64 (y)) (.int .i64 (m)) (.int .i64 (d)) (.int .i64 (h)) (.int .i64 (i)) (.int .i64 (s)) (.int .i64 (n)) 27).more7 (.int .i64 (y')) (.int .i64 (m')) (.int .i64 (d')) (.int .i64 (h')) (.int .i64 (i')) (.int .i64 (s')) (.int .i64 (n')) 27).more2 (.int .i64 0) (.int .u64 0) 30)
  simp only [World.size_alloc] at KB
  generalize (((w.alloc (.cells #[.int .i64 (y), .int .i64 (m), .int .i64 (d), .int .i64 (h), .int .i64 (i), .int .i64 (s), .int .i64 (n)] 27)).alloc (.cells #[.int .i64 (y'), .int .i64 (m'), .int .i64 (d'), .int .i64 (h'), .int .i64 (i'), .int .i64 (s'), .int .i64 (n')] 27)).alloc (.cells #[.int .i64 0, .int .u64 0] 30)) = w0 at *
  obtain ⟨_, q0a, q0b, q0c, q0d, q0e, q0f, q0g, _⟩ := (KB.tail.tail.head).seven
  go_wp2_with fail
  clear q0a q0b q0c q0d q0e q0f q0g
  refine (N1.out _ (L.mono KB.hb)).mono ?_
  rintro e w1 ⟨rfl, k⟩
  replace KB := KB.below k
  clear k
  go_upto_region 2 with (fail)
  have ig0 : w1.heap.size ≠ w.heap.size + 1 + 1 := Nat.ne_of_gt (KB.head).lt
  have og0 := Ne.symm ig0
  have ig1 : w1.heap.size ≠ w.heap.size + 1 := Nat.ne_of_gt (KB.tail.head).lt
  have og1 := Ne.symm ig1
  have ig2 : w1.heap.size ≠ w.heap.size := Nat.ne_of_gt (KB.tail.tail.head).lt
  have og2 := Ne.symm ig2
  have ggg : w.heap.size ≤ w1.heap.size := KB.hb.size
  replace KB := KB.more2 (.int .i64 (a0)) (.int .u64 (a1)) 30
  generalize w1.alloc (.cells #[.int .i64 (a0), .int .u64 (a1)] 30) = w2 at *
  generalize w1.heap.size = g at *
  obtain ⟨_, q0a, q0b, q0c, q0d, q0e, q0f, q0g, _⟩ := (KB.tail.tail.head).seven
  go_wp2_with fail
  clear q0a q0b q0c q0d q0e q0f q0g
  refine (N2.out _ (L.mono KB.hb)).mono ?_
  rintro e w3 ⟨rfl, k⟩
  replace KB := KB.below k
  clear k
  go_upto_region 5 with (fail)
  have iq0 : w3.heap.size ≠ g := Nat.ne_of_gt (KB.head).lt
  have oq0 := Ne.symm iq0
  have iq1 : w3.heap.size ≠ w.heap.size + 1 + 1 := Nat.ne_of_gt (KB.tail.head).lt
  have oq1 := Ne.symm iq1
  have iq2 : w3.heap.size ≠ w.heap.size + 1 := Nat.ne_of_gt (KB.tail.tail.head).lt
  have oq2 := Ne.symm iq2
  have iq3 : w3.heap.size ≠ w.heap.size := Nat.ne_of_gt (KB.tail.tail.tail.head).lt
  have oq3 := Ne.symm iq3
  have ggq : w.heap.size ≤ w3.heap.size := KB.hb.size
  replace KB := KB.more2 (.int .i64 (b0)) (.int .u64 (b1)) 30
  generalize w3.alloc (.cells #[.int .i64 (b0), .int .u64 (b1)] 30) = w4 at *
  generalize w3.heap.size = q at *
  obtain ⟨_, ra, rb, fa, fb⟩ := (KB.tail.tail.head).two
  go_wp2
  obtain ⟨_, P0, P1, _⟩ := ((KB.tail.tail.head).self2 (.int .i64 0) (.int .u64 0)).two
  have HB := ((KB.hb.setCell (p := ⟨w.heap.size + 1 + 1, 0, none⟩) (by show _ ≤ w.heap.size + 1 + 1; omega) (.int .i64 0)).setCell (p := ⟨w.heap.size + 1 + 1, 1, none⟩) (by show _ ≤ w.heap.size + 1 + 1; omega) (.int .u64 0))
  exact bodyPost_ret (v := .tuple #[.agg #[.int .i64 0, .int .u64 0], .int .i64 (1)]) (by simp [results, Tryd.results19, go_sem, P0, P1]) rfl ⟨rfl, HB⟩
set_option maxRecDepth 100000 in
set_option maxHeartbeats 8000000 in
theorem sinceN_core (y m d h i s n y' m' d' h' i' s' n' a0 a1 b0 b1 s0 s1 e : Int) (N1 : Hid (∀ W, Tabs W → Calls Tryd.prog 8 #[.agg #[.int .i64 (y), .int .i64 (m), .int .i64 (d), .int .i64 (h), .int .i64 (i), .int .i64 (s), .int .i64 (n)]] W (fun o w' => o = .returned (.tuple #[.agg #[.int .i64 (a0), .int .u64 (a1)], .bool true]) ∧ Below W.heap.size W w'))) (N2 : Hid (∀ W, Tabs W → Calls Tryd.prog 8 #[.agg #[.int .i64 (y'), .int .i64 (m'), .int .i64 (d'), .int .i64 (h'), .int .i64 (i'), .int .i64 (s'), .int .i64 (n')]] W (fun o w' => o = .returned (.tuple #[.agg #[.int .i64 (b0), .int .u64 (b1)], .bool true]) ∧ Below W.heap.size W w'))) (SU : Hid (∀ W, Tabs W → Calls Tryd.prog 48 #[.agg #[.int .i64 (b0), .int .u64 (b1)], .agg #[.int .i64 (a0), .int .u64 (a1)]] W (fun o w' => o = .returned (.tuple #[.agg #[.int .i64 (s0), .int .u64 (s1)], .int .i64 (e)]) ∧ Below W.heap.size W w'))) (w : World) (L : Tabs w) :
    Calls Tryd.prog 19 #[.agg #[.int .i64 (y), .int .i64 (m), .int .i64 (d), .int .i64 (h), .int .i64 (i), .int .i64 (s), .int .i64 (n)], .agg #[.int .i64 (y'), .int .i64 (m'), .int .i64 (d'), .int .i64 (h'), .int .i64 (i'), .int .i64 (s'), .int .i64 (n')]] w (fun o w' => o = .returned (.tuple #[.agg #[.int .i64 (s0), .int .u64 (s1)], .int .i64 (e)]) ∧ Below w.heap.size w w') := by
  go_enter Tryd.func19, Tryd.ntmps19
  go_upto_region 1 with (fail)
  have KB := ((((BK.nil w).more7 (.int .i64 (y)) (.int .i64 (m)) (.int .i64 (d)) (.int .i64 (h)) (.int .i64 (i)) (.int .i64 (s)) (.int .i64 (n)) 27).more7 (.int .i64 (y')) (.int .i64 (m')) (.int .i64 (d')) (.int .i64 (h')) (.int .i64 (i')) (.int .i64 (s')) (.int .i64 (n')) 27).more2 (.int .i64 0) (.int .u64 0) 30)
  simp only [World.size_alloc] at KB
  generalize (((w.alloc (.cells #[.int .i64 (y), .int .i64 (m), .int .i64 (d), .int .i64 (h), .int .i64 (i), .int .i64 (s), .int .i64 (n)] 27)).alloc (.cells #[.int .i64 (y'), .int .i64 (m'), .int .i64 (d'), .int .i64 (h'), .int .i64 (i'), .int .i64 (s'), .int .i64 (n')] 27)).alloc (.cells #[.int .i64 0, .int .u64 0] 30)) = w0 at *
  obtain ⟨_, q0a, q0b, q0c, q0d, q0e, q0f, q0g, _⟩ := (KB.tail.tail.head).seven
  go_wp2_with fail
  clear q0a q0b q0c q0d q0e q0f q0g
  refine (N1.out _ (L.mono KB.hb)).mono ?_
  rintro e w1 ⟨rfl, k⟩
  replace KB := KB.below k
  clear k
  go_upto_region 2 with (fail)
  have ig0 : w1.heap.size ≠ w.heap.size + 1 + 1 := Nat.ne_of_gt (KB.head).lt
  have og0 := Ne.symm ig0
  have ig1 : w1.heap.size ≠ w.heap.size + 1 := Nat.ne_of_gt (KB.tail.head).lt
  have og1 := Ne.symm ig1
  have ig2 : w1.heap.size ≠ w.heap.size := Nat.ne_of_gt (KB.tail.tail.head).lt
  have og2 := Ne.symm ig2
  have ggg : w.heap.size ≤ w1.heap.size := KB.hb.size
  replace KB := KB.more2 (.int .i64 (a0)) (.int .u64 (a1)) 30
  generalize w1.alloc (.cells #[.int .i64 (a0), .int .u64 (a1)] 30) = w2 at *
  generalize w1.heap.size = g at *
  obtain ⟨_, q0a, q0b, q0c, q0d, q0e, q0f, q0g, _⟩ := (KB.tail.tail.head).seven
  go_wp2_with fail
  clear q0a q0b q0c q0d q0e q0f q0g
  refine (N2.out _ (L.mono KB.hb)).mono ?_
  rintro e w3 ⟨rfl, k⟩
  replace KB := KB.below k
  clear k
  go_upto_region 5 with (fail)
  have iq0 : w3.heap.size ≠ g := Nat.ne_of_gt (KB.head).lt
  have oq0 := Ne.symm iq0
  have iq1 : w3.heap.size ≠ w.heap.size + 1 + 1 := Nat.ne_of_gt (KB.tail.head).lt
  have oq1 := Ne.symm iq1
  have iq2 : w3.heap.size ≠ w.heap.size + 1 := Nat.ne_of_gt (KB.tail.tail.head).lt
  have oq2 := Ne.symm iq2
  have iq3 : w3.heap.size ≠ w.heap.size := Nat.ne_of_gt (KB.tail.tail.tail.head).lt
  have oq3 := Ne.symm iq3
  have ggq : w.heap.size ≤ w3.heap.size := KB.hb.size
  replace KB := KB.more2 (.int .i64 (b0)) (.int .u64 (b1)) 30
  generalize w3.alloc (.cells #[.int .i64 (b0), .int .u64 (b1)] 30) = w4 at *
  generalize w3.heap.size = q at *
  obtain ⟨_, q0a, q0b, _⟩ := (KB.tail.head).two
  obtain ⟨_, q1a, q1b, _⟩ := (KB.head).two
  go_wp2_with fail
  clear q0a q0b q1a q1b
  refine (SU.out _ (L.mono KB.hb)).mono ?_
  rintro e w5 ⟨rfl, k⟩
  replace KB := KB.below k
  clear k
  obtain ⟨_, ra, rb, fa, fb⟩ := (KB.tail.tail.head).two
  go_wp2
  obtain ⟨_, P0, P1, _⟩ := ((KB.tail.tail.head).self2 (.int .i64 (s0)) (.int .u64 (s1))).two
  have HB := ((KB.hb.setCell (p := ⟨w.heap.size + 1 + 1, 0, none⟩) (by show _ ≤ w.heap.size + 1 + 1; omega) (.int .i64 (s0))).setCell (p := ⟨w.heap.size + 1 + 1, 1, none⟩) (by show _ ≤ w.heap.size + 1 + 1; omega) (.int .u64 (s1)))
  exact bodyPost_ret (v := .tuple #[.agg #[.int .i64 (s0), .int .u64 (s1)], .int .i64 (e)]) (by simp [results, Tryd.results19, go_sem, P0, P1]) rfl ⟨rfl, HB⟩
set_option maxRecDepth 100000 in
set_option maxHeartbeats 8000000 in
theorem movedN_date (y m d h i s n k u0 u1 u2 : Int) (AD : Hid (∀ W, Tabs W → Calls Tryd.prog 77 #[.agg #[.int .i64 (y), .int .i64 (m), .int .i64 (d)], .int .i64 k] W (fun o w' => o = .returned (.tuple #[.agg #[.int .i64 (u0), .int .i64 (u1), .int .i64 (u2)], .int .i64 (4)]) ∧ Below W.heap.size W w'))) (w : World) (L : Tabs w) :
    Calls Tryd.prog 47 #[.agg #[.int .i64 (y), .int .i64 (m), .int .i64 (d)], .int .i64 k, .agg #[.int .i64 (h), .int .i64 (i), .int .i64 (s), .int .i64 (n)]] w (RetXE w 0 0 0 0 0 0 0 4) := by
  go_enter Tryd.func47, Tryd.ntmps47
  go_upto_region 1 with (fail)
  have KB := ((((BK.nil w).more3 (.int .i64 (y)) (.int .i64 (m)) (.int .i64 (d)) 23).more4 (.int .i64 (h)) (.int .i64 (i)) (.int .i64 (s)) (.int .i64 (n)) 25).more7 (.int .i64 0) (.int .i64 0) (.int .i64 0) (.int .i64 0) (.int .i64 0) (.int .i64 0) (.int .i64 0) 27)
  simp only [World.size_alloc] at KB
  generalize (((w.alloc (.cells #[.int .i64 (y), .int .i64 (m), .int .i64 (d)] 23)).alloc (.cells #[.int .i64 (h), .int .i64 (i), .int .i64 (s), .int .i64 (n)] 25)).alloc (.cells #[.int .i64 0, .int .i64 0, .int .i64 0, .int .i64 0, .int .i64 0, .int .i64 0, .int .i64 0] 27)) = w0 at *
  obtain ⟨_, q0a, q0b, q0c, _⟩ := (KB.tail.tail.head).three
  go_wp2_with fail
  clear q0a q0b q0c
  refine (AD.out _ (L.mono KB.hb)).mono ?_
  rintro e w1 ⟨rfl, k⟩
  replace KB := KB.below k
  clear k
  go_upto_region 2 with (fail)
  have ig0 : w1.heap.size ≠ w.heap.size + 1 + 1 := Nat.ne_of_gt (KB.head).lt
  have og0 := Ne.symm ig0
  have ig1 : w1.heap.size ≠ w.heap.size + 1 := Nat.ne_of_gt (KB.tail.head).lt
  have og1 := Ne.symm ig1
  have ig2 : w1.heap.size ≠ w.heap.size := Nat.ne_of_gt (KB.tail.tail.head).lt
  have og2 := Ne.symm ig2
  have ggg : w.heap.size ≤ w1.heap.size := KB.hb.size
  replace KB := KB.more3 (.int .i64 (u0)) (.int .i64 (u1)) (.int .i64 (u2)) 23
  generalize w1.alloc (.cells #[.int .i64 (u0), .int .i64 (u1), .int .i64 (u2)] 23) = w2 at *
  generalize w1.heap.size = g at *
  obtain ⟨_, q0a, q0b, q0c, _⟩ := (KB.head).three
  obtain ⟨_, q1a, q1b, q1c, q1d, _⟩ := (KB.tail.tail.head).four
  go_upto_region 3 with (fail)
  clear q0a q0b q0c q1a q1b q1c q1d
  have iq0 : w2.heap.size ≠ g := Nat.ne_of_gt (KB.head).lt
  have oq0 := Ne.symm iq0
  have iq1 : w2.heap.size ≠ w.heap.size + 1 + 1 := Nat.ne_of_gt (KB.tail.head).lt
  have oq1 := Ne.symm iq1
  have iq2 : w2.heap.size ≠ w.heap.size + 1 := Nat.ne_of_gt (KB.tail.tail.head).lt
  have oq2 := Ne.symm iq2
  have iq3 : w2.heap.size ≠ w.heap.size := Nat.ne_of_gt (KB.tail.tail.tail.head).lt
  have oq3 := Ne.symm iq3
  have ggq : w.heap.size ≤ w2.heap.size := KB.hb.size
  replace KB := KB.more7 (.int .i64 (u0)) (.int .i64 (u1)) (.int .i64 (u2)) (.int .i64 (h)) (.int .i64 (i)) (.int .i64 (s)) (.int .i64 (n)) 27
  generalize w2.alloc (.cells #[.int .i64 (u0), .int .i64 (u1), .int .i64 (u2), .int .i64 (h), .int .i64 (i), .int .i64 (s), .int .i64 (n)] 27) = w3 at *
  generalize w2.heap.size = q at *
  obtain ⟨_, ra, rb, rc, rd, re, rf, rg, fa, fb, fc, fd, fe, ff, fg⟩ := (KB.tail.tail.head).seven
  go_wp2
  obtain ⟨_, P0, P1, P2, P3, P4, P5, P6, _⟩ := ((KB.tail.tail.head).self7 (.int .i64 0) (.int .i64 0) (.int .i64 0) (.int .i64 0) (.int .i64 0) (.int .i64 0) (.int .i64 0)).seven
  have HB := (((((((KB.hb.setCell (p := ⟨w.heap.size + 1 + 1, 0, none⟩) (by show _ ≤ w.heap.size + 1 + 1; omega) (.int .i64 0)).setCell (p := ⟨w.heap.size + 1 + 1, 1, none⟩) (by show _ ≤ w.heap.size + 1 + 1; omega) (.int .i64 0)).setCell (p := ⟨w.heap.size + 1 + 1, 2, none⟩) (by show _ ≤ w.heap.size + 1 + 1; omega) (.int .i64 0)).setCell (p := ⟨w.heap.size + 1 + 1, 3, none⟩) (by show _ ≤ w.heap.size + 1 + 1; omega) (.int .i64 0)).setCell (p := ⟨w.heap.size + 1 + 1, 4, none⟩) (by show _ ≤ w.heap.size + 1 + 1; omega) (.int .i64 0)).setCell (p := ⟨w.heap.size + 1 + 1, 5, none⟩) (by show _ ≤ w.heap.size + 1 + 1; omega) (.int .i64 0)).setCell (p := ⟨w.heap.size + 1 + 1, 6, none⟩) (by show _ ≤ w.heap.size + 1 + 1; omega) (.int .i64 0))
  exact bodyPost_ret (v := .tuple #[.agg #[.int .i64 0, .int .i64 0, .int .i64 0, .int .i64 0, .int .i64 0, .int .i64 0, .int .i64 0], .int .i64 (4)]) (by simp [results, Tryd.results47, go_sem, P0, P1, P2, P3, P4, P5, P6]) rfl ⟨rfl, HB⟩
set_option maxRecDepth 100000 in
set_option maxHeartbeats 8000000 in
theorem movedN_no (y m d h i s n k u0 u1 u2 : Int) (AD : Hid (∀ W, Tabs W → Calls Tryd.prog 77 #[.agg #[.int .i64 (y), .int .i64 (m), .int .i64 (d)], .int .i64 k] W (fun o w' => o = .returned (.tuple #[.agg #[.int .i64 (u0), .int .i64 (u1), .int .i64 (u2)], .int .i64 (0)]) ∧ Below W.heap.size W w'))) (RI : Hid (∀ W, Tabs W → Calls Tryd.prog 16 #[.agg #[.int .i64 (u0), .int .i64 (u1), .int .i64 (u2), .int .i64 (h), .int .i64 (i), .int .i64 (s), .int .i64 (n)]] W (fun o w' => o = .returned (.bool false) ∧ Below W.heap.size W w'))) (w : World) (L : Tabs w) :
    Calls Tryd.prog 47 #[.agg #[.int .i64 (y), .int .i64 (m), .int .i64 (d)], .int .i64 k, .agg #[.int .i64 (h), .int .i64 (i), .int .i64 (s), .int .i64 (n)]] w (RetXE w 0 0 0 0 0 0 0 4) := by
  go_enter Tryd.func47, Tryd.ntmps47
  go_upto_region 1 with (fail)
  have KB := ((((BK.nil w).more3 (.int .i64 (y)) (.int .i64 (m)) (.int .i64 (d)) 23).more4 (.int .i64 (h)) (.int .i64 (i)) (.int .i64 (s)) (.int .i64 (n)) 25).more7 (.int .i64 0) (.int .i64 0) (.int .i64 0) (.int .i64 0) (.int .i64 0) (.int .i64 0) (.int .i64 0) 27)
  simp only [World.size_alloc] at KB
  generalize (((w.alloc (.cells #[.int .i64 (y), .int .i64 (m), .int .i64 (d)] 23)).alloc (.cells #[.int .i64 (h), .int .i64 (i), .int .i64 (s), .int .i64 (n)] 25)).alloc (.cells #[.int .i64 0, .int .i64 0, .int .i64 0, .int .i64 0, .int .i64 0, .int .i64 0, .int .i64 0] 27)) = w0 at *
  obtain ⟨_, q0a, q0b, q0c, _⟩ := (KB.tail.tail.head).three
  go_wp2_with fail
  clear q0a q0b q0c
  refine (AD.out _ (L.mono KB.hb)).mono ?_
  rintro e w1 ⟨rfl, k⟩
  replace KB := KB.below k
  clear k
  go_upto_region 2 with (fail)
  have ig0 : w1.heap.size ≠ w.heap.size + 1 + 1 := Nat.ne_of_gt (KB.head).lt
  have og0 := Ne.symm ig0
  have ig1 : w1.heap.size ≠ w.heap.size + 1 := Nat.ne_of_gt (KB.tail.head).lt
  have og1 := Ne.symm ig1
  have ig2 : w1.heap.size ≠ w.heap.size := Nat.ne_of_gt (KB.tail.tail.head).lt
  have og2 := Ne.symm ig2
  have ggg : w.heap.size ≤ w1.heap.size := KB.hb.size
  replace KB := KB.more3 (.int .i64 (u0)) (.int .i64 (u1)) (.int .i64 (u2)) 23
  generalize w1.alloc (.cells #[.int .i64 (u0), .int .i64 (u1), .int .i64 (u2)] 23) = w2 at *
  generalize w1.heap.size = g at *
  obtain ⟨_, q0a, q0b, q0c, _⟩ := (KB.head).three
  obtain ⟨_, q1a, q1b, q1c, q1d, _⟩ := (KB.tail.tail.head).four
  go_upto_region 3 with (fail)
  clear q0a q0b q0c q1a q1b q1c q1d
  have iq0 : w2.heap.size ≠ g := Nat.ne_of_gt (KB.head).lt
  have oq0 := Ne.symm iq0
  have iq1 : w2.heap.size ≠ w.heap.size + 1 + 1 := Nat.ne_of_gt (KB.tail.head).lt
  have oq1 := Ne.symm iq1
  have iq2 : w2.heap.size ≠ w.heap.size + 1 := Nat.ne_of_gt (KB.tail.tail.head).lt
  have oq2 := Ne.symm iq2
  have iq3 : w2.heap.size ≠ w.heap.size := Nat.ne_of_gt (KB.tail.tail.tail.head).lt
  have oq3 := Ne.symm iq3
  have ggq : w.heap.size ≤ w2.heap.size := KB.hb.size
  replace KB := KB.more7 (.int .i64 (u0)) (.int .i64 (u1)) (.int .i64 (u2)) (.int .i64 (h)) (.int .i64 (i)) (.int .i64 (s)) (.int .i64 (n)) 27
  generalize w2.alloc (.cells #[.int .i64 (u0), .int .i64 (u1), .int .i64 (u2), .int .i64 (h), .int .i64 (i), .int .i64 (s), .int .i64 (n)] 27) = w3 at *
  generalize w2.heap.size = q at *
  obtain ⟨_, q0a, q0b, q0c, q0d, q0e, q0f, q0g, _⟩ := (KB.head).seven
  go_wp2_with fail
  clear q0a q0b q0c q0d q0e q0f q0g
  refine (RI.out _ (L.mono KB.hb)).mono ?_
  rintro e w4 ⟨rfl, k⟩
  replace KB := KB.below k
  clear k
  obtain ⟨_, ra, rb, rc, rd, re, rf, rg, fa, fb, fc, fd, fe, ff, fg⟩ := (KB.tail.tail.head).seven
  go_wp2
  obtain ⟨_, P0, P1, P2, P3, P4, P5, P6, _⟩ := ((KB.tail.tail.head).self7 (.int .i64 0) (.int .i64 0) (.int .i64 0) (.int .i64 0) (.int .i64 0) (.int .i64 0) (.int .i64 0)).seven
  have HB := (((((((KB.hb.setCell (p := ⟨w.heap.size + 1 + 1, 0, none⟩) (by show _ ≤ w.heap.size + 1 + 1; omega) (.int .i64 0)).setCell (p := ⟨w.heap.size + 1 + 1, 1, none⟩) (by show _ ≤ w.heap.size + 1 + 1; omega) (.int .i64 0)).setCell (p := ⟨w.heap.size + 1 + 1, 2, none⟩) (by show _ ≤ w.heap.size + 1 + 1; omega) (.int .i64 0)).setCell (p := ⟨w.heap.size + 1 + 1, 3, none⟩) (by show _ ≤ w.heap.size + 1 + 1; omega) (.int .i64 0)).setCell (p := ⟨w.heap.size + 1 + 1, 4, none⟩) (by show _ ≤ w.heap.size + 1 + 1; omega) (.int .i64 0)).setCell (p := ⟨w.heap.size + 1 + 1, 5, none⟩) (by show _ ≤ w.heap.size + 1 + 1; omega) (.int .i64 0)).setCell (p := ⟨w.heap.size + 1 + 1, 6, none⟩) (by show _ ≤ w.heap.size + 1 + 1; omega) (.int .i64 0))
  exact bodyPost_ret (v := .tuple #[.agg #[.int .i64 0, .int .i64 0, .int .i64 0, .int .i64 0, .int .i64 0, .int .i64 0, .int .i64 0], .int .i64 (4)]) (by simp [results, Tryd.results47, go_sem, P0, P1, P2, P3, P4, P5, P6]) rfl ⟨rfl, HB⟩
set_option maxRecDepth 100000 in
set_option maxHeartbeats 8000000 in
theorem movedN_yes (y m d h i s n k u0 u1 u2 : Int) (AD : Hid (∀ W, Tabs W → Calls Tryd.prog 77 #[.agg #[.int .i64 (y), .int .i64 (m), .int .i64 (d)], .int .i64 k] W (fun o w' => o = .returned (.tuple #[.agg #[.int .i64 (u0), .int .i64 (u1), .int .i64 (u2)], .int .i64 (0)]) ∧ Below W.heap.size W w'))) (RI : Hid (∀ W, Tabs W → Calls Tryd.prog 16 #[.agg #[.int .i64 (u0), .int .i64 (u1), .int .i64 (u2), .int .i64 (h), .int .i64 (i), .int .i64 (s), .int .i64 (n)]] W (fun o w' => o = .returned (.bool true) ∧ Below W.heap.size W w'))) (w : World) (L : Tabs w) :
    Calls Tryd.prog 47 #[.agg #[.int .i64 (y), .int .i64 (m), .int .i64 (d)], .int .i64 k, .agg #[.int .i64 (h), .int .i64 (i), .int .i64 (s), .int .i64 (n)]] w (RetXE w u0 u1 u2 h i s n 0) := by
  go_enter Tryd.func47, Tryd.ntmps47
  go_upto_region 1 with (fail)
  have KB := ((((BK.nil w).more3 (.int .i64 (y)) (.int .i64 (m)) (.int .i64 (d)) 23).more4 (.int .i64 (h)) (.int .i64 (i)) (.int .i64 (s)) (.int .i64 (n)) 25).more7 (.int .i64 0) (.int .i64 0) (.int .i64 0) (.int .i64 0) (.int .i64 0) (.int .i64 0) (.int .i64 0) 27)
  simp only [World.size_alloc] at KB
  generalize (((w.alloc (.cells #[.int .i64 (y), .int .i64 (m), .int .i64 (d)] 23)).alloc (.cells #[.int .i64 (h), .int .i64 (i), .int .i64 (s), .int .i64 (n)] 25)).alloc (.cells #[.int .i64 0, .int .i64 0, .int .i64 0, .int .i64 0, .int .i64 0, .int .i64 0, .int .i64 0] 27)) = w0 at *
  obtain ⟨_, q0a, q0b, q0c, _⟩ := (KB.tail.tail.head).three
  go_wp2_with fail
  clear q0a q0b q0c
  refine (AD.out _ (L.mono KB.hb)).mono ?_
  rintro e w1 ⟨rfl, k⟩
  replace KB := KB.below k
  clear k
  go_upto_region 2 with (fail)
  have ig0 : w1.heap.size ≠ w.heap.size + 1 + 1 := Nat.ne_of_gt (KB.head).lt
  have og0 := Ne.symm ig0
  have ig1 : w1.heap.size ≠ w.heap.size + 1 := Nat.ne_of_gt (KB.tail.head).lt
  have og1 := Ne.symm ig1
  have ig2 : w1.heap.size ≠ w.heap.size := Nat.ne_of_gt (KB.tail.tail.head).lt
  have og2 := Ne.symm ig2
  have ggg : w.heap.size ≤ w1.heap.size := KB.hb.size
  replace KB := KB.more3 (.int .i64 (u0)) (.int .i64 (u1)) (.int .i64 (u2)) 23
  generalize w1.alloc (.cells #[.int .i64 (u0), .int .i64 (u1), .int .i64 (u2)] 23) = w2 at *
  generalize w1.heap.size = g at *
  obtain ⟨_, q0a, q0b, q0c, _⟩ := (KB.head).three
  obtain ⟨_, q1a, q1b, q1c, q1d, _⟩ := (KB.tail.tail.head).four
  go_upto_region 3 with (fail)
  clear q0a q0b q0c q1a q1b q1c q1d
  have iq0 : w2.heap.size ≠ g := Nat.ne_of_gt (KB.head).lt
  have oq0 := Ne.symm iq0
  have iq1 : w2.heap.size ≠ w.heap.size + 1 + 1 := Nat.ne_of_gt (KB.tail.head).lt
  have oq1 := Ne.symm iq1
  have iq2 : w2.heap.size ≠ w.heap.size + 1 := Nat.ne_of_gt (KB.tail.tail.head).lt
  have oq2 := Ne.symm iq2
  have iq3 : w2.heap.size ≠ w.heap.size := Nat.ne_of_gt (KB.tail.tail.tail.head).lt
  have oq3 := Ne.symm iq3
  have ggq : w.heap.size ≤ w2.heap.size := KB.hb.size
  replace KB := KB.more7 (.int .i64 (u0)) (.int .i64 (u1)) (.int .i64 (u2)) (.int .i64 (h)) (.int .i64 (i)) (.int .i64 (s)) (.int .i64 (n)) 27
  generalize w2.alloc (.cells #[.int .i64 (u0), .int .i64 (u1), .int .i64 (u2), .int .i64 (h), .int .i64 (i), .int .i64 (s), .int .i64 (n)] 27) = w3 at *
  generalize w2.heap.size = q at *
  obtain ⟨_, q0a, q0b, q0c, q0d, q0e, q0f, q0g, _⟩ := (KB.head).seven
  go_wp2_with fail
  clear q0a q0b q0c q0d q0e q0f q0g
  refine (RI.out _ (L.mono KB.hb)).mono ?_
  rintro e w4 ⟨rfl, k⟩
  replace KB := KB.below k
  clear k
  obtain ⟨_, j0a, j0b, j0c, j0d, j0e, j0f, j0g, _⟩ := (KB.head).seven
  obtain ⟨_, ra, rb, rc, rd, re, rf, rg, fa, fb, fc, fd, fe, ff, fg⟩ := (KB.tail.tail.head).seven
  go_wp2
  obtain ⟨_, P0, P1, P2, P3, P4, P5, P6, _⟩ := ((KB.tail.tail.head).self7 (.int .i64 (u0)) (.int .i64 (u1)) (.int .i64 (u2)) (.int .i64 (h)) (.int .i64 (i)) (.int .i64 (s)) (.int .i64 (n))).seven
  have HB := (((((((KB.hb.setCell (p := ⟨w.heap.size + 1 + 1, 0, none⟩) (by show _ ≤ w.heap.size + 1 + 1; omega) (.int .i64 (u0))).setCell (p := ⟨w.heap.size + 1 + 1, 1, none⟩) (by show _ ≤ w.heap.size + 1 + 1; omega) (.int .i64 (u1))).setCell (p := ⟨w.heap.size + 1 + 1, 2, none⟩) (by show _ ≤ w.heap.size + 1 + 1; omega) (.int .i64 (u2))).setCell (p := ⟨w.heap.size + 1 + 1, 3, none⟩) (by show _ ≤ w.heap.size + 1 + 1; omega) (.int .i64 (h))).setCell (p := ⟨w.heap.size + 1 + 1, 4, none⟩) (by show _ ≤ w.heap.size + 1 + 1; omega) (.int .i64 (i))).setCell (p := ⟨w.heap.size + 1 + 1, 5, none⟩) (by show _ ≤ w.heap.size + 1 + 1; omega) (.int .i64 (s))).setCell (p := ⟨w.heap.size + 1 + 1, 6, none⟩) (by show _ ≤ w.heap.size + 1 + 1; omega) (.int .i64 (n)))
  exact bodyPost_ret (v := .tuple #[.agg #[.int .i64 (u0), .int .i64 (u1), .int .i64 (u2), .int .i64 (h), .int .i64 (i), .int .i64 (s), .int .i64 (n)], .int .i64 (0)]) (by simp [results, Tryd.results47, go_sem, P0, P1, P2, P3, P4, P5, P6]) rfl ⟨rfl, HB⟩
set_option maxRecDepth 100000 in
set_option maxHeartbeats 4000000 in
theorem or2N_0 (g : Nat) (x0 x1 : Int) (h : (x0 != 0) = true) (w : World) (B : Blk w g [.int .i64 x0, .int .i64 x1]) :
    Calls Tryd.prog 49 #[.slice (some ⟨g, 0, none⟩) 2 2] w (fun e w' => e = .returned (.int .i64 x0) ∧ w = w') := by
  obtain ⟨_, c0, c1, _⟩ := B.two
  clear B
  go_enter Tryd.func49, Tryd.ntmps49
  go_wp2
  go_loop [8] (fun v8 => ∃ i : Nat, i ≤ 0 ∧ v8 = .int .i64 i) (fun v8 => 2 - (intOf v8).toNat)
  case atStart => exact ⟨0, by omega, rfl⟩
  case round =>
    obtain ⟨i, hi, rfl⟩ := hrel
    obtain rfl : i = 0 := by omega
    go_wp2
    go_ret
    exact ⟨rfl, rfl⟩
set_option maxRecDepth 100000 in
set_option maxHeartbeats 4000000 in
theorem or2N_1 (g : Nat) (x1 : Int) (h : (x1 != 0) = true) (w : World) (B : Blk w g [.int .i64 0, .int .i64 x1]) :
    Calls Tryd.prog 49 #[.slice (some ⟨g, 0, none⟩) 2 2] w (fun e w' => e = .returned (.int .i64 x1) ∧ w = w') := by
  obtain ⟨_, c0, c1, _⟩ := B.two
  clear B
  go_enter Tryd.func49, Tryd.ntmps49
  go_wp2
  go_loop [8] (fun v8 => ∃ i : Nat, i ≤ 1 ∧ v8 = .int .i64 i) (fun v8 => 2 - (intOf v8).toNat)
  case atStart => exact ⟨0, by omega, rfl⟩
  case round =>
    obtain ⟨i, hi, rfl⟩ := hrel
    have hc : i = 0 ∨ i = 1 := by omega
    rcases hc with rfl | rfl
    · go_wp2
      go_round
      case rel => exact ⟨1, by omega, by go_num⟩
      case measure => simp [intOf]
    · go_wp2
      go_ret
      exact ⟨rfl, rfl⟩
set_option maxRecDepth 100000 in
set_option maxHeartbeats 4000000 in
theorem or2N_2 (g : Nat) (w : World) (B : Blk w g [.int .i64 0, .int .i64 0]) :
    Calls Tryd.prog 49 #[.slice (some ⟨g, 0, none⟩) 2 2] w (fun e w' => e = .returned (.int .i64 0) ∧ w = w') := by
  obtain ⟨_, c0, c1, _⟩ := B.two
  clear B
  go_enter Tryd.func49, Tryd.ntmps49
  go_wp2
  go_loop [8] (fun v8 => ∃ i : Nat, i ≤ 2 ∧ v8 = .int .i64 i) (fun v8 => 2 - (intOf v8).toNat)
  case atStart => exact ⟨0, by omega, rfl⟩
  case round =>
    obtain ⟨i, hi, rfl⟩ := hrel
    have hc : i = 0 ∨ i = 1 ∨ i = 2 := by omega
    rcases hc with rfl | rfl | rfl
    · go_wp2
      go_round
      case rel => exact ⟨1, by omega, by go_num⟩
      case measure => simp [intOf]
    · go_wp2
      go_round
      case rel => exact ⟨2, by omega, by go_num⟩
      case measure => simp [intOf]
    · go_wp2
      go_ret
      exact ⟨rfl, rfl⟩
/-- the first of two that isn't 0 -/
def or2 (a b : Int) : Int := if a = 0 then b else a
theorem or2N (g : Nat) (x0 x1 : Int) (w : World) (B : Blk w g [.int .i64 x0, .int .i64 x1]) :
    Calls Tryd.prog 49 #[.slice (some ⟨g, 0, none⟩) 2 2] w (fun e w' => e = .returned (.int .i64 (or2 x0 x1)) ∧ w = w') := by
  unfold or2
  by_cases h0 : x0 = 0
  · subst h0
    rw [if_pos rfl]
    by_cases h1 : x1 = 0
    · subst h1; exact or2N_2 g w B
    · exact or2N_1 g x1 (by simp [h1]) w B
  · rw [if_neg h0]; exact or2N_0 g x0 x1 (by simp [h0]) w B
set_option maxRecDepth 100000 in
set_option maxHeartbeats 8000000 in
theorem cmpN_core (y m d h i s n y' m' d' h' i' s' n' k0 k1 v : Int) (C0 : Hid (∀ W, Tabs W → Calls Tryd.prog 50 #[.agg #[.int .i64 (y), .int .i64 (m), .int .i64 (d)], .agg #[.int .i64 (y'), .int .i64 (m'), .int .i64 (d')]] W (fun o w' => o = .returned (.int .i64 (k0)) ∧ Below W.heap.size W w'))) (C1 : Hid (∀ W, Tabs W → Calls Tryd.prog 51 #[.agg #[.int .i64 (h), .int .i64 (i), .int .i64 (s), .int .i64 (n)], .agg #[.int .i64 (h'), .int .i64 (i'), .int .i64 (s'), .int .i64 (n')]] W (fun o w' => o = .returned (.int .i64 (k1)) ∧ Below W.heap.size W w'))) (OR : Hid (∀ g W, Blk W g [.int .i64 k0, .int .i64 k1] → Calls Tryd.prog 49 #[.slice (some ⟨g, 0, none⟩) 2 2] W (fun e w' => e = .returned (.int .i64 v) ∧ W = w'))) (w : World) (L : Tabs w) :
    Calls Tryd.prog 20 #[.agg #[.int .i64 (y), .int .i64 (m), .int .i64 (d), .int .i64 (h), .int .i64 (i), .int .i64 (s), .int .i64 (n)], .agg #[.int .i64 (y'), .int .i64 (m'), .int .i64 (d'), .int .i64 (h'), .int .i64 (i'), .int .i64 (s'), .int .i64 (n')]] w (RetV w (.int .i64 v)) := by
  go_enter Tryd.func20, Tryd.ntmps20
  go_upto_region 1 with (fail)
  have KB := (((BK.nil w).more7 (.int .i64 (y)) (.int .i64 (m)) (.int .i64 (d)) (.int .i64 (h)) (.int .i64 (i)) (.int .i64 (s)) (.int .i64 (n)) 27).more7 (.int .i64 (y')) (.int .i64 (m')) (.int .i64 (d')) (.int .i64 (h')) (.int .i64 (i')) (.int .i64 (s')) (.int .i64 (n')) 27)
  simp only [World.size_alloc] at KB
  generalize ((w.alloc (.cells #[.int .i64 (y), .int .i64 (m), .int .i64 (d), .int .i64 (h), .int .i64 (i), .int .i64 (s), .int .i64 (n)] 27)).alloc (.cells #[.int .i64 (y'), .int .i64 (m'), .int .i64 (d'), .int .i64 (h'), .int .i64 (i'), .int .i64 (s'), .int .i64 (n')] 27)) = w0 at *
  obtain ⟨_, j0a, j0b, j0c, j0d, j0e, j0f, j0g, _⟩ := (KB.tail.head).seven
  obtain ⟨_, j1a, j1b, j1c, j1d, j1e, j1f, j1g, _⟩ := (KB.head).seven
  go_region_held3 (fun w' => w'.cell? ⟨w.heap.size, 0, none⟩ = some (.int .i64 (y)) ∧ w'.cell? ⟨w.heap.size, 1, none⟩ = some (.int .i64 (m)) ∧ w'.cell? ⟨w.heap.size, 2, none⟩ = some (.int .i64 (d)) ∧ w'.cell? ⟨w.heap.size, 3, none⟩ = some (.int .i64 (h)) ∧ w'.cell? ⟨w.heap.size, 4, none⟩ = some (.int .i64 (i)) ∧ w'.cell? ⟨w.heap.size, 5, none⟩ = some (.int .i64 (s)) ∧ w'.cell? ⟨w.heap.size, 6, none⟩ = some (.int .i64 (n)) ∧ w'.cell? ⟨w.heap.size + 1, 0, none⟩ = some (.int .i64 (y')) ∧ w'.cell? ⟨w.heap.size + 1, 1, none⟩ = some (.int .i64 (m')) ∧ w'.cell? ⟨w.heap.size + 1, 2, none⟩ = some (.int .i64 (d')) ∧ w'.cell? ⟨w.heap.size + 1, 3, none⟩ = some (.int .i64 (h')) ∧ w'.cell? ⟨w.heap.size + 1, 4, none⟩ = some (.int .i64 (i')) ∧ w'.cell? ⟨w.heap.size + 1, 5, none⟩ = some (.int .i64 (s')) ∧ w'.cell? ⟨w.heap.size + 1, 6, none⟩ = some (.int .i64 (n'))) (first | (with_reducible exact ⟨(KB.tail.head).seven.2.1, (KB.tail.head).seven.2.2.1, (KB.tail.head).seven.2.2.2.1, (KB.tail.head).seven.2.2.2.2.1, (KB.tail.head).seven.2.2.2.2.2.1, (KB.tail.head).seven.2.2.2.2.2.2.1, (KB.tail.head).seven.2.2.2.2.2.2.2.1, (KB.head).seven.2.1, (KB.head).seven.2.2.1, (KB.head).seven.2.2.2.1, (KB.head).seven.2.2.2.2.1, (KB.head).seven.2.2.2.2.2.1, (KB.head).seven.2.2.2.2.2.2.1, (KB.head).seven.2.2.2.2.2.2.2.1⟩) | (with_reducible exact ⟨(KB.drew.tail.head).seven.2.1, (KB.drew.tail.head).seven.2.2.1, (KB.drew.tail.head).seven.2.2.2.1, (KB.drew.tail.head).seven.2.2.2.2.1, (KB.drew.tail.head).seven.2.2.2.2.2.1, (KB.drew.tail.head).seven.2.2.2.2.2.2.1, (KB.drew.tail.head).seven.2.2.2.2.2.2.2.1, (KB.drew.head).seven.2.1, (KB.drew.head).seven.2.2.1, (KB.drew.head).seven.2.2.2.1, (KB.drew.head).seven.2.2.2.2.1, (KB.drew.head).seven.2.2.2.2.2.1, (KB.drew.head).seven.2.2.2.2.2.2.1, (KB.drew.head).seven.2.2.2.2.2.2.2.1⟩) | (with_reducible exact ⟨(((KB.more2 (.int .i64 k0) (.int .i64 k1) 3).tail).tail.head).seven.2.1, (((KB.more2 (.int .i64 k0) (.int .i64 k1) 3).tail).tail.head).seven.2.2.1, (((KB.more2 (.int .i64 k0) (.int .i64 k1) 3).tail).tail.head).seven.2.2.2.1, (((KB.more2 (.int .i64 k0) (.int .i64 k1) 3).tail).tail.head).seven.2.2.2.2.1, (((KB.more2 (.int .i64 k0) (.int .i64 k1) 3).tail).tail.head).seven.2.2.2.2.2.1, (((KB.more2 (.int .i64 k0) (.int .i64 k1) 3).tail).tail.head).seven.2.2.2.2.2.2.1, (((KB.more2 (.int .i64 k0) (.int .i64 k1) 3).tail).tail.head).seven.2.2.2.2.2.2.2.1, (((KB.more2 (.int .i64 k0) (.int .i64 k1) 3).tail).head).seven.2.1, (((KB.more2 (.int .i64 k0) (.int .i64 k1) 3).tail).head).seven.2.2.1, (((KB.more2 (.int .i64 k0) (.int .i64 k1) 3).tail).head).seven.2.2.2.1, (((KB.more2 (.int .i64 k0) (.int .i64 k1) 3).tail).head).seven.2.2.2.2.1, (((KB.more2 (.int .i64 k0) (.int .i64 k1) 3).tail).head).seven.2.2.2.2.2.1, (((KB.more2 (.int .i64 k0) (.int .i64 k1) 3).tail).head).seven.2.2.2.2.2.2.1, (((KB.more2 (.int .i64 k0) (.int .i64 k1) 3).tail).head).seven.2.2.2.2.2.2.2.1⟩) | (with_reducible exact ⟨(((KB.drew.more2 (.int .i64 k0) (.int .i64 k1) 3).tail).tail.head).seven.2.1, (((KB.drew.more2 (.int .i64 k0) (.int .i64 k1) 3).tail).tail.head).seven.2.2.1, (((KB.drew.more2 (.int .i64 k0) (.int .i64 k1) 3).tail).tail.head).seven.2.2.2.1, (((KB.drew.more2 (.int .i64 k0) (.int .i64 k1) 3).tail).tail.head).seven.2.2.2.2.1, (((KB.drew.more2 (.int .i64 k0) (.int .i64 k1) 3).tail).tail.head).seven.2.2.2.2.2.1, (((KB.drew.more2 (.int .i64 k0) (.int .i64 k1) 3).tail).tail.head).seven.2.2.2.2.2.2.1, (((KB.drew.more2 (.int .i64 k0) (.int .i64 k1) 3).tail).tail.head).seven.2.2.2.2.2.2.2.1, (((KB.drew.more2 (.int .i64 k0) (.int .i64 k1) 3).tail).head).seven.2.1, (((KB.drew.more2 (.int .i64 k0) (.int .i64 k1) 3).tail).head).seven.2.2.1, (((KB.drew.more2 (.int .i64 k0) (.int .i64 k1) 3).tail).head).seven.2.2.2.1, (((KB.drew.more2 (.int .i64 k0) (.int .i64 k1) 3).tail).head).seven.2.2.2.2.1, (((KB.drew.more2 (.int .i64 k0) (.int .i64 k1) 3).tail).head).seven.2.2.2.2.2.1, (((KB.drew.more2 (.int .i64 k0) (.int .i64 k1) 3).tail).head).seven.2.2.2.2.2.2.1, (((KB.drew.more2 (.int .i64 k0) (.int .i64 k1) 3).tail).head).seven.2.2.2.2.2.2.2.1⟩) | go_keep)
    (first
      | (go_at_call 50; (with_reducible refine (C0.out _ (by with_reducible first | exact L.mono KB.hb | exact L.mono KB.drew.hb)).mono ?_); rintro e W9 ⟨rfl, k⟩
         with_reducible (first | replace KB := KB.below k | replace KB := KB.drew.below k)
         clear k
         obtain ⟨_, k0a, k0b, k0c, k0d, k0e, k0f, k0g, _⟩ := (KB.tail.head).seven
         obtain ⟨_, k1a, k1b, k1c, k1d, k1e, k1f, k1g, _⟩ := (KB.head).seven)
      | (go_at_call 51; (with_reducible refine (C1.out _ (by with_reducible first | exact L.mono KB.hb | exact L.mono KB.drew.hb)).mono ?_); rintro e W9 ⟨rfl, k⟩
         with_reducible (first | replace KB := KB.below k | replace KB := KB.drew.below k)
         clear k
         obtain ⟨_, k0a, k0b, k0c, k0d, k0e, k0f, k0g, _⟩ := (KB.tail.head).seven
         obtain ⟨_, k1a, k1b, k1c, k1d, k1e, k1f, k1g, _⟩ := (KB.head).seven)
      | (go_at_call 49; (with_reducible first | refine (OR.out _ _ (KB.more2 (.int .i64 k0) (.int .i64 k1) 3).head).mono ?_ | refine (OR.out _ _ (KB.drew.more2 (.int .i64 k0) (.int .i64 k1) 3).head).mono ?_); rintro e W9 ⟨rfl, rfl⟩))
  all_goals
    go_wp2
    go_ret
    exact ⟨rfl, by first | exact KB.hb | exact KB.drew.hb | exact ((KB.more2 (.int .i64 k0) (.int .i64 k1) 3).tail).hb | exact ((KB.drew.more2 (.int .i64 k0) (.int .i64 k1) 3).tail).hb⟩
end Go.Proofs.YtlidicnbmfkghaaDoor
