/- The walk of ClockOrders: at any two times it returns true; what was there is as it was. -/
import Derived.Test.YteggdabnhdjfcaaDoorKalive
import Derived.Deep.RegionHeld3
namespace Go.Proofs.YteggdabnhdjfcaaDoor
open Go.RowKit

set_option maxRecDepth 100000 in
set_option maxHeartbeats 8000000 in
theorem orders6_no1 (h m s n h' m' s' n' a b : Int) (q : Bool) (N1 : Hid (∀ W, Sizes W → Calls Tryd.prog 9 #[.agg #[.int .i64 (h), .int .i64 (m), .int .i64 (s), .int .i64 (n)]] W (fun o w' => o = .returned (.tuple #[.int .i64 (a), .bool false]) ∧ Below W.heap.size W w'))) (N2 : Hid (∀ W, Sizes W → Calls Tryd.prog 9 #[.agg #[.int .i64 (h'), .int .i64 (m'), .int .i64 (s'), .int .i64 (n')]] W (fun o w' => o = .returned (.tuple #[.int .i64 (b), .bool q]) ∧ Below W.heap.size W w'))) (AL : Hid (∀ W, Sizes W → Calls Tryd.prog 14 #[] W (fun o w' => o = .returned (.bool true) ∧ Below W.heap.size W w'))) (w : World) (L : Sizes w) :
    Calls Tryd.prog 8 #[.agg #[.int .i64 (h), .int .i64 (m), .int .i64 (s), .int .i64 (n)], .agg #[.int .i64 (h'), .int .i64 (m'), .int .i64 (s'), .int .i64 (n')]] w (RetV w (.bool true)) := by
  go_enter Tryd.func8, Tryd.ntmps8
  go_upto_region 1 with (fail)
  have KB := (((BK.nil w).more4 (.int .i64 (h)) (.int .i64 (m)) (.int .i64 (s)) (.int .i64 (n)) 23).more4 (.int .i64 (h')) (.int .i64 (m')) (.int .i64 (s')) (.int .i64 (n')) 23)
  simp only [World.size_alloc] at KB
  generalize ((w.alloc (.cells #[.int .i64 (h), .int .i64 (m), .int .i64 (s), .int .i64 (n)] 23)).alloc (.cells #[.int .i64 (h'), .int .i64 (m'), .int .i64 (s'), .int .i64 (n')] 23)) = w0 at *
  obtain ⟨_, q0a, q0b, q0c, q0d, _⟩ := (KB.tail.head).four
  go_wp2_with fail
  clear q0a q0b q0c q0d
  refine (N1.out _ (L.mono KB.hb)).mono ?_
  rintro e w1 ⟨rfl, k⟩
  replace KB := KB.below k
  clear k
  obtain ⟨_, q0a, q0b, q0c, q0d, _⟩ := (KB.head).four
  go_wp2_with fail
  clear q0a q0b q0c q0d
  refine (N2.out _ (L.mono KB.hb)).mono ?_
  rintro e w2 ⟨rfl, k⟩
  replace KB := KB.below k
  clear k
  go_wp2_with fail
  refine (AL.out _ (L.mono KB.hb)).mono ?_
  rintro e w3 ⟨rfl, k⟩
  replace KB := KB.below k
  clear k
  have HB := KB.hb
  go_wp2
  go_ret
  exact ⟨rfl, HB⟩
set_option maxRecDepth 100000 in
set_option maxHeartbeats 8000000 in
theorem orders6_no2 (h m s n h' m' s' n' a b : Int) (N1 : Hid (∀ W, Sizes W → Calls Tryd.prog 9 #[.agg #[.int .i64 (h), .int .i64 (m), .int .i64 (s), .int .i64 (n)]] W (fun o w' => o = .returned (.tuple #[.int .i64 (a), .bool true]) ∧ Below W.heap.size W w'))) (N2 : Hid (∀ W, Sizes W → Calls Tryd.prog 9 #[.agg #[.int .i64 (h'), .int .i64 (m'), .int .i64 (s'), .int .i64 (n')]] W (fun o w' => o = .returned (.tuple #[.int .i64 (b), .bool false]) ∧ Below W.heap.size W w'))) (AL : Hid (∀ W, Sizes W → Calls Tryd.prog 14 #[] W (fun o w' => o = .returned (.bool true) ∧ Below W.heap.size W w'))) (w : World) (L : Sizes w) :
    Calls Tryd.prog 8 #[.agg #[.int .i64 (h), .int .i64 (m), .int .i64 (s), .int .i64 (n)], .agg #[.int .i64 (h'), .int .i64 (m'), .int .i64 (s'), .int .i64 (n')]] w (RetV w (.bool true)) := by
  go_enter Tryd.func8, Tryd.ntmps8
  go_upto_region 1 with (fail)
  have KB := (((BK.nil w).more4 (.int .i64 (h)) (.int .i64 (m)) (.int .i64 (s)) (.int .i64 (n)) 23).more4 (.int .i64 (h')) (.int .i64 (m')) (.int .i64 (s')) (.int .i64 (n')) 23)
  simp only [World.size_alloc] at KB
  generalize ((w.alloc (.cells #[.int .i64 (h), .int .i64 (m), .int .i64 (s), .int .i64 (n)] 23)).alloc (.cells #[.int .i64 (h'), .int .i64 (m'), .int .i64 (s'), .int .i64 (n')] 23)) = w0 at *
  obtain ⟨_, q0a, q0b, q0c, q0d, _⟩ := (KB.tail.head).four
  go_wp2_with fail
  clear q0a q0b q0c q0d
  refine (N1.out _ (L.mono KB.hb)).mono ?_
  rintro e w1 ⟨rfl, k⟩
  replace KB := KB.below k
  clear k
  obtain ⟨_, q0a, q0b, q0c, q0d, _⟩ := (KB.head).four
  go_wp2_with fail
  clear q0a q0b q0c q0d
  refine (N2.out _ (L.mono KB.hb)).mono ?_
  rintro e w2 ⟨rfl, k⟩
  replace KB := KB.below k
  clear k
  go_wp2_with fail
  refine (AL.out _ (L.mono KB.hb)).mono ?_
  rintro e w3 ⟨rfl, k⟩
  replace KB := KB.below k
  clear k
  have HB := KB.hb
  go_wp2
  go_ret
  exact ⟨rfl, HB⟩
set_option maxRecDepth 100000 in
set_option maxHeartbeats 8000000 in
theorem orders6_lt (h m s n h' m' s' n' a b : Int) (_g : a < b) (N1 : Hid (∀ W, Sizes W → Calls Tryd.prog 9 #[.agg #[.int .i64 (h), .int .i64 (m), .int .i64 (s), .int .i64 (n)]] W (fun o w' => o = .returned (.tuple #[.int .i64 (a), .bool true]) ∧ Below W.heap.size W w'))) (N2 : Hid (∀ W, Sizes W → Calls Tryd.prog 9 #[.agg #[.int .i64 (h'), .int .i64 (m'), .int .i64 (s'), .int .i64 (n')]] W (fun o w' => o = .returned (.tuple #[.int .i64 (b), .bool true]) ∧ Below W.heap.size W w'))) (CM : Hid (∀ W, Sizes W → Calls Tryd.prog 22 #[.agg #[.int .i64 (h), .int .i64 (m), .int .i64 (s), .int .i64 (n)], .agg #[.int .i64 (h'), .int .i64 (m'), .int .i64 (s'), .int .i64 (n')]] W (fun o w' => o = .returned (.int .i64 (-1)) ∧ Below W.heap.size W w'))) (OF : Hid (∀ W, Sizes W → Calls Tryd.prog 11 #[.int .i64 (a)] W (fun o w' => o = .returned (.tuple #[.agg #[.int .i64 (h), .int .i64 (m), .int .i64 (s), .int .i64 (n)], .bool true]) ∧ Below W.heap.size W w'))) (AL : Hid (∀ W, Sizes W → Calls Tryd.prog 14 #[] W (fun o w' => o = .returned (.bool true) ∧ Below W.heap.size W w'))) (w : World) (L : Sizes w) :
    Calls Tryd.prog 8 #[.agg #[.int .i64 (h), .int .i64 (m), .int .i64 (s), .int .i64 (n)], .agg #[.int .i64 (h'), .int .i64 (m'), .int .i64 (s'), .int .i64 (n')]] w (RetV w (.bool true)) := by
  go_enter Tryd.func8, Tryd.ntmps8
  go_upto_region 1 with (fail)
  have KB := (((BK.nil w).more4 (.int .i64 (h)) (.int .i64 (m)) (.int .i64 (s)) (.int .i64 (n)) 23).more4 (.int .i64 (h')) (.int .i64 (m')) (.int .i64 (s')) (.int .i64 (n')) 23)
  simp only [World.size_alloc] at KB
  generalize ((w.alloc (.cells #[.int .i64 (h), .int .i64 (m), .int .i64 (s), .int .i64 (n)] 23)).alloc (.cells #[.int .i64 (h'), .int .i64 (m'), .int .i64 (s'), .int .i64 (n')] 23)) = w0 at *
  obtain ⟨_, q0a, q0b, q0c, q0d, _⟩ := (KB.tail.head).four
  go_wp2_with fail
  clear q0a q0b q0c q0d
  refine (N1.out _ (L.mono KB.hb)).mono ?_
  rintro e w1 ⟨rfl, k⟩
  replace KB := KB.below k
  clear k
  obtain ⟨_, q0a, q0b, q0c, q0d, _⟩ := (KB.head).four
  go_wp2_with fail
  clear q0a q0b q0c q0d
  refine (N2.out _ (L.mono KB.hb)).mono ?_
  rintro e w2 ⟨rfl, k⟩
  replace KB := KB.below k
  clear k
  have d1 : decide (a < b) = true := decide_eq_true _g
  obtain ⟨_, q0a, q0b, q0c, q0d, _⟩ := (KB.tail.head).four
  obtain ⟨_, q1a, q1b, q1c, q1d, _⟩ := (KB.head).four
  go_wp2_with fail
  clear q0a q0b q0c q0d q1a q1b q1c q1d
  refine (CM.out _ (L.mono KB.hb)).mono ?_
  rintro e w3 ⟨rfl, k⟩
  replace KB := KB.below k
  clear k
  go_wp2_with fail
  refine (OF.out _ (L.mono KB.hb)).mono ?_
  rintro e w4 ⟨rfl, k⟩
  replace KB := KB.below k
  clear k
  go_upto_region 7 with (fail)
  have ig0 : w4.heap.size ≠ w.heap.size + 1 := Nat.ne_of_gt (KB.head).lt
  have og0 := Ne.symm ig0
  have ig1 : w4.heap.size ≠ w.heap.size := Nat.ne_of_gt (KB.tail.head).lt
  have og1 := Ne.symm ig1
  have ggg : w.heap.size ≤ w4.heap.size := KB.hb.size
  replace KB := KB.more4 (.int .i64 (h)) (.int .i64 (m)) (.int .i64 (s)) (.int .i64 (n)) 23
  generalize w4.alloc (.cells #[.int .i64 (h), .int .i64 (m), .int .i64 (s), .int .i64 (n)] 23) = w5 at *
  generalize w4.heap.size = g at *
  go_wp2_with fail
  refine (AL.out _ (L.mono KB.hb)).mono ?_
  rintro e w6 ⟨rfl, k⟩
  replace KB := KB.below k
  clear k
  obtain ⟨_, q0a, q0b, q0c, q0d, _⟩ := (KB.head).four
  obtain ⟨_, q1a, q1b, q1c, q1d, _⟩ := (KB.tail.tail.head).four
  have HB := KB.hb
  go_wp2
  go_ret
  exact ⟨rfl, HB⟩
set_option maxRecDepth 100000 in
set_option maxHeartbeats 8000000 in
theorem orders6_eq (h m s n h' m' s' n' a : Int)  (N1 : Hid (∀ W, Sizes W → Calls Tryd.prog 9 #[.agg #[.int .i64 (h), .int .i64 (m), .int .i64 (s), .int .i64 (n)]] W (fun o w' => o = .returned (.tuple #[.int .i64 (a), .bool true]) ∧ Below W.heap.size W w'))) (N2 : Hid (∀ W, Sizes W → Calls Tryd.prog 9 #[.agg #[.int .i64 (h'), .int .i64 (m'), .int .i64 (s'), .int .i64 (n')]] W (fun o w' => o = .returned (.tuple #[.int .i64 (a), .bool true]) ∧ Below W.heap.size W w'))) (CM : Hid (∀ W, Sizes W → Calls Tryd.prog 22 #[.agg #[.int .i64 (h), .int .i64 (m), .int .i64 (s), .int .i64 (n)], .agg #[.int .i64 (h'), .int .i64 (m'), .int .i64 (s'), .int .i64 (n')]] W (fun o w' => o = .returned (.int .i64 (0)) ∧ Below W.heap.size W w'))) (OF : Hid (∀ W, Sizes W → Calls Tryd.prog 11 #[.int .i64 (a)] W (fun o w' => o = .returned (.tuple #[.agg #[.int .i64 (h), .int .i64 (m), .int .i64 (s), .int .i64 (n)], .bool true]) ∧ Below W.heap.size W w'))) (AL : Hid (∀ W, Sizes W → Calls Tryd.prog 14 #[] W (fun o w' => o = .returned (.bool true) ∧ Below W.heap.size W w'))) (w : World) (L : Sizes w) :
    Calls Tryd.prog 8 #[.agg #[.int .i64 (h), .int .i64 (m), .int .i64 (s), .int .i64 (n)], .agg #[.int .i64 (h'), .int .i64 (m'), .int .i64 (s'), .int .i64 (n')]] w (RetV w (.bool true)) := by
  go_enter Tryd.func8, Tryd.ntmps8
  go_upto_region 1 with (fail)
  have KB := (((BK.nil w).more4 (.int .i64 (h)) (.int .i64 (m)) (.int .i64 (s)) (.int .i64 (n)) 23).more4 (.int .i64 (h')) (.int .i64 (m')) (.int .i64 (s')) (.int .i64 (n')) 23)
  simp only [World.size_alloc] at KB
  generalize ((w.alloc (.cells #[.int .i64 (h), .int .i64 (m), .int .i64 (s), .int .i64 (n)] 23)).alloc (.cells #[.int .i64 (h'), .int .i64 (m'), .int .i64 (s'), .int .i64 (n')] 23)) = w0 at *
  obtain ⟨_, q0a, q0b, q0c, q0d, _⟩ := (KB.tail.head).four
  go_wp2_with fail
  clear q0a q0b q0c q0d
  refine (N1.out _ (L.mono KB.hb)).mono ?_
  rintro e w1 ⟨rfl, k⟩
  replace KB := KB.below k
  clear k
  obtain ⟨_, q0a, q0b, q0c, q0d, _⟩ := (KB.head).four
  go_wp2_with fail
  clear q0a q0b q0c q0d
  refine (N2.out _ (L.mono KB.hb)).mono ?_
  rintro e w2 ⟨rfl, k⟩
  replace KB := KB.below k
  clear k
  obtain ⟨_, q0a, q0b, q0c, q0d, _⟩ := (KB.tail.head).four
  obtain ⟨_, q1a, q1b, q1c, q1d, _⟩ := (KB.head).four
  go_wp2_with fail
  clear q0a q0b q0c q0d q1a q1b q1c q1d
  refine (CM.out _ (L.mono KB.hb)).mono ?_
  rintro e w3 ⟨rfl, k⟩
  replace KB := KB.below k
  clear k
  go_wp2_with fail
  refine (OF.out _ (L.mono KB.hb)).mono ?_
  rintro e w4 ⟨rfl, k⟩
  replace KB := KB.below k
  clear k
  go_upto_region 7 with (fail)
  have ig0 : w4.heap.size ≠ w.heap.size + 1 := Nat.ne_of_gt (KB.head).lt
  have og0 := Ne.symm ig0
  have ig1 : w4.heap.size ≠ w.heap.size := Nat.ne_of_gt (KB.tail.head).lt
  have og1 := Ne.symm ig1
  have ggg : w.heap.size ≤ w4.heap.size := KB.hb.size
  replace KB := KB.more4 (.int .i64 (h)) (.int .i64 (m)) (.int .i64 (s)) (.int .i64 (n)) 23
  generalize w4.alloc (.cells #[.int .i64 (h), .int .i64 (m), .int .i64 (s), .int .i64 (n)] 23) = w5 at *
  generalize w4.heap.size = g at *
  go_wp2_with fail
  refine (AL.out _ (L.mono KB.hb)).mono ?_
  rintro e w6 ⟨rfl, k⟩
  replace KB := KB.below k
  clear k
  obtain ⟨_, q0a, q0b, q0c, q0d, _⟩ := (KB.head).four
  obtain ⟨_, q1a, q1b, q1c, q1d, _⟩ := (KB.tail.tail.head).four
  have HB := KB.hb
  go_wp2
  go_ret
  exact ⟨rfl, HB⟩
set_option maxRecDepth 100000 in
set_option maxHeartbeats 8000000 in
theorem orders6_gt (h m s n h' m' s' n' a b : Int) (_g : b < a) (N1 : Hid (∀ W, Sizes W → Calls Tryd.prog 9 #[.agg #[.int .i64 (h), .int .i64 (m), .int .i64 (s), .int .i64 (n)]] W (fun o w' => o = .returned (.tuple #[.int .i64 (a), .bool true]) ∧ Below W.heap.size W w'))) (N2 : Hid (∀ W, Sizes W → Calls Tryd.prog 9 #[.agg #[.int .i64 (h'), .int .i64 (m'), .int .i64 (s'), .int .i64 (n')]] W (fun o w' => o = .returned (.tuple #[.int .i64 (b), .bool true]) ∧ Below W.heap.size W w'))) (CM : Hid (∀ W, Sizes W → Calls Tryd.prog 22 #[.agg #[.int .i64 (h), .int .i64 (m), .int .i64 (s), .int .i64 (n)], .agg #[.int .i64 (h'), .int .i64 (m'), .int .i64 (s'), .int .i64 (n')]] W (fun o w' => o = .returned (.int .i64 (1)) ∧ Below W.heap.size W w'))) (OF : Hid (∀ W, Sizes W → Calls Tryd.prog 11 #[.int .i64 (a)] W (fun o w' => o = .returned (.tuple #[.agg #[.int .i64 (h), .int .i64 (m), .int .i64 (s), .int .i64 (n)], .bool true]) ∧ Below W.heap.size W w'))) (AL : Hid (∀ W, Sizes W → Calls Tryd.prog 14 #[] W (fun o w' => o = .returned (.bool true) ∧ Below W.heap.size W w'))) (w : World) (L : Sizes w) :
    Calls Tryd.prog 8 #[.agg #[.int .i64 (h), .int .i64 (m), .int .i64 (s), .int .i64 (n)], .agg #[.int .i64 (h'), .int .i64 (m'), .int .i64 (s'), .int .i64 (n')]] w (RetV w (.bool true)) := by
  go_enter Tryd.func8, Tryd.ntmps8
  go_upto_region 1 with (fail)
  have KB := (((BK.nil w).more4 (.int .i64 (h)) (.int .i64 (m)) (.int .i64 (s)) (.int .i64 (n)) 23).more4 (.int .i64 (h')) (.int .i64 (m')) (.int .i64 (s')) (.int .i64 (n')) 23)
  simp only [World.size_alloc] at KB
  generalize ((w.alloc (.cells #[.int .i64 (h), .int .i64 (m), .int .i64 (s), .int .i64 (n)] 23)).alloc (.cells #[.int .i64 (h'), .int .i64 (m'), .int .i64 (s'), .int .i64 (n')] 23)) = w0 at *
  obtain ⟨_, q0a, q0b, q0c, q0d, _⟩ := (KB.tail.head).four
  go_wp2_with fail
  clear q0a q0b q0c q0d
  refine (N1.out _ (L.mono KB.hb)).mono ?_
  rintro e w1 ⟨rfl, k⟩
  replace KB := KB.below k
  clear k
  obtain ⟨_, q0a, q0b, q0c, q0d, _⟩ := (KB.head).four
  go_wp2_with fail
  clear q0a q0b q0c q0d
  refine (N2.out _ (L.mono KB.hb)).mono ?_
  rintro e w2 ⟨rfl, k⟩
  replace KB := KB.below k
  clear k
  have d1 : decide (a < b) = false := decide_eq_false (by omega)
  have d2 : (a == b) = false := by rw [beq_eq_false_iff_ne]; omega
  have d3 : decide (b < a) = true := decide_eq_true _g
  obtain ⟨_, q0a, q0b, q0c, q0d, _⟩ := (KB.tail.head).four
  obtain ⟨_, q1a, q1b, q1c, q1d, _⟩ := (KB.head).four
  go_wp2_with fail
  clear q0a q0b q0c q0d q1a q1b q1c q1d
  refine (CM.out _ (L.mono KB.hb)).mono ?_
  rintro e w3 ⟨rfl, k⟩
  replace KB := KB.below k
  clear k
  go_wp2_with fail
  refine (OF.out _ (L.mono KB.hb)).mono ?_
  rintro e w4 ⟨rfl, k⟩
  replace KB := KB.below k
  clear k
  go_upto_region 7 with (fail)
  have ig0 : w4.heap.size ≠ w.heap.size + 1 := Nat.ne_of_gt (KB.head).lt
  have og0 := Ne.symm ig0
  have ig1 : w4.heap.size ≠ w.heap.size := Nat.ne_of_gt (KB.tail.head).lt
  have og1 := Ne.symm ig1
  have ggg : w.heap.size ≤ w4.heap.size := KB.hb.size
  replace KB := KB.more4 (.int .i64 (h)) (.int .i64 (m)) (.int .i64 (s)) (.int .i64 (n)) 23
  generalize w4.alloc (.cells #[.int .i64 (h), .int .i64 (m), .int .i64 (s), .int .i64 (n)] 23) = w5 at *
  generalize w4.heap.size = g at *
  go_wp2_with fail
  refine (AL.out _ (L.mono KB.hb)).mono ?_
  rintro e w6 ⟨rfl, k⟩
  replace KB := KB.below k
  clear k
  obtain ⟨_, q0a, q0b, q0c, q0d, _⟩ := (KB.head).four
  obtain ⟨_, q1a, q1b, q1c, q1d, _⟩ := (KB.tail.tail.head).four
  have HB := KB.hb
  go_wp2
  go_ret
  exact ⟨rfl, HB⟩
theorem clockOrders_walk (C : ClockP) (h m s n h' m' s' n' : Int) (i1 : In64 h) (i2 : In64 m) (i3 : In64 s) (i4 : In64 n) (j1 : In64 h') (j2 : In64 m') (j3 : In64 s') (j4 : In64 n') (w : World) (L : Sizes w) : Calls Tryd.prog 8 #[.agg #[.int .i64 (h), .int .i64 (m), .int .i64 (s), .int .i64 (n)], .agg #[.int .i64 (h'), .int .i64 (m'), .int .i64 (s'), .int .i64 (n')]] w (RetV w (.bool true)) := by
  have AL := Lib.hid fun W l => alive6 C W l
  have N1 := fun W l => C.nanos h m s n i1 i2 i3 i4 W l
  have N2 := fun W l => C.nanos h' m' s' n' j1 j2 j3 j4 W l
  by_cases k : okT h m s n
  · rw [decide_eq_true k, show nvT h m s n = numT h m s n by unfold nvT; rw [if_pos k]] at N1
    by_cases k' : okT h' m' s' n'
    · rw [decide_eq_true k', show nvT h' m' s' n' = numT h' m' s' n' by unfold nvT; rw [if_pos k']] at N2
      obtain ⟨c1, c2, c3⟩ := cmp_num k k'
      have CM := fun W l => C.cmp h m s n h' m' s' n' W l
      have OF := Lib.hid fun W l => C.of_yes (numT h m s n) h m s n k rfl W l
      rcases Int.lt_trichotomy (numT h m s n) (numT h' m' s' n') with g | g | g
      · rw [c1 g] at CM
        exact orders6_lt h m s n h' m' s' n' _ _ g (Lib.hid N1) (Lib.hid N2) (Lib.hid CM) OF AL w L
      · rw [c2 g] at CM
        rw [← g] at N2
        exact orders6_eq h m s n h' m' s' n' _ (Lib.hid N1) (Lib.hid N2) (Lib.hid CM) OF AL w L
      · rw [c3 g] at CM
        exact orders6_gt h m s n h' m' s' n' _ _ g (Lib.hid N1) (Lib.hid N2) (Lib.hid CM) OF AL w L
    · rw [decide_eq_false k'] at N2
      exact orders6_no2 h m s n h' m' s' n' _ _ (Lib.hid N1) (Lib.hid N2) AL w L
  · rw [decide_eq_false k] at N1
    exact orders6_no1 h m s n h' m' s' n' _ _ _ (Lib.hid N1) (Lib.hid N2) AL w L
end Go.Proofs.YteggdabnhdjfcaaDoor
