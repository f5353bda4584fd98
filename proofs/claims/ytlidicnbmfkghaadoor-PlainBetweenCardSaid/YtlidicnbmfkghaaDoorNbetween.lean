/- The walk of PlainBetween: at any two date-times it returns true; what was there is as it was. -/
import Derived.Test.YtlidicnbmfkghaaDoorPalive
import Derived.Test.YtlidicnbmfkghaaDoorPmath
import Derived.Deep.RegionHeld3
namespace Go.Proofs.YtlidicnbmfkghaaDoor
open Go.RowKit

set_option maxRecDepth 100000 in
set_option maxHeartbeats 8000000 in
theorem between7_a (y m d h i s n y' m' d' h' i' s' n' c : Int) (SI : Hid (∀ W, Tabs W → Calls Tryd.prog 19 #[.agg #[.int .i64 (y), .int .i64 (m), .int .i64 (d), .int .i64 (h), .int .i64 (i), .int .i64 (s), .int .i64 (n)], .agg #[.int .i64 (y'), .int .i64 (m'), .int .i64 (d'), .int .i64 (h'), .int .i64 (i'), .int .i64 (s'), .int .i64 (n')]] W (fun o w' => o = .returned (.tuple #[.agg #[.int .i64 0, .int .u64 0], .int .i64 (1)]) ∧ Below W.heap.size W w'))) (CM : Hid (∀ W, Tabs W → Calls Tryd.prog 20 #[.agg #[.int .i64 (y), .int .i64 (m), .int .i64 (d), .int .i64 (h), .int .i64 (i), .int .i64 (s), .int .i64 (n)], .agg #[.int .i64 (y'), .int .i64 (m'), .int .i64 (d'), .int .i64 (h'), .int .i64 (i'), .int .i64 (s'), .int .i64 (n')]] W (fun o w' => o = .returned (.int .i64 (c)) ∧ Below W.heap.size W w'))) (CR : Hid (∀ W, Tabs W → Calls Tryd.prog 21 #[.agg #[.int .i64 (y), .int .i64 (m), .int .i64 (d), .int .i64 (h), .int .i64 (i), .int .i64 (s), .int .i64 (n)], .agg #[.int .i64 (y'), .int .i64 (m'), .int .i64 (d'), .int .i64 (h'), .int .i64 (i'), .int .i64 (s'), .int .i64 (n')]] W (fun o w' => o = .returned (.int .i64 (c)) ∧ Below W.heap.size W w'))) (AL : Hid (∀ W, Tabs W → Calls Tryd.prog 15 #[] W (fun o w' => o = .returned (.bool true) ∧ Below W.heap.size W w'))) (RA : Hid (∀ W, Tabs W → Calls Tryd.prog 9 #[.agg #[.int .i64 (y), .int .i64 (m), .int .i64 (d), .int .i64 (h), .int .i64 (i), .int .i64 (s), .int .i64 (n)]] W (fun o w' => o = .returned (.bool false) ∧ Below W.heap.size W w'))) (w : World) (L : Tabs w) :
    Calls Tryd.prog 5 #[.agg #[.int .i64 (y), .int .i64 (m), .int .i64 (d), .int .i64 (h), .int .i64 (i), .int .i64 (s), .int .i64 (n)], .agg #[.int .i64 (y'), .int .i64 (m'), .int .i64 (d'), .int .i64 (h'), .int .i64 (i'), .int .i64 (s'), .int .i64 (n')]] w (RetV w (.bool true)) := by
  go_enter Tryd.func5, Tryd.ntmps5
  go_upto_region 1 with (fail)
  have KB := (((BK.nil w).more7 (.int .i64 (y)) (.int .i64 (m)) (.int .i64 (d)) (.int .i64 (h)) (.int .i64 (i)) (.int .i64 (s)) (.int .i64 (n)) 27).more7 (.int .i64 (y')) (.int .i64 (m')) (.int .i64 (d')) (.int .i64 (h')) (.int .i64 (i')) (.int .i64 (s')) (.int .i64 (n')) 27)
  simp only [World.size_alloc] at KB
  generalize ((w.alloc (.cells #[.int .i64 (y), .int .i64 (m), .int .i64 (d), .int .i64 (h), .int .i64 (i), .int .i64 (s), .int .i64 (n)] 27)).alloc (.cells #[.int .i64 (y'), .int .i64 (m'), .int .i64 (d'), .int .i64 (h'), .int .i64 (i'), .int .i64 (s'), .int .i64 (n')] 27)) = w0 at *
  obtain ⟨_, q0a, q0b, q0c, q0d, q0e, q0f, q0g, _⟩ := (KB.tail.head).seven
  obtain ⟨_, q1a, q1b, q1c, q1d, q1e, q1f, q1g, _⟩ := (KB.head).seven
  go_wp2_with fail
  clear q0a q0b q0c q0d q0e q0f q0g q1a q1b q1c q1d q1e q1f q1g
  refine (SI.out _ (L.mono KB.hb)).mono ?_
  rintro e w1 ⟨rfl, k⟩
  replace KB := KB.below k
  clear k
  go_upto_region 2 with (fail)
  have ig0 : w1.heap.size ≠ w.heap.size + 1 := Nat.ne_of_gt (KB.head).lt
  have og0 := Ne.symm ig0
  have ig1 : w1.heap.size ≠ w.heap.size := Nat.ne_of_gt (KB.tail.head).lt
  have og1 := Ne.symm ig1
  have ggg : w.heap.size ≤ w1.heap.size := KB.hb.size
  replace KB := KB.more2 (.int .i64 0) (.int .u64 0) 30
  generalize w1.alloc (.cells #[.int .i64 0, .int .u64 0] 30) = w2 at *
  generalize w1.heap.size = g at *
  obtain ⟨_, q0a, q0b, q0c, q0d, q0e, q0f, q0g, _⟩ := (KB.tail.tail.head).seven
  obtain ⟨_, q1a, q1b, q1c, q1d, q1e, q1f, q1g, _⟩ := (KB.tail.head).seven
  go_wp2_with fail
  clear q0a q0b q0c q0d q0e q0f q0g q1a q1b q1c q1d q1e q1f q1g
  refine (CM.out _ (L.mono KB.hb)).mono ?_
  rintro e w3 ⟨rfl, k⟩
  replace KB := KB.below k
  clear k
  go_wp2_with fail
  refine (AL.out _ (L.mono KB.hb)).mono ?_
  rintro e w4 ⟨rfl, k⟩
  replace KB := KB.below k
  clear k
  obtain ⟨_, q0a, q0b, q0c, q0d, q0e, q0f, q0g, _⟩ := (KB.tail.tail.head).seven
  obtain ⟨_, q1a, q1b, q1c, q1d, q1e, q1f, q1g, _⟩ := (KB.tail.head).seven
  go_wp2_with fail
  clear q0a q0b q0c q0d q0e q0f q0g q1a q1b q1c q1d q1e q1f q1g
  refine (CR.out _ (L.mono KB.hb)).mono ?_
  rintro e w5 ⟨rfl, k⟩
  replace KB := KB.below k
  clear k
  obtain ⟨_, q0a, q0b, q0c, q0d, q0e, q0f, q0g, _⟩ := (KB.tail.tail.head).seven
  go_wp2_with fail
  clear q0a q0b q0c q0d q0e q0f q0g
  refine (RA.out _ (L.mono KB.hb)).mono ?_
  rintro e w6 ⟨rfl, k⟩
  replace KB := KB.below k
  clear k
  obtain ⟨_, q0a, q0b, _⟩ := (KB.head).two
  have HB := KB.hb
  go_wp2
  go_ret
  exact ⟨rfl, HB⟩
set_option maxRecDepth 100000 in
set_option maxHeartbeats 8000000 in
theorem between7_b (y m d h i s n y' m' d' h' i' s' n' c : Int) (SI : Hid (∀ W, Tabs W → Calls Tryd.prog 19 #[.agg #[.int .i64 (y), .int .i64 (m), .int .i64 (d), .int .i64 (h), .int .i64 (i), .int .i64 (s), .int .i64 (n)], .agg #[.int .i64 (y'), .int .i64 (m'), .int .i64 (d'), .int .i64 (h'), .int .i64 (i'), .int .i64 (s'), .int .i64 (n')]] W (fun o w' => o = .returned (.tuple #[.agg #[.int .i64 0, .int .u64 0], .int .i64 (1)]) ∧ Below W.heap.size W w'))) (CM : Hid (∀ W, Tabs W → Calls Tryd.prog 20 #[.agg #[.int .i64 (y), .int .i64 (m), .int .i64 (d), .int .i64 (h), .int .i64 (i), .int .i64 (s), .int .i64 (n)], .agg #[.int .i64 (y'), .int .i64 (m'), .int .i64 (d'), .int .i64 (h'), .int .i64 (i'), .int .i64 (s'), .int .i64 (n')]] W (fun o w' => o = .returned (.int .i64 (c)) ∧ Below W.heap.size W w'))) (CR : Hid (∀ W, Tabs W → Calls Tryd.prog 21 #[.agg #[.int .i64 (y), .int .i64 (m), .int .i64 (d), .int .i64 (h), .int .i64 (i), .int .i64 (s), .int .i64 (n)], .agg #[.int .i64 (y'), .int .i64 (m'), .int .i64 (d'), .int .i64 (h'), .int .i64 (i'), .int .i64 (s'), .int .i64 (n')]] W (fun o w' => o = .returned (.int .i64 (c)) ∧ Below W.heap.size W w'))) (AL : Hid (∀ W, Tabs W → Calls Tryd.prog 15 #[] W (fun o w' => o = .returned (.bool true) ∧ Below W.heap.size W w'))) (RA : Hid (∀ W, Tabs W → Calls Tryd.prog 9 #[.agg #[.int .i64 (y), .int .i64 (m), .int .i64 (d), .int .i64 (h), .int .i64 (i), .int .i64 (s), .int .i64 (n)]] W (fun o w' => o = .returned (.bool true) ∧ Below W.heap.size W w'))) (RB : Hid (∀ W, Tabs W → Calls Tryd.prog 9 #[.agg #[.int .i64 (y'), .int .i64 (m'), .int .i64 (d'), .int .i64 (h'), .int .i64 (i'), .int .i64 (s'), .int .i64 (n')]] W (fun o w' => o = .returned (.bool false) ∧ Below W.heap.size W w'))) (w : World) (L : Tabs w) :
    Calls Tryd.prog 5 #[.agg #[.int .i64 (y), .int .i64 (m), .int .i64 (d), .int .i64 (h), .int .i64 (i), .int .i64 (s), .int .i64 (n)], .agg #[.int .i64 (y'), .int .i64 (m'), .int .i64 (d'), .int .i64 (h'), .int .i64 (i'), .int .i64 (s'), .int .i64 (n')]] w (RetV w (.bool true)) := by
  go_enter Tryd.func5, Tryd.ntmps5
  go_upto_region 1 with (fail)
  have KB := (((BK.nil w).more7 (.int .i64 (y)) (.int .i64 (m)) (.int .i64 (d)) (.int .i64 (h)) (.int .i64 (i)) (.int .i64 (s)) (.int .i64 (n)) 27).more7 (.int .i64 (y')) (.int .i64 (m')) (.int .i64 (d')) (.int .i64 (h')) (.int .i64 (i')) (.int .i64 (s')) (.int .i64 (n')) 27)
  simp only [World.size_alloc] at KB
  generalize ((w.alloc (.cells #[.int .i64 (y), .int .i64 (m), .int .i64 (d), .int .i64 (h), .int .i64 (i), .int .i64 (s), .int .i64 (n)] 27)).alloc (.cells #[.int .i64 (y'), .int .i64 (m'), .int .i64 (d'), .int .i64 (h'), .int .i64 (i'), .int .i64 (s'), .int .i64 (n')] 27)) = w0 at *
  obtain ⟨_, q0a, q0b, q0c, q0d, q0e, q0f, q0g, _⟩ := (KB.tail.head).seven
  obtain ⟨_, q1a, q1b, q1c, q1d, q1e, q1f, q1g, _⟩ := (KB.head).seven
  go_wp2_with fail
  clear q0a q0b q0c q0d q0e q0f q0g q1a q1b q1c q1d q1e q1f q1g
  refine (SI.out _ (L.mono KB.hb)).mono ?_
  rintro e w1 ⟨rfl, k⟩
  replace KB := KB.below k
  clear k
  go_upto_region 2 with (fail)
  have ig0 : w1.heap.size ≠ w.heap.size + 1 := Nat.ne_of_gt (KB.head).lt
  have og0 := Ne.symm ig0
  have ig1 : w1.heap.size ≠ w.heap.size := Nat.ne_of_gt (KB.tail.head).lt
  have og1 := Ne.symm ig1
  have ggg : w.heap.size ≤ w1.heap.size := KB.hb.size
  replace KB := KB.more2 (.int .i64 0) (.int .u64 0) 30
  generalize w1.alloc (.cells #[.int .i64 0, .int .u64 0] 30) = w2 at *
  generalize w1.heap.size = g at *
  obtain ⟨_, q0a, q0b, q0c, q0d, q0e, q0f, q0g, _⟩ := (KB.tail.tail.head).seven
  obtain ⟨_, q1a, q1b, q1c, q1d, q1e, q1f, q1g, _⟩ := (KB.tail.head).seven
  go_wp2_with fail
  clear q0a q0b q0c q0d q0e q0f q0g q1a q1b q1c q1d q1e q1f q1g
  refine (CM.out _ (L.mono KB.hb)).mono ?_
  rintro e w3 ⟨rfl, k⟩
  replace KB := KB.below k
  clear k
  go_wp2_with fail
  refine (AL.out _ (L.mono KB.hb)).mono ?_
  rintro e w4 ⟨rfl, k⟩
  replace KB := KB.below k
  clear k
  obtain ⟨_, q0a, q0b, q0c, q0d, q0e, q0f, q0g, _⟩ := (KB.tail.tail.head).seven
  obtain ⟨_, q1a, q1b, q1c, q1d, q1e, q1f, q1g, _⟩ := (KB.tail.head).seven
  go_wp2_with fail
  clear q0a q0b q0c q0d q0e q0f q0g q1a q1b q1c q1d q1e q1f q1g
  refine (CR.out _ (L.mono KB.hb)).mono ?_
  rintro e w5 ⟨rfl, k⟩
  replace KB := KB.below k
  clear k
  obtain ⟨_, q0a, q0b, q0c, q0d, q0e, q0f, q0g, _⟩ := (KB.tail.tail.head).seven
  go_wp2_with fail
  clear q0a q0b q0c q0d q0e q0f q0g
  refine (RA.out _ (L.mono KB.hb)).mono ?_
  rintro e w6 ⟨rfl, k⟩
  replace KB := KB.below k
  clear k
  obtain ⟨_, q0a, q0b, q0c, q0d, q0e, q0f, q0g, _⟩ := (KB.tail.head).seven
  go_wp2_with fail
  clear q0a q0b q0c q0d q0e q0f q0g
  refine (RB.out _ (L.mono KB.hb)).mono ?_
  rintro e w7 ⟨rfl, k⟩
  replace KB := KB.below k
  clear k
  obtain ⟨_, q0a, q0b, _⟩ := (KB.head).two
  have HB := KB.hb
  go_wp2
  go_ret
  exact ⟨rfl, HB⟩
set_option maxRecDepth 100000 in
set_option maxHeartbeats 8000000 in
theorem between7_yes (y m d h i s n y' m' d' h' i' s' n' c D M N : Int) (SI : Hid (∀ W, Tabs W → Calls Tryd.prog 19 #[.agg #[.int .i64 (y), .int .i64 (m), .int .i64 (d), .int .i64 (h), .int .i64 (i), .int .i64 (s), .int .i64 (n)], .agg #[.int .i64 (y'), .int .i64 (m'), .int .i64 (d'), .int .i64 (h'), .int .i64 (i'), .int .i64 (s'), .int .i64 (n')]] W (fun o w' => o = .returned (.tuple #[.agg #[.int .i64 (hiW D), .int .u64 (loW D)], .int .i64 (0)]) ∧ Below W.heap.size W w'))) (CM : Hid (∀ W, Tabs W → Calls Tryd.prog 20 #[.agg #[.int .i64 (y), .int .i64 (m), .int .i64 (d), .int .i64 (h), .int .i64 (i), .int .i64 (s), .int .i64 (n)], .agg #[.int .i64 (y'), .int .i64 (m'), .int .i64 (d'), .int .i64 (h'), .int .i64 (i'), .int .i64 (s'), .int .i64 (n')]] W (fun o w' => o = .returned (.int .i64 (c)) ∧ Below W.heap.size W w'))) (CR : Hid (∀ W, Tabs W → Calls Tryd.prog 21 #[.agg #[.int .i64 (y), .int .i64 (m), .int .i64 (d), .int .i64 (h), .int .i64 (i), .int .i64 (s), .int .i64 (n)], .agg #[.int .i64 (y'), .int .i64 (m'), .int .i64 (d'), .int .i64 (h'), .int .i64 (i'), .int .i64 (s'), .int .i64 (n')]] W (fun o w' => o = .returned (.int .i64 (c)) ∧ Below W.heap.size W w'))) (AL : Hid (∀ W, Tabs W → Calls Tryd.prog 15 #[] W (fun o w' => o = .returned (.bool true) ∧ Below W.heap.size W w'))) (RA : Hid (∀ W, Tabs W → Calls Tryd.prog 9 #[.agg #[.int .i64 (y), .int .i64 (m), .int .i64 (d), .int .i64 (h), .int .i64 (i), .int .i64 (s), .int .i64 (n)]] W (fun o w' => o = .returned (.bool true) ∧ Below W.heap.size W w'))) (RB : Hid (∀ W, Tabs W → Calls Tryd.prog 9 #[.agg #[.int .i64 (y'), .int .i64 (m'), .int .i64 (d'), .int .i64 (h'), .int .i64 (i'), .int .i64 (s'), .int .i64 (n')]] W (fun o w' => o = .returned (.bool true) ∧ Below W.heap.size W w'))) (OW : Hid (∀ W, Calls Tryd.prog 12 #[.agg #[.int .i64 (hiW D), .int .u64 (loW D)]] W (RetZ W (D)))) (sd : Hid ((D).natAbs < 65536 ^ 9)) (NB : Hid (∀ W, Calls Tryd.prog 14 #[.agg #[.int .i64 (y'), .int .i64 (m'), .int .i64 (d'), .int .i64 (h'), .int .i64 (i'), .int .i64 (s'), .int .i64 (n')]] W (RetZ W (M)))) (sm : Hid ((M).natAbs < 65536 ^ 9)) (NA : Hid (∀ W, Calls Tryd.prog 14 #[.agg #[.int .i64 (y), .int .i64 (m), .int .i64 (d), .int .i64 (h), .int .i64 (i), .int .i64 (s), .int .i64 (n)]] W (RetZ W (N)))) (sn : Hid ((N).natAbs < 65536 ^ 9)) (SU : Hid (∀ (p q : Bool) (A B : Option Addr) (n m c d : Nat) (W : World), Zs W p A n c (M) → Zs W q B m d (N) → n ≤ 900000 → m ≤ 900000 → Calls Tryd.prog 23 #[.agg #[.bool p, .slice A n c], .agg #[.bool q, .slice B m d]] W (RetZ W (D)))) (CZ : Hid (∀ (p q : Bool) (A B : Option Addr) (n m c d : Nat) (W : World), Zs W p A n c (D) → Zs W q B m d (D) → n ≤ 900000 → m ≤ 900000 → Calls Tryd.prog 22 #[.agg #[.bool p, .slice A n c], .agg #[.bool q, .slice B m d]] W (RetN W 0))) (w : World) (L : Tabs w) :
    Calls Tryd.prog 5 #[.agg #[.int .i64 (y), .int .i64 (m), .int .i64 (d), .int .i64 (h), .int .i64 (i), .int .i64 (s), .int .i64 (n)], .agg #[.int .i64 (y'), .int .i64 (m'), .int .i64 (d'), .int .i64 (h'), .int .i64 (i'), .int .i64 (s'), .int .i64 (n')]] w (RetV w (.bool true)) := by
  go_enter Tryd.func5, Tryd.ntmps5
  go_upto_region 1 with (fail)
  have KB := (((BK.nil w).more7 (.int .i64 (y)) (.int .i64 (m)) (.int .i64 (d)) (.int .i64 (h)) (.int .i64 (i)) (.int .i64 (s)) (.int .i64 (n)) 27).more7 (.int .i64 (y')) (.int .i64 (m')) (.int .i64 (d')) (.int .i64 (h')) (.int .i64 (i')) (.int .i64 (s')) (.int .i64 (n')) 27)
  simp only [World.size_alloc] at KB
  generalize ((w.alloc (.cells #[.int .i64 (y), .int .i64 (m), .int .i64 (d), .int .i64 (h), .int .i64 (i), .int .i64 (s), .int .i64 (n)] 27)).alloc (.cells #[.int .i64 (y'), .int .i64 (m'), .int .i64 (d'), .int .i64 (h'), .int .i64 (i'), .int .i64 (s'), .int .i64 (n')] 27)) = w0 at *
  obtain ⟨_, q0a, q0b, q0c, q0d, q0e, q0f, q0g, _⟩ := (KB.tail.head).seven
  obtain ⟨_, q1a, q1b, q1c, q1d, q1e, q1f, q1g, _⟩ := (KB.head).seven
  go_wp2_with fail
  clear q0a q0b q0c q0d q0e q0f q0g q1a q1b q1c q1d q1e q1f q1g
  refine (SI.out _ (L.mono KB.hb)).mono ?_
  rintro e w1 ⟨rfl, k⟩
  replace KB := KB.below k
  clear k
  go_upto_region 2 with (fail)
  have ig0 : w1.heap.size ≠ w.heap.size + 1 := Nat.ne_of_gt (KB.head).lt
  have og0 := Ne.symm ig0
  have ig1 : w1.heap.size ≠ w.heap.size := Nat.ne_of_gt (KB.tail.head).lt
  have og1 := Ne.symm ig1
  have ggg : w.heap.size ≤ w1.heap.size := KB.hb.size
  replace KB := KB.more2 (.int .i64 (hiW D)) (.int .u64 (loW D)) 30
  generalize w1.alloc (.cells #[.int .i64 (hiW D), .int .u64 (loW D)] 30) = w2 at *
  generalize w1.heap.size = g at *
  obtain ⟨_, q0a, q0b, q0c, q0d, q0e, q0f, q0g, _⟩ := (KB.tail.tail.head).seven
  obtain ⟨_, q1a, q1b, q1c, q1d, q1e, q1f, q1g, _⟩ := (KB.tail.head).seven
  go_wp2_with fail
  clear q0a q0b q0c q0d q0e q0f q0g q1a q1b q1c q1d q1e q1f q1g
  refine (CM.out _ (L.mono KB.hb)).mono ?_
  rintro e w3 ⟨rfl, k⟩
  replace KB := KB.below k
  clear k
  go_wp2_with fail
  refine (AL.out _ (L.mono KB.hb)).mono ?_
  rintro e w4 ⟨rfl, k⟩
  replace KB := KB.below k
  clear k
  obtain ⟨_, q0a, q0b, q0c, q0d, q0e, q0f, q0g, _⟩ := (KB.tail.tail.head).seven
  obtain ⟨_, q1a, q1b, q1c, q1d, q1e, q1f, q1g, _⟩ := (KB.tail.head).seven
  go_wp2_with fail
  clear q0a q0b q0c q0d q0e q0f q0g q1a q1b q1c q1d q1e q1f q1g
  refine (CR.out _ (L.mono KB.hb)).mono ?_
  rintro e w5 ⟨rfl, k⟩
  replace KB := KB.below k
  clear k
  obtain ⟨_, q0a, q0b, q0c, q0d, q0e, q0f, q0g, _⟩ := (KB.tail.tail.head).seven
  go_wp2_with fail
  clear q0a q0b q0c q0d q0e q0f q0g
  refine (RA.out _ (L.mono KB.hb)).mono ?_
  rintro e w6 ⟨rfl, k⟩
  replace KB := KB.below k
  clear k
  obtain ⟨_, q0a, q0b, q0c, q0d, q0e, q0f, q0g, _⟩ := (KB.tail.head).seven
  go_wp2_with fail
  clear q0a q0b q0c q0d q0e q0f q0g
  refine (RB.out _ (L.mono KB.hb)).mono ?_
  rintro e w7 ⟨rfl, k⟩
  replace KB := KB.below k
  clear k
  go_upto_region 7 with (fail)
  obtain ⟨_, j0a, j0b, _⟩ := (KB.head).two
  obtain ⟨_, j1a, j1b, j1c, j1d, j1e, j1f, j1g, _⟩ := (KB.tail.tail.head).seven
  obtain ⟨_, j2a, j2b, j2c, j2d, j2e, j2f, j2g, _⟩ := (KB.tail.head).seven
  go_region_held3 (fun w' => w'.cell? ⟨g, 0, none⟩ = some (.int .i64 (hiW D)) ∧ w'.cell? ⟨g, 1, none⟩ = some (.int .u64 (loW D)) ∧ w'.cell? ⟨w.heap.size, 0, none⟩ = some (.int .i64 (y)) ∧ w'.cell? ⟨w.heap.size, 1, none⟩ = some (.int .i64 (m)) ∧ w'.cell? ⟨w.heap.size, 2, none⟩ = some (.int .i64 (d)) ∧ w'.cell? ⟨w.heap.size, 3, none⟩ = some (.int .i64 (h)) ∧ w'.cell? ⟨w.heap.size, 4, none⟩ = some (.int .i64 (i)) ∧ w'.cell? ⟨w.heap.size, 5, none⟩ = some (.int .i64 (s)) ∧ w'.cell? ⟨w.heap.size, 6, none⟩ = some (.int .i64 (n)) ∧ w'.cell? ⟨w.heap.size + 1, 0, none⟩ = some (.int .i64 (y')) ∧ w'.cell? ⟨w.heap.size + 1, 1, none⟩ = some (.int .i64 (m')) ∧ w'.cell? ⟨w.heap.size + 1, 2, none⟩ = some (.int .i64 (d')) ∧ w'.cell? ⟨w.heap.size + 1, 3, none⟩ = some (.int .i64 (h')) ∧ w'.cell? ⟨w.heap.size + 1, 4, none⟩ = some (.int .i64 (i')) ∧ w'.cell? ⟨w.heap.size + 1, 5, none⟩ = some (.int .i64 (s')) ∧ w'.cell? ⟨w.heap.size + 1, 6, none⟩ = some (.int .i64 (n'))) (first | (with_reducible exact ⟨(KB.head).two.2.1, (KB.head).two.2.2.1, (KB.tail.tail.head).seven.2.1, (KB.tail.tail.head).seven.2.2.1, (KB.tail.tail.head).seven.2.2.2.1, (KB.tail.tail.head).seven.2.2.2.2.1, (KB.tail.tail.head).seven.2.2.2.2.2.1, (KB.tail.tail.head).seven.2.2.2.2.2.2.1, (KB.tail.tail.head).seven.2.2.2.2.2.2.2.1, (KB.tail.head).seven.2.1, (KB.tail.head).seven.2.2.1, (KB.tail.head).seven.2.2.2.1, (KB.tail.head).seven.2.2.2.2.1, (KB.tail.head).seven.2.2.2.2.2.1, (KB.tail.head).seven.2.2.2.2.2.2.1, (KB.tail.head).seven.2.2.2.2.2.2.2.1⟩) | (with_reducible exact ⟨(KB.drew.head).two.2.1, (KB.drew.head).two.2.2.1, (KB.drew.tail.tail.head).seven.2.1, (KB.drew.tail.tail.head).seven.2.2.1, (KB.drew.tail.tail.head).seven.2.2.2.1, (KB.drew.tail.tail.head).seven.2.2.2.2.1, (KB.drew.tail.tail.head).seven.2.2.2.2.2.1, (KB.drew.tail.tail.head).seven.2.2.2.2.2.2.1, (KB.drew.tail.tail.head).seven.2.2.2.2.2.2.2.1, (KB.drew.tail.head).seven.2.1, (KB.drew.tail.head).seven.2.2.1, (KB.drew.tail.head).seven.2.2.2.1, (KB.drew.tail.head).seven.2.2.2.2.1, (KB.drew.tail.head).seven.2.2.2.2.2.1, (KB.drew.tail.head).seven.2.2.2.2.2.2.1, (KB.drew.tail.head).seven.2.2.2.2.2.2.2.1⟩) | go_keep)
    (first
      | (go_at_call 12; (with_reducible refine (OW.out _).mono ?_); rintro e W9 ⟨p5, A5, n5, c5, rfl, z5, k⟩
         have l5 := z5.small sd.out
         with_reducible (first | replace KB := KB.below k | replace KB := KB.drew.below k)
         clear k
         obtain ⟨_, k0a, k0b, _⟩ := (KB.head).two
         obtain ⟨_, k1a, k1b, k1c, k1d, k1e, k1f, k1g, _⟩ := (KB.tail.tail.head).seven
         obtain ⟨_, k2a, k2b, k2c, k2d, k2e, k2f, k2g, _⟩ := (KB.tail.head).seven)
      | (go_at_call 14; (with_reducible refine (NB.out _).mono ?_); rintro e W9 ⟨p6, A6, n6, c6, rfl, z6, k⟩
         have l6 := z6.small sm.out
         with_reducible (first | replace z5 := z5.below k | replace z5 := (z5.below (below_box _ _)).below k | replace z5 := z5.drew.below k | replace z5 := (z5.below (below_box _ _)).drew.below k)
         with_reducible (first | replace KB := KB.below k | replace KB := KB.drew.below k)
         clear k
         obtain ⟨_, k0a, k0b, _⟩ := (KB.head).two
         obtain ⟨_, k1a, k1b, k1c, k1d, k1e, k1f, k1g, _⟩ := (KB.tail.tail.head).seven
         obtain ⟨_, k2a, k2b, k2c, k2d, k2e, k2f, k2g, _⟩ := (KB.tail.head).seven)
      | (go_at_call 14; (with_reducible refine (NA.out _).mono ?_); rintro e W9 ⟨p7, A7, n7, c7, rfl, z7, k⟩
         have l7 := z7.small sn.out
         with_reducible (first | replace z5 := z5.below k | replace z5 := (z5.below (below_box _ _)).below k | replace z5 := z5.drew.below k | replace z5 := (z5.below (below_box _ _)).drew.below k)
         with_reducible (first | replace z6 := z6.below k | replace z6 := (z6.below (below_box _ _)).below k | replace z6 := z6.drew.below k | replace z6 := (z6.below (below_box _ _)).drew.below k)
         with_reducible (first | replace KB := KB.below k | replace KB := KB.drew.below k)
         clear k
         obtain ⟨_, k0a, k0b, _⟩ := (KB.head).two
         obtain ⟨_, k1a, k1b, k1c, k1d, k1e, k1f, k1g, _⟩ := (KB.tail.tail.head).seven
         obtain ⟨_, k2a, k2b, k2c, k2d, k2e, k2f, k2g, _⟩ := (KB.tail.head).seven)
      | (go_at_call 23; (with_reducible refine (SU.out p6 p7 A6 A7 n6 n7 c6 c7 _ (by with_reducible first | exact z6 | exact (z6.below (below_box _ _)) | exact z6.drew | exact (z6.below (below_box _ _)).drew) (by with_reducible first | exact z7 | exact (z7.below (below_box _ _)) | exact z7.drew | exact (z7.below (below_box _ _)).drew) (by omega) (by omega)).mono ?_); rintro e W9 ⟨p8, A8, n8, c8, rfl, z8, k⟩
         have l8 := z8.small sd.out
         with_reducible (first | replace z5 := z5.below k | replace z5 := (z5.below (below_box _ _)).below k | replace z5 := z5.drew.below k | replace z5 := (z5.below (below_box _ _)).drew.below k)
         with_reducible (first | replace KB := KB.below k | replace KB := KB.drew.below k)
         clear k
         obtain ⟨_, k0a, k0b, _⟩ := (KB.head).two
         obtain ⟨_, k1a, k1b, k1c, k1d, k1e, k1f, k1g, _⟩ := (KB.tail.tail.head).seven
         obtain ⟨_, k2a, k2b, k2c, k2d, k2e, k2f, k2g, _⟩ := (KB.tail.head).seven)
      | (go_at_call 22; (with_reducible refine (CZ.out p5 p8 A5 A8 n5 n8 c5 c8 _ (by with_reducible first | exact z5 | exact (z5.below (below_box _ _)) | exact z5.drew | exact (z5.below (below_box _ _)).drew) (by with_reducible first | exact z8 | exact (z8.below (below_box _ _)) | exact z8.drew | exact (z8.below (below_box _ _)).drew) (by omega) (by omega)).mono ?_); rintro e W9 ⟨rfl, k⟩
         with_reducible (first | replace KB := KB.below k | replace KB := KB.drew.below k)
         clear k
         obtain ⟨_, k0a, k0b, _⟩ := (KB.head).two
         obtain ⟨_, k1a, k1b, k1c, k1d, k1e, k1f, k1g, _⟩ := (KB.tail.tail.head).seven
         obtain ⟨_, k2a, k2b, k2c, k2d, k2e, k2f, k2g, _⟩ := (KB.tail.head).seven))
  all_goals
    go_wp2
    go_ret
    exact ⟨rfl, by first | exact KB.hb | exact KB.drew.hb⟩
theorem plainBetween_walk (C : PlainP) (y m d h i s n y' m' d' h' i' s' n' : Int) (i0 : In64 y) (i1 : In64 m) (i2 : In64 d) (i3 : In64 h) (i4 : In64 i) (i5 : In64 s) (i6 : In64 n) (j0 : In64 y') (j1 : In64 m') (j2 : In64 d') (j3 : In64 h') (j4 : In64 i') (j5 : In64 s') (j6 : In64 n') (w : World) (L : Tabs w) : Calls Tryd.prog 5 #[.agg #[.int .i64 (y), .int .i64 (m), .int .i64 (d), .int .i64 (h), .int .i64 (i), .int .i64 (s), .int .i64 (n)], .agg #[.int .i64 (y'), .int .i64 (m'), .int .i64 (d'), .int .i64 (h'), .int .i64 (i'), .int .i64 (s'), .int .i64 (n')]] w (RetV w (.bool true)) := by
  have AL := Lib.hid fun W l => alive7 C W l
  have CM := Lib.hid fun W l => C.cmp y m d h i s n y' m' d' h' i' s' n' W l
  have CR := Lib.hid fun W (_ : Tabs W) => cmpXR y m d h i s n y' m' d' h' i' s' n' W
  by_cases k : okX y m d h i s n
  · by_cases k' : okX y' m' d' h' i' s' n'
    · have r := numX_range k
      have r' := numX_range k'
      have iD : InW (numX y' m' d' h' i' s' n' - numX y m d h i s n) := inW_X (by omega) (by omega)
      exact between7_yes y m d h i s n y' m' d' h' i' s' n' _ _ _ _ (Lib.hid fun W l => C.since_yes y m d h i s n y' m' d' h' i' s' n' k k' W l) CM CR AL (Lib.hid fun W _ => rightXR_is k W) (Lib.hid fun W _ => rightXR_is k' W) (Lib.hid fun W => wof_z _ iD W) (Lib.hid (small_w iD))
        (Lib.hid fun W => nanosXR k' W) (Lib.hid (small_w (inW_X (by omega) (by omega)))) (Lib.hid fun W => nanosXR k W) (Lib.hid (small_w (inW_X (by omega) (by omega)))) (Lib.hid fun p q A B n m c d W h1 h2 h3 h4 => sub_any p q A B n m c d _ _ W h1 h2 h3 h4)
        (Lib.hid fun p q A B n m c d W h1 h2 h3 h4 => by have := cmp_any p q A B n m c d _ _ W h1 h2 h3 h4; rwa [cmpZ_eq rfl] at this) w L
    · exact between7_b y m d h i s n y' m' d' h' i' s' n' _ (Lib.hid fun W l => C.since_bad y m d h i s n y' m' d' h' i' s' n' i0 i1 i2 i3 i4 i5 i6 j0 j1 j2 j3 j4 j5 j6 (.inr k') W l) CM CR AL (Lib.hid fun W _ => rightXR_is k W) (Lib.hid fun W _ => rightXR_none k' W) w L
  · exact between7_a y m d h i s n y' m' d' h' i' s' n' _ (Lib.hid fun W l => C.since_bad y m d h i s n y' m' d' h' i' s' n' i0 i1 i2 i3 i4 i5 i6 j0 j1 j2 j3 j4 j5 j6 (.inl k) W l) CM CR AL (Lib.hid fun W _ => rightXR_none k W) w L
end Go.Proofs.YtlidicnbmfkghaaDoor
