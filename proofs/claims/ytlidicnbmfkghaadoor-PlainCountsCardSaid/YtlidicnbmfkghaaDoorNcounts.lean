/- The walk of PlainCounts: at any date-time and any wide number it returns true; what was there is as it was. -/
import Derived.Test.YtlidicnbmfkghaaDoorPalive
import Derived.Deep.RegionHeld3
namespace Go.Proofs.YtlidicnbmfkghaaDoor
open Go.RowKit

set_option maxRecDepth 100000 in
set_option maxHeartbeats 8000000 in
theorem counts7_t (y m d h i s n a u0 u1 u2 u3 u4 u5 u6 m0 m1 N : Int) (f : Bool) (NP : Hid (∀ W, Tabs W → Calls Tryd.prog 8 #[.agg #[.int .i64 (y), .int .i64 (m), .int .i64 (d), .int .i64 (h), .int .i64 (i), .int .i64 (s), .int .i64 (n)]] W (fun o w' => o = .returned (.tuple #[.agg #[.int .i64 (m0), .int .u64 (m1)], .bool true]) ∧ Below W.heap.size W w'))) (RR : Hid (∀ W, Tabs W → Calls Tryd.prog 9 #[.agg #[.int .i64 (y), .int .i64 (m), .int .i64 (d), .int .i64 (h), .int .i64 (i), .int .i64 (s), .int .i64 (n)]] W (fun o w' => o = .returned (.bool true) ∧ Below W.heap.size W w'))) (OP : Hid (∀ W, Tabs W → Calls Tryd.prog 10 #[.agg #[.int .i64 (hiW a), .int .u64 (loW a)]] W (fun o w' => o = .returned (.tuple #[.agg #[.int .i64 (u0), .int .i64 (u1), .int .i64 (u2), .int .i64 (u3), .int .i64 (u4), .int .i64 (u5), .int .i64 (u6)], .bool f]) ∧ Below W.heap.size W w'))) (OW : Hid (∀ W, Calls Tryd.prog 12 #[.agg #[.int .i64 (hiW a), .int .u64 (loW a)]] W (RetZ W (a)))) (sa : Hid ((a).natAbs < 65536 ^ 9)) (OX : Hid (∀ (p : Bool) (A : Option Addr) (n c : Nat) (W : World), Zs W p A n c (a) → n ≤ 2000 → Calls Tryd.prog 11 #[.agg #[.bool p, .slice A n c]] W (fun e w' => e = .returned (.tuple #[.agg #[.int .i64 (u0), .int .i64 (u1), .int .i64 (u2), .int .i64 (u3), .int .i64 (u4), .int .i64 (u5), .int .i64 (u6)], .bool f]) ∧ Below W.heap.size W w'))) (RP : Hid (∀ W, Tabs W → Calls Tryd.prog 16 #[.agg #[.int .i64 (y), .int .i64 (m), .int .i64 (d), .int .i64 (h), .int .i64 (i), .int .i64 (s), .int .i64 (n)]] W (fun o w' => o = .returned (.bool true) ∧ Below W.heap.size W w'))) (AL : Hid (∀ W, Tabs W → Calls Tryd.prog 15 #[] W (fun o w' => o = .returned (.bool true) ∧ Below W.heap.size W w'))) (NX : Hid (∀ W, Calls Tryd.prog 14 #[.agg #[.int .i64 (y), .int .i64 (m), .int .i64 (d), .int .i64 (h), .int .i64 (i), .int .i64 (s), .int .i64 (n)]] W (RetZ W (N)))) (sn : Hid ((N).natAbs < 65536 ^ 9)) (FI : Hid (∀ (p : Bool) (A : Option Addr) (n c : Nat) (W : World), Zs W p A n c (N) → n ≤ 2000 → Calls Tryd.prog 13 #[.agg #[.bool p, .slice A n c]] W (fun e w' => e = .returned (.tuple #[.agg #[.int .i64 (m0), .int .u64 (m1)], .bool true]) ∧ Below W.heap.size W w'))) (w : World) (L : Tabs w) :
    Calls Tryd.prog 3 #[.agg #[.int .i64 (y), .int .i64 (m), .int .i64 (d), .int .i64 (h), .int .i64 (i), .int .i64 (s), .int .i64 (n)], .agg #[.int .i64 (hiW a), .int .u64 (loW a)]] w (RetV w (.bool true)) := by
  go_enter Tryd.func3, Tryd.ntmps3
  go_upto_region 1 with (fail)
  have KB := (((BK.nil w).more7 (.int .i64 (y)) (.int .i64 (m)) (.int .i64 (d)) (.int .i64 (h)) (.int .i64 (i)) (.int .i64 (s)) (.int .i64 (n)) 27).more2 (.int .i64 (hiW a)) (.int .u64 (loW a)) 30)
  simp only [World.size_alloc] at KB
  generalize ((w.alloc (.cells #[.int .i64 (y), .int .i64 (m), .int .i64 (d), .int .i64 (h), .int .i64 (i), .int .i64 (s), .int .i64 (n)] 27)).alloc (.cells #[.int .i64 (hiW a), .int .u64 (loW a)] 30)) = w0 at *
  obtain ⟨_, q0a, q0b, q0c, q0d, q0e, q0f, q0g, _⟩ := (KB.tail.head).seven
  go_wp2_with fail
  clear q0a q0b q0c q0d q0e q0f q0g
  refine (NP.out _ (L.mono KB.hb)).mono ?_
  rintro e w1 ⟨rfl, k⟩
  replace KB := KB.below k
  clear k
  go_upto_region 2 with (fail)
  have ig0 : w1.heap.size ≠ w.heap.size + 1 := Nat.ne_of_gt (KB.head).lt
  have og0 := Ne.symm ig0
  have ig1 : w1.heap.size ≠ w.heap.size := Nat.ne_of_gt (KB.tail.head).lt
  have og1 := Ne.symm ig1
  have ggg : w.heap.size ≤ w1.heap.size := KB.hb.size
  replace KB := KB.more2 (.int .i64 (m0)) (.int .u64 (m1)) 30
  generalize w1.alloc (.cells #[.int .i64 (m0), .int .u64 (m1)] 30) = w2 at *
  generalize w1.heap.size = g at *
  obtain ⟨_, q0a, q0b, q0c, q0d, q0e, q0f, q0g, _⟩ := (KB.tail.tail.head).seven
  go_wp2_with fail
  clear q0a q0b q0c q0d q0e q0f q0g
  refine (RR.out _ (L.mono KB.hb)).mono ?_
  rintro e w3 ⟨rfl, k⟩
  replace KB := KB.below k
  clear k
  obtain ⟨_, q0a, q0b, _⟩ := (KB.tail.head).two
  go_wp2_with fail
  clear q0a q0b
  refine (OP.out _ (L.mono KB.hb)).mono ?_
  rintro e w4 ⟨rfl, k⟩
  replace KB := KB.below k
  clear k
  go_upto_region 4 with (fail)
  have iq'0 : w4.heap.size ≠ g := Nat.ne_of_gt (KB.head).lt
  have oq'0 := Ne.symm iq'0
  have iq'1 : w4.heap.size ≠ w.heap.size + 1 := Nat.ne_of_gt (KB.tail.head).lt
  have oq'1 := Ne.symm iq'1
  have iq'2 : w4.heap.size ≠ w.heap.size := Nat.ne_of_gt (KB.tail.tail.head).lt
  have oq'2 := Ne.symm iq'2
  have ggq' : w.heap.size ≤ w4.heap.size := KB.hb.size
  replace KB := KB.more7 (.int .i64 (u0)) (.int .i64 (u1)) (.int .i64 (u2)) (.int .i64 (u3)) (.int .i64 (u4)) (.int .i64 (u5)) (.int .i64 (u6)) 27
  generalize w4.alloc (.cells #[.int .i64 (u0), .int .i64 (u1), .int .i64 (u2), .int .i64 (u3), .int .i64 (u4), .int .i64 (u5), .int .i64 (u6)] 27) = w5 at *
  generalize w4.heap.size = q' at *
  obtain ⟨_, q0a, q0b, _⟩ := (KB.tail.tail.head).two
  go_wp2_with fail
  clear q0a q0b
  refine (OW.out _).mono ?_
  rintro e w6 ⟨p5, A5, n5, c5, rfl, z5, k⟩
  have l5 := z5.small sa.out
  replace KB := KB.below k
  clear k
  go_wp2_with fail
  refine (OX.out _ _ _ _ _ z5 (by omega)).mono ?_
  rintro e w7 ⟨rfl, k⟩
  replace KB := KB.below k
  clear k
  go_upto_region 5 with (fail)
  have ir'0 : w7.heap.size ≠ q' := Nat.ne_of_gt (KB.head).lt
  have or'0 := Ne.symm ir'0
  have ir'1 : w7.heap.size ≠ g := Nat.ne_of_gt (KB.tail.head).lt
  have or'1 := Ne.symm ir'1
  have ir'2 : w7.heap.size ≠ w.heap.size + 1 := Nat.ne_of_gt (KB.tail.tail.head).lt
  have or'2 := Ne.symm ir'2
  have ir'3 : w7.heap.size ≠ w.heap.size := Nat.ne_of_gt (KB.tail.tail.tail.head).lt
  have or'3 := Ne.symm ir'3
  have ggr' : w.heap.size ≤ w7.heap.size := KB.hb.size
  replace KB := KB.more7 (.int .i64 (u0)) (.int .i64 (u1)) (.int .i64 (u2)) (.int .i64 (u3)) (.int .i64 (u4)) (.int .i64 (u5)) (.int .i64 (u6)) 27
  generalize w7.alloc (.cells #[.int .i64 (u0), .int .i64 (u1), .int .i64 (u2), .int .i64 (u3), .int .i64 (u4), .int .i64 (u5), .int .i64 (u6)] 27) = w8 at *
  generalize w7.heap.size = r' at *
  go_upto_region 6 with (fail)
  have it'0 : w8.heap.size ≠ r' := Nat.ne_of_gt (KB.head).lt
  have ot'0 := Ne.symm it'0
  have it'1 : w8.heap.size ≠ q' := Nat.ne_of_gt (KB.tail.head).lt
  have ot'1 := Ne.symm it'1
  have it'2 : w8.heap.size ≠ g := Nat.ne_of_gt (KB.tail.tail.head).lt
  have ot'2 := Ne.symm it'2
  have it'3 : w8.heap.size ≠ w.heap.size + 1 := Nat.ne_of_gt (KB.tail.tail.tail.head).lt
  have ot'3 := Ne.symm it'3
  have it'4 : w8.heap.size ≠ w.heap.size := Nat.ne_of_gt (KB.tail.tail.tail.tail.head).lt
  have ot'4 := Ne.symm it'4
  have ggt' : w.heap.size ≤ w8.heap.size := KB.hb.size
  replace KB := KB.more2 (.int .i64 0) (.int .u64 0) 30
  generalize w8.alloc (.cells #[.int .i64 0, .int .u64 0] 30) = w9 at *
  generalize w8.heap.size = t' at *
  obtain ⟨_, q0a, q0b, q0c, q0d, q0e, q0f, q0g, _⟩ := (KB.tail.tail.tail.tail.tail.head).seven
  go_wp2_with fail
  clear q0a q0b q0c q0d q0e q0f q0g
  refine (NX.out _).mono ?_
  rintro e w10 ⟨p6, A6, n6, c6, rfl, z6, k⟩
  have l6 := z6.small sn.out
  replace KB := KB.below k
  clear k
  go_wp2_with fail
  refine (FI.out _ _ _ _ _ z6 (by omega)).mono ?_
  rintro e w11 ⟨rfl, k⟩
  replace KB := KB.below k
  clear k
  obtain ⟨_, ta, tb, tc, td⟩ := KB.head.two
  go_upto_region 8 with (fail)
  clear ta tb tc td
  have hw : w.heap.size ≤ t' := ggt'
  have KP := KB.put2 (.int .i64 (m0)) (.int .u64 (m1)) hw (by simp [it'0, it'1, it'2, it'3, it'4])
  clear KB hw
  generalize (w11.setCell ⟨t', 0, none⟩ (.int .i64 (m0))).setCell ⟨t', 1, none⟩ (.int .u64 (m1)) = w40 at *
  have KB := KP
  clear KP
  go_wp2_with fail
  refine (AL.out _ (L.mono KB.hb)).mono ?_
  rintro e w12 ⟨rfl, k⟩
  replace KB := KB.below k
  clear k
  obtain ⟨_, q0a, q0b, _⟩ := (KB.tail.tail.tail.head).two
  obtain ⟨_, q1a, q1b, _⟩ := (KB.head).two
  obtain ⟨_, q2a, q2b, q2c, q2d, q2e, q2f, q2g, _⟩ := (KB.tail.tail.head).seven
  obtain ⟨_, q3a, q3b, q3c, q3d, q3e, q3f, q3g, _⟩ := (KB.tail.head).seven
  obtain ⟨_, q4a, q4b, q4c, q4d, q4e, q4f, q4g, _⟩ := (KB.tail.tail.tail.tail.tail.head).seven
  go_wp2_with fail
  clear q0a q0b q1a q1b q2a q2b q2c q2d q2e q2f q2g q3a q3b q3c q3d q3e q3f q3g q4a q4b q4c q4d q4e q4f q4g
  refine (RP.out _ (L.mono KB.hb)).mono ?_
  rintro e w13 ⟨rfl, k⟩
  replace KB := KB.below k
  clear k
  have HB := KB.hb
  go_wp2
  go_ret
  exact ⟨rfl, HB⟩
set_option maxRecDepth 100000 in
set_option maxHeartbeats 8000000 in
theorem counts7_f (y m d h i s n a u0 u1 u2 u3 u4 u5 u6 : Int) (f : Bool) (NP : Hid (∀ W, Tabs W → Calls Tryd.prog 8 #[.agg #[.int .i64 (y), .int .i64 (m), .int .i64 (d), .int .i64 (h), .int .i64 (i), .int .i64 (s), .int .i64 (n)]] W (fun o w' => o = .returned (.tuple #[.agg #[.int .i64 0, .int .u64 0], .bool false]) ∧ Below W.heap.size W w'))) (RR : Hid (∀ W, Tabs W → Calls Tryd.prog 9 #[.agg #[.int .i64 (y), .int .i64 (m), .int .i64 (d), .int .i64 (h), .int .i64 (i), .int .i64 (s), .int .i64 (n)]] W (fun o w' => o = .returned (.bool false) ∧ Below W.heap.size W w'))) (OP : Hid (∀ W, Tabs W → Calls Tryd.prog 10 #[.agg #[.int .i64 (hiW a), .int .u64 (loW a)]] W (fun o w' => o = .returned (.tuple #[.agg #[.int .i64 (u0), .int .i64 (u1), .int .i64 (u2), .int .i64 (u3), .int .i64 (u4), .int .i64 (u5), .int .i64 (u6)], .bool f]) ∧ Below W.heap.size W w'))) (OW : Hid (∀ W, Calls Tryd.prog 12 #[.agg #[.int .i64 (hiW a), .int .u64 (loW a)]] W (RetZ W (a)))) (sa : Hid ((a).natAbs < 65536 ^ 9)) (OX : Hid (∀ (p : Bool) (A : Option Addr) (n c : Nat) (W : World), Zs W p A n c (a) → n ≤ 2000 → Calls Tryd.prog 11 #[.agg #[.bool p, .slice A n c]] W (fun e w' => e = .returned (.tuple #[.agg #[.int .i64 (u0), .int .i64 (u1), .int .i64 (u2), .int .i64 (u3), .int .i64 (u4), .int .i64 (u5), .int .i64 (u6)], .bool f]) ∧ Below W.heap.size W w'))) (RP : Hid (∀ W, Tabs W → Calls Tryd.prog 16 #[.agg #[.int .i64 (y), .int .i64 (m), .int .i64 (d), .int .i64 (h), .int .i64 (i), .int .i64 (s), .int .i64 (n)]] W (fun o w' => o = .returned (.bool false) ∧ Below W.heap.size W w'))) (AL : Hid (∀ W, Tabs W → Calls Tryd.prog 15 #[] W (fun o w' => o = .returned (.bool true) ∧ Below W.heap.size W w'))) (w : World) (L : Tabs w) :
    Calls Tryd.prog 3 #[.agg #[.int .i64 (y), .int .i64 (m), .int .i64 (d), .int .i64 (h), .int .i64 (i), .int .i64 (s), .int .i64 (n)], .agg #[.int .i64 (hiW a), .int .u64 (loW a)]] w (RetV w (.bool true)) := by
  go_enter Tryd.func3, Tryd.ntmps3
  go_upto_region 1 with (fail)
  have KB := (((BK.nil w).more7 (.int .i64 (y)) (.int .i64 (m)) (.int .i64 (d)) (.int .i64 (h)) (.int .i64 (i)) (.int .i64 (s)) (.int .i64 (n)) 27).more2 (.int .i64 (hiW a)) (.int .u64 (loW a)) 30)
  simp only [World.size_alloc] at KB
  generalize ((w.alloc (.cells #[.int .i64 (y), .int .i64 (m), .int .i64 (d), .int .i64 (h), .int .i64 (i), .int .i64 (s), .int .i64 (n)] 27)).alloc (.cells #[.int .i64 (hiW a), .int .u64 (loW a)] 30)) = w0 at *
  obtain ⟨_, q0a, q0b, q0c, q0d, q0e, q0f, q0g, _⟩ := (KB.tail.head).seven
  go_wp2_with fail
  clear q0a q0b q0c q0d q0e q0f q0g
  refine (NP.out _ (L.mono KB.hb)).mono ?_
  rintro e w1 ⟨rfl, k⟩
  replace KB := KB.below k
  clear k
  go_upto_region 2 with (fail)
  have ig0 : w1.heap.size ≠ w.heap.size + 1 := Nat.ne_of_gt (KB.head).lt
  have og0 := Ne.symm ig0
  have ig1 : w1.heap.size ≠ w.heap.size := Nat.ne_of_gt (KB.tail.head).lt
  have og1 := Ne.symm ig1
  have ggg : w.heap.size ≤ w1.heap.size := KB.hb.size
  replace KB := KB.more2 (.int .i64 0) (.int .u64 0) 30
  generalize w1.alloc (.cells #[.int .i64 0, .int .u64 0] 30) = w2 at *
  generalize w1.heap.size = g at *
  obtain ⟨_, q0a, q0b, q0c, q0d, q0e, q0f, q0g, _⟩ := (KB.tail.tail.head).seven
  go_wp2_with fail
  clear q0a q0b q0c q0d q0e q0f q0g
  refine (RR.out _ (L.mono KB.hb)).mono ?_
  rintro e w3 ⟨rfl, k⟩
  replace KB := KB.below k
  clear k
  obtain ⟨_, q0a, q0b, _⟩ := (KB.tail.head).two
  go_wp2_with fail
  clear q0a q0b
  refine (OP.out _ (L.mono KB.hb)).mono ?_
  rintro e w4 ⟨rfl, k⟩
  replace KB := KB.below k
  clear k
  go_upto_region 4 with (fail)
  have iq'0 : w4.heap.size ≠ g := Nat.ne_of_gt (KB.head).lt
  have oq'0 := Ne.symm iq'0
  have iq'1 : w4.heap.size ≠ w.heap.size + 1 := Nat.ne_of_gt (KB.tail.head).lt
  have oq'1 := Ne.symm iq'1
  have iq'2 : w4.heap.size ≠ w.heap.size := Nat.ne_of_gt (KB.tail.tail.head).lt
  have oq'2 := Ne.symm iq'2
  have ggq' : w.heap.size ≤ w4.heap.size := KB.hb.size
  replace KB := KB.more7 (.int .i64 (u0)) (.int .i64 (u1)) (.int .i64 (u2)) (.int .i64 (u3)) (.int .i64 (u4)) (.int .i64 (u5)) (.int .i64 (u6)) 27
  generalize w4.alloc (.cells #[.int .i64 (u0), .int .i64 (u1), .int .i64 (u2), .int .i64 (u3), .int .i64 (u4), .int .i64 (u5), .int .i64 (u6)] 27) = w5 at *
  generalize w4.heap.size = q' at *
  obtain ⟨_, q0a, q0b, _⟩ := (KB.tail.tail.head).two
  go_wp2_with fail
  clear q0a q0b
  refine (OW.out _).mono ?_
  rintro e w6 ⟨p5, A5, n5, c5, rfl, z5, k⟩
  have l5 := z5.small sa.out
  replace KB := KB.below k
  clear k
  go_wp2_with fail
  refine (OX.out _ _ _ _ _ z5 (by omega)).mono ?_
  rintro e w7 ⟨rfl, k⟩
  replace KB := KB.below k
  clear k
  go_upto_region 5 with (fail)
  have ir'0 : w7.heap.size ≠ q' := Nat.ne_of_gt (KB.head).lt
  have or'0 := Ne.symm ir'0
  have ir'1 : w7.heap.size ≠ g := Nat.ne_of_gt (KB.tail.head).lt
  have or'1 := Ne.symm ir'1
  have ir'2 : w7.heap.size ≠ w.heap.size + 1 := Nat.ne_of_gt (KB.tail.tail.head).lt
  have or'2 := Ne.symm ir'2
  have ir'3 : w7.heap.size ≠ w.heap.size := Nat.ne_of_gt (KB.tail.tail.tail.head).lt
  have or'3 := Ne.symm ir'3
  have ggr' : w.heap.size ≤ w7.heap.size := KB.hb.size
  replace KB := KB.more7 (.int .i64 (u0)) (.int .i64 (u1)) (.int .i64 (u2)) (.int .i64 (u3)) (.int .i64 (u4)) (.int .i64 (u5)) (.int .i64 (u6)) 27
  generalize w7.alloc (.cells #[.int .i64 (u0), .int .i64 (u1), .int .i64 (u2), .int .i64 (u3), .int .i64 (u4), .int .i64 (u5), .int .i64 (u6)] 27) = w8 at *
  generalize w7.heap.size = r' at *
  go_upto_region 6 with (fail)
  have it'0 : w8.heap.size ≠ r' := Nat.ne_of_gt (KB.head).lt
  have ot'0 := Ne.symm it'0
  have it'1 : w8.heap.size ≠ q' := Nat.ne_of_gt (KB.tail.head).lt
  have ot'1 := Ne.symm it'1
  have it'2 : w8.heap.size ≠ g := Nat.ne_of_gt (KB.tail.tail.head).lt
  have ot'2 := Ne.symm it'2
  have it'3 : w8.heap.size ≠ w.heap.size + 1 := Nat.ne_of_gt (KB.tail.tail.tail.head).lt
  have ot'3 := Ne.symm it'3
  have it'4 : w8.heap.size ≠ w.heap.size := Nat.ne_of_gt (KB.tail.tail.tail.tail.head).lt
  have ot'4 := Ne.symm it'4
  have ggt' : w.heap.size ≤ w8.heap.size := KB.hb.size
  replace KB := KB.more2 (.int .i64 0) (.int .u64 0) 30
  generalize w8.alloc (.cells #[.int .i64 0, .int .u64 0] 30) = w9 at *
  generalize w8.heap.size = t' at *
  go_wp2_with fail
  refine (AL.out _ (L.mono KB.hb)).mono ?_
  rintro e w10 ⟨rfl, k⟩
  replace KB := KB.below k
  clear k
  obtain ⟨_, q0a, q0b, _⟩ := (KB.tail.tail.tail.head).two
  obtain ⟨_, q1a, q1b, _⟩ := (KB.head).two
  obtain ⟨_, q2a, q2b, q2c, q2d, q2e, q2f, q2g, _⟩ := (KB.tail.tail.head).seven
  obtain ⟨_, q3a, q3b, q3c, q3d, q3e, q3f, q3g, _⟩ := (KB.tail.head).seven
  obtain ⟨_, q4a, q4b, q4c, q4d, q4e, q4f, q4g, _⟩ := (KB.tail.tail.tail.tail.tail.head).seven
  go_wp2_with fail
  clear q0a q0b q1a q1b q2a q2b q2c q2d q2e q2f q2g q3a q3b q3c q3d q3e q3f q3g q4a q4b q4c q4d q4e q4f q4g
  refine (RP.out _ (L.mono KB.hb)).mono ?_
  rintro e w11 ⟨rfl, k⟩
  replace KB := KB.below k
  clear k
  have HB := KB.hb
  go_wp2
  go_ret
  exact ⟨rfl, HB⟩
theorem of_same (C : PlainP) (a : Int) (ha : InW a) : ∃ (u0 u1 u2 u3 u4 u5 u6 : Int) (f : Bool), (∀ W, Tabs W → Calls Tryd.prog 10 #[.agg #[.int .i64 (hiW a), .int .u64 (loW a)]] W (RetXB W u0 u1 u2 u3 u4 u5 u6 f)) ∧ (∀ (p : Bool) (A : Option Addr) (n c : Nat) (W : World), Zs W p A n c a → Calls Tryd.prog 11 #[.agg #[.bool p, .slice A n c]] W (RetXB W u0 u1 u2 u3 u4 u5 u6 f)) := by
  by_cases b : a ≤ -8640000086400000000000 ∨ 8640000086400000000000 ≤ a
  · exact ⟨_, _, _, _, _, _, _, _, fun W l => C.of_no a ha b W l, fun p A n c W hz => ofXR_no (small_w ha) b p A n c W hz⟩
  · obtain ⟨u0, u1, u2, u3, u4, u5, u6, ku, e, _⟩ := both_of (N := a) (by omega) (by omega)
    exact ⟨_, _, _, _, _, _, _, _, fun W l => C.of_yes a u0 u1 u2 u3 u4 u5 u6 ku e W l, fun p A n c W hz => ofXR_yes ku e p A n c W hz⟩
theorem plainCounts_walk (C : PlainP) (y m d h i s n a : Int) (i0 : In64 y) (i1 : In64 m) (i2 : In64 d) (i3 : In64 h) (i4 : In64 i) (i5 : In64 s) (i6 : In64 n) (ha : InW a) (w : World) (L : Tabs w) : Calls Tryd.prog 3 #[.agg #[.int .i64 (y), .int .i64 (m), .int .i64 (d), .int .i64 (h), .int .i64 (i), .int .i64 (s), .int .i64 (n)], .agg #[.int .i64 (hiW a), .int .u64 (loW a)]] w (RetV w (.bool true)) := by
  have AL := Lib.hid fun W l => alive7 C W l
  obtain ⟨u0, u1, u2, u3, u4, u5, u6, f, o1, o2⟩ := of_same C a ha
  have RP := fun W l => C.right y m d h i s n i0 i1 i2 i3 i4 i5 i6 W l
  have OW := Lib.hid fun W => wof_z a ha W
  by_cases k : okX y m d h i s n
  · rw [decide_eq_true k] at RP
    have r := numX_range k
    have iw : InW (numX y m d h i s n) := inW_X (by omega) (by omega)
    exact counts7_t y m d h i s n a u0 u1 u2 u3 u4 u5 u6 _ _ _ f (Lib.hid fun W l => C.nanos_yes y m d h i s n k W l) (Lib.hid fun W _ => rightXR_is k W) (Lib.hid o1) OW (Lib.hid (small_w ha)) (Lib.hid fun p A n c W h1 _ => o2 p A n c W h1) (Lib.hid RP) AL
      (Lib.hid fun W => nanosXR k W) (Lib.hid (small_w iw)) (Lib.hid fun p A n c W h1 h2 => wfits_yes p A n c _ W h1 h2 iw) w L
  · rw [decide_eq_false k] at RP
    exact counts7_f y m d h i s n a u0 u1 u2 u3 u4 u5 u6 f (Lib.hid fun W l => C.nanos_no y m d h i s n i0 i1 i2 i3 i4 i5 i6 k W l) (Lib.hid fun W _ => rightXR_none k W) (Lib.hid o1) OW (Lib.hid (small_w ha)) (Lib.hid fun p A n c W h1 _ => o2 p A n c W h1) (Lib.hid RP) AL w L
end Go.Proofs.YtlidicnbmfkghaaDoor
