/- Package clock: fields made right, nanoseconds added, times rounded; the package answers as the document says. -/
import Derived.Test.YteggdabnhdjfcaaDoorKnum
import Derived.Test.YteggdabnhdjfcaaDoorGzon
import Derived.Test.YteggdabnhdjfcaaDoorGt
import Derived.Test.YteggdabnhdjfcaaDoorGr
import Derived.Deep.RegionHeld3
namespace Go.Proofs.YteggdabnhdjfcaaDoor
open Go.RowKit

set_option maxRecDepth 100000 in
set_option maxHeartbeats 4000000 in
theorem regK_bad (h m s n o : Int) (h1 : ¬ o = 1) (h2 : ¬ o = 2) (w : World) :
    Calls Tryd.prog 16 #[.int .i64 h, .int .i64 m, .int .i64 s, .int .i64 n, .int .i64 o] w (RetTE w 0 0 0 0 1) := by
  go_enter Tryd.func16, Tryd.ntmps16
  go_upto_region 2 with (fail)
  have KB := (((BK.nil w).more4 (.int .i64 (0)) (.int .i64 (0)) (.int .i64 (0)) (.int .i64 (0)) 23).more4 (.int .i64 (h)) (.int .i64 (m)) (.int .i64 (s)) (.int .i64 (n)) 23)
  simp only [World.size_alloc] at KB
  generalize ((w.alloc (.cells #[.int .i64 (0), .int .i64 (0), .int .i64 (0), .int .i64 (0)] 23)).alloc (.cells #[.int .i64 (h), .int .i64 (m), .int .i64 (s), .int .i64 (n)] 23)) = w0 at *
  have f1 : (o == 1) = false := beq_eq_false_iff_ne.2 h1
  have f2 : (o == 2) = false := beq_eq_false_iff_ne.2 h2
  obtain ⟨_, r0, r1, r2, r3, rf0, rf1, rf2, rf3⟩ := (KB.tail.head).four
  have i5 : w.heap.size + 1 ≠ w.heap.size := by omega
  have i6 := Ne.symm i5
  go_wp2
  obtain ⟨_, P0, P1, P2, P3, _⟩ := ((KB.tail.head).self4 (.int .i64 (0)) (.int .i64 (0)) (.int .i64 (0)) (.int .i64 (0))).four
  have HB := ((((KB.hb.setCell (p := ⟨w.heap.size, 0, none⟩) (by show _ ≤ w.heap.size; omega) (.int .i64 (0))).setCell (p := ⟨w.heap.size, 1, none⟩) (by show _ ≤ w.heap.size; omega) (.int .i64 (0))).setCell (p := ⟨w.heap.size, 2, none⟩) (by show _ ≤ w.heap.size; omega) (.int .i64 (0))).setCell (p := ⟨w.heap.size, 3, none⟩) (by show _ ≤ w.heap.size; omega) (.int .i64 (0)))
  exact bodyPost_ret (v := .tuple #[.agg #[.int .i64 (0), .int .i64 (0), .int .i64 (0), .int .i64 (0)], .int .i64 (1)]) (by simp [results, Tryd.results16, go_sem, P0, P1, P2, P3]) rfl ⟨rfl, HB⟩
set_option maxRecDepth 100000 in
set_option maxHeartbeats 8000000 in
theorem regK_con (h m s n x0 x1 x2 x3 : Int) (NR : Hid (∀ W, Sizes W → Calls Tryd.prog 28 #[.agg #[.int .i64 (h), .int .i64 (m), .int .i64 (s), .int .i64 (n)]] W (fun o w' => o = .returned (.agg #[.int .i64 (x0), .int .i64 (x1), .int .i64 (x2), .int .i64 (x3)]) ∧ Below W.heap.size W w'))) (w : World) (L : Sizes w) :
    Calls Tryd.prog 16 #[.int .i64 h, .int .i64 m, .int .i64 s, .int .i64 n, .int .i64 1] w (RetTE w x0 x1 x2 x3 0) := by
  go_enter Tryd.func16, Tryd.ntmps16
  go_upto_region 2 with (fail)
  have KB := (((BK.nil w).more4 (.int .i64 (0)) (.int .i64 (0)) (.int .i64 (0)) (.int .i64 (0)) 23).more4 (.int .i64 (h)) (.int .i64 (m)) (.int .i64 (s)) (.int .i64 (n)) 23)
  simp only [World.size_alloc] at KB
  generalize ((w.alloc (.cells #[.int .i64 (0), .int .i64 (0), .int .i64 (0), .int .i64 (0)] 23)).alloc (.cells #[.int .i64 (h), .int .i64 (m), .int .i64 (s), .int .i64 (n)] 23)) = w0 at *
  obtain ⟨_, q0a, q0b, q0c, q0d, _⟩ := (KB.head).four
  go_wp2_with fail
  clear q0a q0b q0c q0d
  refine (NR.out _ (L.mono KB.hb)).mono ?_
  rintro e w1 ⟨rfl, k⟩
  replace KB := KB.below k
  clear k
  obtain ⟨_, r0, r1, r2, r3, rf0, rf1, rf2, rf3⟩ := (KB.tail.head).four
  have i5 : w.heap.size + 1 ≠ w.heap.size := by omega
  have i6 := Ne.symm i5
  go_wp2
  obtain ⟨_, P0, P1, P2, P3, _⟩ := ((KB.tail.head).self4 (.int .i64 (x0)) (.int .i64 (x1)) (.int .i64 (x2)) (.int .i64 (x3))).four
  have HB := ((((KB.hb.setCell (p := ⟨w.heap.size, 0, none⟩) (by show _ ≤ w.heap.size; omega) (.int .i64 (x0))).setCell (p := ⟨w.heap.size, 1, none⟩) (by show _ ≤ w.heap.size; omega) (.int .i64 (x1))).setCell (p := ⟨w.heap.size, 2, none⟩) (by show _ ≤ w.heap.size; omega) (.int .i64 (x2))).setCell (p := ⟨w.heap.size, 3, none⟩) (by show _ ≤ w.heap.size; omega) (.int .i64 (x3)))
  exact bodyPost_ret (v := .tuple #[.agg #[.int .i64 (x0), .int .i64 (x1), .int .i64 (x2), .int .i64 (x3)], .int .i64 (0)]) (by simp [results, Tryd.results16, go_sem, P0, P1, P2, P3]) rfl ⟨rfl, HB⟩
set_option maxRecDepth 100000 in
set_option maxHeartbeats 8000000 in
theorem regK_field (h m s n : Int) (RI : Hid (∀ W, Sizes W → Calls Tryd.prog 15 #[.agg #[.int .i64 (h), .int .i64 (m), .int .i64 (s), .int .i64 (n)]] W (fun o w' => o = .returned (.bool false) ∧ Below W.heap.size W w'))) (w : World) (L : Sizes w) :
    Calls Tryd.prog 16 #[.int .i64 h, .int .i64 m, .int .i64 s, .int .i64 n, .int .i64 2] w (RetTE w 0 0 0 0 5) := by
  go_enter Tryd.func16, Tryd.ntmps16
  go_upto_region 2 with (fail)
  have KB := (((BK.nil w).more4 (.int .i64 (0)) (.int .i64 (0)) (.int .i64 (0)) (.int .i64 (0)) 23).more4 (.int .i64 (h)) (.int .i64 (m)) (.int .i64 (s)) (.int .i64 (n)) 23)
  simp only [World.size_alloc] at KB
  generalize ((w.alloc (.cells #[.int .i64 (0), .int .i64 (0), .int .i64 (0), .int .i64 (0)] 23)).alloc (.cells #[.int .i64 (h), .int .i64 (m), .int .i64 (s), .int .i64 (n)] 23)) = w0 at *
  obtain ⟨_, q0a, q0b, q0c, q0d, _⟩ := (KB.head).four
  go_wp2_with fail
  clear q0a q0b q0c q0d
  refine (RI.out _ (L.mono KB.hb)).mono ?_
  rintro e w1 ⟨rfl, k⟩
  replace KB := KB.below k
  clear k
  obtain ⟨_, r0, r1, r2, r3, rf0, rf1, rf2, rf3⟩ := (KB.tail.head).four
  have i5 : w.heap.size + 1 ≠ w.heap.size := by omega
  have i6 := Ne.symm i5
  go_wp2
  obtain ⟨_, P0, P1, P2, P3, _⟩ := ((KB.tail.head).self4 (.int .i64 (0)) (.int .i64 (0)) (.int .i64 (0)) (.int .i64 (0))).four
  have HB := ((((KB.hb.setCell (p := ⟨w.heap.size, 0, none⟩) (by show _ ≤ w.heap.size; omega) (.int .i64 (0))).setCell (p := ⟨w.heap.size, 1, none⟩) (by show _ ≤ w.heap.size; omega) (.int .i64 (0))).setCell (p := ⟨w.heap.size, 2, none⟩) (by show _ ≤ w.heap.size; omega) (.int .i64 (0))).setCell (p := ⟨w.heap.size, 3, none⟩) (by show _ ≤ w.heap.size; omega) (.int .i64 (0)))
  exact bodyPost_ret (v := .tuple #[.agg #[.int .i64 (0), .int .i64 (0), .int .i64 (0), .int .i64 (0)], .int .i64 (5)]) (by simp [results, Tryd.results16, go_sem, P0, P1, P2, P3]) rfl ⟨rfl, HB⟩
set_option maxRecDepth 100000 in
set_option maxHeartbeats 8000000 in
theorem regK_yes (h m s n : Int) (RI : Hid (∀ W, Sizes W → Calls Tryd.prog 15 #[.agg #[.int .i64 (h), .int .i64 (m), .int .i64 (s), .int .i64 (n)]] W (fun o w' => o = .returned (.bool true) ∧ Below W.heap.size W w'))) (w : World) (L : Sizes w) :
    Calls Tryd.prog 16 #[.int .i64 h, .int .i64 m, .int .i64 s, .int .i64 n, .int .i64 2] w (RetTE w h m s n 0) := by
  go_enter Tryd.func16, Tryd.ntmps16
  go_upto_region 2 with (fail)
  have KB := (((BK.nil w).more4 (.int .i64 (0)) (.int .i64 (0)) (.int .i64 (0)) (.int .i64 (0)) 23).more4 (.int .i64 (h)) (.int .i64 (m)) (.int .i64 (s)) (.int .i64 (n)) 23)
  simp only [World.size_alloc] at KB
  generalize ((w.alloc (.cells #[.int .i64 (0), .int .i64 (0), .int .i64 (0), .int .i64 (0)] 23)).alloc (.cells #[.int .i64 (h), .int .i64 (m), .int .i64 (s), .int .i64 (n)] 23)) = w0 at *
  obtain ⟨_, q0a, q0b, q0c, q0d, _⟩ := (KB.head).four
  go_wp2_with fail
  clear q0a q0b q0c q0d
  refine (RI.out _ (L.mono KB.hb)).mono ?_
  rintro e w1 ⟨rfl, k⟩
  replace KB := KB.below k
  clear k
  obtain ⟨_, j0, j1, j2, j3, jf0, jf1, jf2, jf3⟩ := (KB.head).four
  obtain ⟨_, r0, r1, r2, r3, rf0, rf1, rf2, rf3⟩ := (KB.tail.head).four
  have i5 : w.heap.size + 1 ≠ w.heap.size := by omega
  have i6 := Ne.symm i5
  go_wp2
  obtain ⟨_, P0, P1, P2, P3, _⟩ := ((KB.tail.head).self4 (.int .i64 (h)) (.int .i64 (m)) (.int .i64 (s)) (.int .i64 (n))).four
  have HB := ((((KB.hb.setCell (p := ⟨w.heap.size, 0, none⟩) (by show _ ≤ w.heap.size; omega) (.int .i64 (h))).setCell (p := ⟨w.heap.size, 1, none⟩) (by show _ ≤ w.heap.size; omega) (.int .i64 (m))).setCell (p := ⟨w.heap.size, 2, none⟩) (by show _ ≤ w.heap.size; omega) (.int .i64 (s))).setCell (p := ⟨w.heap.size, 3, none⟩) (by show _ ≤ w.heap.size; omega) (.int .i64 (n)))
  exact bodyPost_ret (v := .tuple #[.agg #[.int .i64 (h), .int .i64 (m), .int .i64 (s), .int .i64 (n)], .int .i64 (0)]) (by simp [results, Tryd.results16, go_sem, P0, P1, P2, P3]) rfl ⟨rfl, HB⟩
set_option maxRecDepth 100000 in
set_option maxHeartbeats 8000000 in
theorem behindK_no (c0 c1 q0 q1 r : Int) (BY : Hid (∀ W, Sizes W → Calls Tryd.prog 45 #[.agg #[.int .i64 (c0), .int .u64 (c1)], .int .i64 86400000000000] W (fun o w' => o = .returned (.tuple #[.agg #[.int .i64 (q0), .int .u64 (q1)], .int .i64 (r), .int .i64 (0)]) ∧ Below W.heap.size W w'))) (IN : Hid (∀ W, Sizes W → Calls Tryd.prog 46 #[.agg #[.int .i64 (q0), .int .u64 (q1)]] W (fun o w' => o = .returned (.tuple #[.int .i64 (0), .bool false]) ∧ Below W.heap.size W w'))) (w : World) (L : Sizes w) :
    Calls Tryd.prog 31 #[.agg #[.int .i64 (c0), .int .u64 (c1)]] w (RetTNE w 0 0 0 0 0 2) := by
  go_enter Tryd.func31, Tryd.ntmps31
  go_upto_region 1 with (fail)
  have KB := (((BK.nil w).more2 (.int .i64 (c0)) (.int .u64 (c1)) 42).more4 (.int .i64 (0)) (.int .i64 (0)) (.int .i64 (0)) (.int .i64 (0)) 23)
  simp only [World.size_alloc] at KB
  generalize ((w.alloc (.cells #[.int .i64 (c0), .int .u64 (c1)] 42)).alloc (.cells #[.int .i64 (0), .int .i64 (0), .int .i64 (0), .int .i64 (0)] 23)) = w0 at *
  obtain ⟨_, q0a, q0b, _⟩ := (KB.tail.head).two
  go_wp2_with fail
  clear q0a q0b
  refine (BY.out _ (L.mono KB.hb)).mono ?_
  rintro e w1 ⟨rfl, k⟩
  replace KB := KB.below k
  clear k
  go_upto_region 2 with (fail)
  have ig0 : w1.heap.size ≠ w.heap.size + 1 := Nat.ne_of_gt (KB.head).lt
  have og0 := Ne.symm ig0
  have ig1 : w1.heap.size ≠ w.heap.size := Nat.ne_of_gt (KB.tail.head).lt
  have og1 := Ne.symm ig1
  have ggg : w.heap.size ≤ w1.heap.size := KB.hb.size
  replace KB := KB.more2 (.int .i64 (q0)) (.int .u64 (q1)) 42
  generalize w1.alloc (.cells #[.int .i64 (q0), .int .u64 (q1)] 42) = w2 at *
  generalize w1.heap.size = g at *
  obtain ⟨_, q0a, q0b, _⟩ := (KB.head).two
  go_wp2_with fail
  clear q0a q0b
  refine (IN.out _ (L.mono KB.hb)).mono ?_
  rintro e w3 ⟨rfl, k⟩
  replace KB := KB.below k
  clear k
  obtain ⟨_, r0, r1, r2, r3, rf0, rf1, rf2, rf3⟩ := (KB.tail.head).four
  go_wp2
  obtain ⟨_, P0, P1, P2, P3, _⟩ := ((KB.tail.head).self4 (.int .i64 (0)) (.int .i64 (0)) (.int .i64 (0)) (.int .i64 (0))).four
  have HB := ((((KB.hb.setCell (p := ⟨w.heap.size + 1, 0, none⟩) (by show _ ≤ w.heap.size + 1; omega) (.int .i64 (0))).setCell (p := ⟨w.heap.size + 1, 1, none⟩) (by show _ ≤ w.heap.size + 1; omega) (.int .i64 (0))).setCell (p := ⟨w.heap.size + 1, 2, none⟩) (by show _ ≤ w.heap.size + 1; omega) (.int .i64 (0))).setCell (p := ⟨w.heap.size + 1, 3, none⟩) (by show _ ≤ w.heap.size + 1; omega) (.int .i64 (0)))
  exact bodyPost_ret (v := .tuple #[.agg #[.int .i64 (0), .int .i64 (0), .int .i64 (0), .int .i64 (0)], .int .i64 (0), .int .i64 (2)]) (by simp [results, Tryd.results31, go_sem, P0, P1, P2, P3]) rfl ⟨rfl, HB⟩
set_option maxRecDepth 100000 in
set_option maxHeartbeats 8000000 in
theorem behindK_yes (c0 c1 q0 q1 r k x0 x1 x2 x3 : Int) (BY : Hid (∀ W, Sizes W → Calls Tryd.prog 45 #[.agg #[.int .i64 (c0), .int .u64 (c1)], .int .i64 86400000000000] W (fun o w' => o = .returned (.tuple #[.agg #[.int .i64 (q0), .int .u64 (q1)], .int .i64 (r), .int .i64 (0)]) ∧ Below W.heap.size W w'))) (IN : Hid (∀ W, Sizes W → Calls Tryd.prog 46 #[.agg #[.int .i64 (q0), .int .u64 (q1)]] W (fun o w' => o = .returned (.tuple #[.int .i64 (k), .bool true]) ∧ Below W.heap.size W w'))) (OF : Hid (∀ W, Sizes W → Calls Tryd.prog 11 #[.int .i64 (r)] W (fun o w' => o = .returned (.tuple #[.agg #[.int .i64 (x0), .int .i64 (x1), .int .i64 (x2), .int .i64 (x3)], .bool true]) ∧ Below W.heap.size W w'))) (w : World) (L : Sizes w) :
    Calls Tryd.prog 31 #[.agg #[.int .i64 (c0), .int .u64 (c1)]] w (RetTNE w x0 x1 x2 x3 k 0) := by
  go_enter Tryd.func31, Tryd.ntmps31
  go_upto_region 1 with (fail)
  have KB := (((BK.nil w).more2 (.int .i64 (c0)) (.int .u64 (c1)) 42).more4 (.int .i64 (0)) (.int .i64 (0)) (.int .i64 (0)) (.int .i64 (0)) 23)
  simp only [World.size_alloc] at KB
  generalize ((w.alloc (.cells #[.int .i64 (c0), .int .u64 (c1)] 42)).alloc (.cells #[.int .i64 (0), .int .i64 (0), .int .i64 (0), .int .i64 (0)] 23)) = w0 at *
  obtain ⟨_, q0a, q0b, _⟩ := (KB.tail.head).two
  go_wp2_with fail
  clear q0a q0b
  refine (BY.out _ (L.mono KB.hb)).mono ?_
  rintro e w1 ⟨rfl, k⟩
  replace KB := KB.below k
  clear k
  go_upto_region 2 with (fail)
  have ig0 : w1.heap.size ≠ w.heap.size + 1 := Nat.ne_of_gt (KB.head).lt
  have og0 := Ne.symm ig0
  have ig1 : w1.heap.size ≠ w.heap.size := Nat.ne_of_gt (KB.tail.head).lt
  have og1 := Ne.symm ig1
  have ggg : w.heap.size ≤ w1.heap.size := KB.hb.size
  replace KB := KB.more2 (.int .i64 (q0)) (.int .u64 (q1)) 42
  generalize w1.alloc (.cells #[.int .i64 (q0), .int .u64 (q1)] 42) = w2 at *
  generalize w1.heap.size = g at *
  obtain ⟨_, q0a, q0b, _⟩ := (KB.head).two
  go_wp2_with fail
  clear q0a q0b
  refine (IN.out _ (L.mono KB.hb)).mono ?_
  rintro e w3 ⟨rfl, k⟩
  replace KB := KB.below k
  clear k
  go_wp2_with fail
  refine (OF.out _ (L.mono KB.hb)).mono ?_
  rintro e w4 ⟨rfl, k⟩
  replace KB := KB.below k
  clear k
  go_upto_region 6 with (fail)
  have ip0 : w4.heap.size ≠ g := Nat.ne_of_gt (KB.head).lt
  have op0 := Ne.symm ip0
  have ip1 : w4.heap.size ≠ w.heap.size + 1 := Nat.ne_of_gt (KB.tail.head).lt
  have op1 := Ne.symm ip1
  have ip2 : w4.heap.size ≠ w.heap.size := Nat.ne_of_gt (KB.tail.tail.head).lt
  have op2 := Ne.symm ip2
  have ggp : w.heap.size ≤ w4.heap.size := KB.hb.size
  replace KB := KB.more4 (.int .i64 (x0)) (.int .i64 (x1)) (.int .i64 (x2)) (.int .i64 (x3)) 23
  generalize w4.alloc (.cells #[.int .i64 (x0), .int .i64 (x1), .int .i64 (x2), .int .i64 (x3)] 23) = w5 at *
  generalize w4.heap.size = p at *
  obtain ⟨_, j0, j1, j2, j3, jf0, jf1, jf2, jf3⟩ := (KB.head).four
  obtain ⟨_, r0, r1, r2, r3, rf0, rf1, rf2, rf3⟩ := (KB.tail.tail.head).four
  go_wp2
  obtain ⟨_, P0, P1, P2, P3, _⟩ := ((KB.tail.tail.head).self4 (.int .i64 (x0)) (.int .i64 (x1)) (.int .i64 (x2)) (.int .i64 (x3))).four
  have HB := ((((KB.hb.setCell (p := ⟨w.heap.size + 1, 0, none⟩) (by show _ ≤ w.heap.size + 1; omega) (.int .i64 (x0))).setCell (p := ⟨w.heap.size + 1, 1, none⟩) (by show _ ≤ w.heap.size + 1; omega) (.int .i64 (x1))).setCell (p := ⟨w.heap.size + 1, 2, none⟩) (by show _ ≤ w.heap.size + 1; omega) (.int .i64 (x2))).setCell (p := ⟨w.heap.size + 1, 3, none⟩) (by show _ ≤ w.heap.size + 1; omega) (.int .i64 (x3)))
  exact bodyPost_ret (v := .tuple #[.agg #[.int .i64 (x0), .int .i64 (x1), .int .i64 (x2), .int .i64 (x3)], .int .i64 (k), .int .i64 (0)]) (by simp [results, Tryd.results31, go_sem, P0, P1, P2, P3]) rfl ⟨rfl, HB⟩
theorem fdiv_day (z : Int) : z.fdiv 86400000000000 = z / 86400000000000 ∧ z.fmod 86400000000000 = z % 86400000000000 :=
  ⟨Int.fdiv_eq_ediv_of_nonneg z (by decide), Int.fmod_eq_emod_of_nonneg z (by decide)⟩
theorem by_day (z : Int) (hz : InW z) (W : World) : Calls Tryd.prog 45 #[.agg #[.int .i64 (hiW z), .int .u64 (loW z)], .int .i64 86400000000000] W (fun o w' => o = .returned (.tuple #[.agg #[.int .i64 (hiW (z / 86400000000000)), .int .u64 (loW (z / 86400000000000))], .int .i64 (z % 86400000000000), .int .i64 0]) ∧ Below W.heap.size W w') := by
  have c := byW_any z 86400000000000 hz (by decide) (by decide) W
  rw [(fdiv_day z).1, (fdiv_day z).2] at c
  exact c
theorem int_no (z : Int) (h : ¬ In64 z) (W : World) : Calls Tryd.prog 46 #[.agg #[.int .i64 (hiW z), .int .u64 (loW z)]] W (fun o w' => o = .returned (.tuple #[.int .i64 0, .bool false]) ∧ Below W.heap.size W w') := by
  have c := wideInt z W
  unfold iv at c
  rw [if_neg h, decide_eq_false h] at c
  exact c
theorem int_yes (z : Int) (h : In64 z) (W : World) : Calls Tryd.prog 46 #[.agg #[.int .i64 (hiW z), .int .u64 (loW z)]] W (fun o w' => o = .returned (.tuple #[.int .i64 z, .bool true]) ∧ Below W.heap.size W w') := by
  have c := wideInt z W
  unfold iv at c
  rw [if_pos h, decide_eq_true h] at c
  exact c
theorem behindK_over (z : Int) (hz : InW z) (h : ¬ In64 (z / 86400000000000)) (w : World) (L : Sizes w) : Calls Tryd.prog 31 #[.agg #[.int .i64 (hiW z), .int .u64 (loW z)]] w (RetTNE w 0 0 0 0 0 2) :=
  behindK_no _ _ _ _ _ (Lib.hid fun W _ => by_day z hz W) (Lib.hid fun W _ => int_no _ h W) w L
theorem behindK (z x0 x1 x2 x3 : Int) (hz : InW z) (h : In64 (z / 86400000000000)) (hx : okT x0 x1 x2 x3) (e : numT x0 x1 x2 x3 = z % 86400000000000) (w : World) (L : Sizes w) : Calls Tryd.prog 31 #[.agg #[.int .i64 (hiW z), .int .u64 (loW z)]] w (RetTNE w x0 x1 x2 x3 (z / 86400000000000) 0) :=
  behindK_yes _ _ _ _ _ _ _ _ _ _ (Lib.hid fun W _ => by_day z hz W) (Lib.hid fun W _ => int_yes _ h W) (Lib.hid fun W l => ofK_yes _ x0 x1 x2 x3 hx e W l) w L
set_option maxRecDepth 100000 in
set_option maxHeartbeats 8000000 in
theorem addK_bad (h m s n a : Int) (NA : Hid (∀ W, Sizes W → Calls Tryd.prog 9 #[.agg #[.int .i64 (h), .int .i64 (m), .int .i64 (s), .int .i64 (n)]] W (fun o w' => o = .returned (.tuple #[.int .i64 (0), .bool false]) ∧ Below W.heap.size W w'))) (w : World) (L : Sizes w) :
    Calls Tryd.prog 18 #[.agg #[.int .i64 (h), .int .i64 (m), .int .i64 (s), .int .i64 (n)], .agg #[.int .i64 (hiW a), .int .u64 (loW a)]] w (RetTNE w 0 0 0 0 0 1) := by
  go_enter Tryd.func18, Tryd.ntmps18
  go_upto_region 1 with (fail)
  have KB := ((((BK.nil w).more4 (.int .i64 (h)) (.int .i64 (m)) (.int .i64 (s)) (.int .i64 (n)) 23).more2 (.int .i64 (hiW a)) (.int .u64 (loW a)) 42).more4 (.int .i64 (0)) (.int .i64 (0)) (.int .i64 (0)) (.int .i64 (0)) 23)
  simp only [World.size_alloc] at KB
  generalize (((w.alloc (.cells #[.int .i64 (h), .int .i64 (m), .int .i64 (s), .int .i64 (n)] 23)).alloc (.cells #[.int .i64 (hiW a), .int .u64 (loW a)] 42)).alloc (.cells #[.int .i64 (0), .int .i64 (0), .int .i64 (0), .int .i64 (0)] 23)) = w0 at *
  obtain ⟨_, q0a, q0b, q0c, q0d, _⟩ := (KB.tail.tail.head).four
  go_wp2_with fail
  clear q0a q0b q0c q0d
  refine (NA.out _ (L.mono KB.hb)).mono ?_
  rintro e w1 ⟨rfl, k⟩
  replace KB := KB.below k
  clear k
  obtain ⟨_, r0, r1, r2, r3, rf0, rf1, rf2, rf3⟩ := (KB.head).four
  go_wp2
  obtain ⟨_, P0, P1, P2, P3, _⟩ := ((KB.head).self4 (.int .i64 (0)) (.int .i64 (0)) (.int .i64 (0)) (.int .i64 (0))).four
  have HB := ((((KB.hb.setCell (p := ⟨w.heap.size + 1 + 1, 0, none⟩) (by show _ ≤ w.heap.size + 1 + 1; omega) (.int .i64 (0))).setCell (p := ⟨w.heap.size + 1 + 1, 1, none⟩) (by show _ ≤ w.heap.size + 1 + 1; omega) (.int .i64 (0))).setCell (p := ⟨w.heap.size + 1 + 1, 2, none⟩) (by show _ ≤ w.heap.size + 1 + 1; omega) (.int .i64 (0))).setCell (p := ⟨w.heap.size + 1 + 1, 3, none⟩) (by show _ ≤ w.heap.size + 1 + 1; omega) (.int .i64 (0)))
  exact bodyPost_ret (v := .tuple #[.agg #[.int .i64 (0), .int .i64 (0), .int .i64 (0), .int .i64 (0)], .int .i64 (0), .int .i64 (1)]) (by simp [results, Tryd.results18, go_sem, P0, P1, P2, P3]) rfl ⟨rfl, HB⟩
set_option maxRecDepth 100000 in
set_option maxHeartbeats 8000000 in
theorem addK_wide (h m s n a N o0 o1 : Int) (NA : Hid (∀ W, Sizes W → Calls Tryd.prog 9 #[.agg #[.int .i64 (h), .int .i64 (m), .int .i64 (s), .int .i64 (n)]] W (fun o w' => o = .returned (.tuple #[.int .i64 (N), .bool true]) ∧ Below W.heap.size W w'))) (OF : Hid (∀ W, Sizes W → Calls Tryd.prog 24 #[.int .i64 (N)] W (fun o w' => o = .returned (.agg #[.int .i64 (o0), .int .u64 (o1)]) ∧ Below W.heap.size W w'))) (AD : Hid (∀ W, Sizes W → Calls Tryd.prog 30 #[.agg #[.int .i64 (hiW a), .int .u64 (loW a)], .agg #[.int .i64 (o0), .int .u64 (o1)]] W (fun o w' => o = .returned (.tuple #[.agg #[.int .i64 0, .int .u64 0], .int .i64 (2)]) ∧ Below W.heap.size W w'))) (w : World) (L : Sizes w) :
    Calls Tryd.prog 18 #[.agg #[.int .i64 (h), .int .i64 (m), .int .i64 (s), .int .i64 (n)], .agg #[.int .i64 (hiW a), .int .u64 (loW a)]] w (RetTNE w 0 0 0 0 0 2) := by
  go_enter Tryd.func18, Tryd.ntmps18
  go_upto_region 1 with (fail)
  have KB := ((((BK.nil w).more4 (.int .i64 (h)) (.int .i64 (m)) (.int .i64 (s)) (.int .i64 (n)) 23).more2 (.int .i64 (hiW a)) (.int .u64 (loW a)) 42).more4 (.int .i64 (0)) (.int .i64 (0)) (.int .i64 (0)) (.int .i64 (0)) 23)
  simp only [World.size_alloc] at KB
  generalize (((w.alloc (.cells #[.int .i64 (h), .int .i64 (m), .int .i64 (s), .int .i64 (n)] 23)).alloc (.cells #[.int .i64 (hiW a), .int .u64 (loW a)] 42)).alloc (.cells #[.int .i64 (0), .int .i64 (0), .int .i64 (0), .int .i64 (0)] 23)) = w0 at *
  obtain ⟨_, q0a, q0b, q0c, q0d, _⟩ := (KB.tail.tail.head).four
  go_wp2_with fail
  clear q0a q0b q0c q0d
  refine (NA.out _ (L.mono KB.hb)).mono ?_
  rintro e w1 ⟨rfl, k⟩
  replace KB := KB.below k
  clear k
  go_wp2_with fail
  obtain ⟨lo, st, hlo⟩ := KB.preB (KB.tail.tail.head).lt [.int .i64 0, .int .u64 0]
  have la0 : w.heap.size + 1 + 1 ≤ lo := hlo (w.heap.size + 1 + 1, [.int .i64 (0), .int .i64 (0), .int .i64 (0), .int .i64 (0)]) (by simp)
  have la1 : w.heap.size + 1 ≤ lo := hlo (w.heap.size + 1, [.int .i64 (hiW a), .int .u64 (loW a)]) (by simp)
  have la2 : w.heap.size ≤ lo := hlo (w.heap.size, [.int .i64 (h), .int .i64 (m), .int .i64 (s), .int .i64 (n)]) (by simp)
  clear hlo
  go_cut [9, 10] (fun v9 v10 wx => CutOneB lo (BK w [(w.heap.size + 1 + 1, [.int .i64 (0), .int .i64 (0), .int .i64 (0), .int .i64 (0)]), (w.heap.size + 1, [.int .i64 (hiW a), .int .u64 (loW a)]), (w.heap.size, [.int .i64 (h), .int .i64 (m), .int .i64 (s), .int .i64 (n)])]) [.int .i64 0, .int .u64 0] v9 wx ∧ v10 = .int .i64 (2))
  case first =>
    obtain ⟨_, j0a, j0b, _⟩ := (KB.tail.head).two
    clear KB
    have ⟨gp0, gq0⟩ := behindB st.lt la1
    have ⟨gp1, gq1⟩ := behindB st.lt la2
    go_region_held3 (fun w' => w'.cell? ⟨w.heap.size + 1, 0, none⟩ = some (.int .i64 (hiW a)) ∧ w'.cell? ⟨w.heap.size + 1, 1, none⟩ = some (.int .u64 (loW a))) (first | (with_reducible exact ⟨(st.k.tail.head).two.2.1, (st.k.tail.head).two.2.2.1⟩) | (with_reducible exact ⟨((st.a2 _).k.tail.head).two.2.1, ((st.a2 _).k.tail.head).two.2.2.1⟩) | (with_reducible exact ⟨(st.drew.k.tail.head).two.2.1, (st.drew.k.tail.head).two.2.2.1⟩) | (with_reducible exact ⟨((st.a2 _).drew.k.tail.head).two.2.1, ((st.a2 _).drew.k.tail.head).two.2.2.1⟩) | go_keep)
      (first
        | (go_at_call 24; (with_reducible refine (OF.out _ (by with_reducible first | exact L.mono st.k.hb | exact L.mono (st.a2 _).k.hb | exact L.mono st.drew.k.hb | exact L.mono (st.a2 _).drew.k.hb)).mono ?_); rintro e x ⟨rfl, k⟩
           with_reducible (first | replace st := st.below k | replace st := (st.a2 _).below k | replace st := st.drew.below k | replace st := (st.a2 _).drew.below k)
           clear k
           obtain ⟨_, k0a, k0b, _⟩ := (st.k.tail.head).two
           obtain ⟨gp0, gq0⟩ := behindB st.lt la1
           try obtain ⟨gr0, gs0⟩ := behindB (st.ge _ (List.mem_cons_self ..)) la1
           obtain ⟨gp1, gq1⟩ := behindB st.lt la2
           try obtain ⟨gr1, gs1⟩ := behindB (st.ge _ (List.mem_cons_self ..)) la2
           try obtain ⟨_, ya, yb, _⟩ := ((st.al _ (List.mem_cons_self ..))).two)
        | (go_at_call 30; (with_reducible refine (AD.out _ (by with_reducible first | exact L.mono st.k.hb | exact L.mono (st.a2 _).k.hb | exact L.mono st.drew.k.hb | exact L.mono (st.a2 _).drew.k.hb)).mono ?_); rintro e x ⟨rfl, k⟩
           with_reducible (first | replace st := st.below k | replace st := (st.a2 _).below k | replace st := st.drew.below k | replace st := (st.a2 _).drew.below k)
           clear k
           obtain ⟨_, k0a, k0b, _⟩ := (st.k.tail.head).two
           obtain ⟨gp0, gq0⟩ := behindB st.lt la1
           try obtain ⟨gr0, gs0⟩ := behindB (st.ge _ (List.mem_cons_self ..)) la1
           obtain ⟨gp1, gq1⟩ := behindB st.lt la2
           try obtain ⟨gr1, gs1⟩ := behindB (st.ge _ (List.mem_cons_self ..)) la2
           try obtain ⟨_, ya, yb, _⟩ := ((st.al _ (List.mem_cons_self ..))).two))
    all_goals
      go_wp2_with fail
      go_meet
      refine ⟨⟨_, rfl, ?_⟩, rfl⟩
      with_reducible first | exact st.p2 _ _  | exact st.q2 _ _ _
  case rest =>
  obtain ⟨⟨g, rfl, s0⟩, rfl⟩ := hcut
  clear st
  have KB := s0.k.cons s0.bg
  have ggg := s0.gg
  have ig0 : g ≠ w.heap.size + 1 + 1 := by omega
  have og0 := Ne.symm ig0
  have ig1 : g ≠ w.heap.size + 1 := by omega
  have og1 := Ne.symm ig1
  have ig2 : g ≠ w.heap.size := by omega
  have og2 := Ne.symm ig2
  clear s0 la0 la1 la2 ggg
  clear lo
  obtain ⟨_, r0, r1, r2, r3, rf0, rf1, rf2, rf3⟩ := (KB.tail.head).four
  go_wp2
  obtain ⟨_, P0, P1, P2, P3, _⟩ := ((KB.tail.head).self4 (.int .i64 (0)) (.int .i64 (0)) (.int .i64 (0)) (.int .i64 (0))).four
  have HB := ((((KB.hb.setCell (p := ⟨w.heap.size + 1 + 1, 0, none⟩) (by show _ ≤ w.heap.size + 1 + 1; omega) (.int .i64 (0))).setCell (p := ⟨w.heap.size + 1 + 1, 1, none⟩) (by show _ ≤ w.heap.size + 1 + 1; omega) (.int .i64 (0))).setCell (p := ⟨w.heap.size + 1 + 1, 2, none⟩) (by show _ ≤ w.heap.size + 1 + 1; omega) (.int .i64 (0))).setCell (p := ⟨w.heap.size + 1 + 1, 3, none⟩) (by show _ ≤ w.heap.size + 1 + 1; omega) (.int .i64 (0)))
  exact bodyPost_ret (v := .tuple #[.agg #[.int .i64 (0), .int .i64 (0), .int .i64 (0), .int .i64 (0)], .int .i64 (0), .int .i64 (2)]) (by simp [results, Tryd.results18, go_sem, P0, P1, P2, P3]) rfl ⟨rfl, HB⟩
set_option maxRecDepth 100000 in
set_option maxHeartbeats 8000000 in
theorem addK_core (h m s n a N o0 o1 s0 s1 x0 x1 x2 x3 k e : Int) (NA : Hid (∀ W, Sizes W → Calls Tryd.prog 9 #[.agg #[.int .i64 (h), .int .i64 (m), .int .i64 (s), .int .i64 (n)]] W (fun o w' => o = .returned (.tuple #[.int .i64 (N), .bool true]) ∧ Below W.heap.size W w'))) (OF : Hid (∀ W, Sizes W → Calls Tryd.prog 24 #[.int .i64 (N)] W (fun o w' => o = .returned (.agg #[.int .i64 (o0), .int .u64 (o1)]) ∧ Below W.heap.size W w'))) (AD : Hid (∀ W, Sizes W → Calls Tryd.prog 30 #[.agg #[.int .i64 (hiW a), .int .u64 (loW a)], .agg #[.int .i64 (o0), .int .u64 (o1)]] W (fun o w' => o = .returned (.tuple #[.agg #[.int .i64 (s0), .int .u64 (s1)], .int .i64 (0)]) ∧ Below W.heap.size W w'))) (BE : Hid (∀ W, Sizes W → Calls Tryd.prog 31 #[.agg #[.int .i64 (s0), .int .u64 (s1)]] W (fun o w' => o = .returned (.tuple #[.agg #[.int .i64 (x0), .int .i64 (x1), .int .i64 (x2), .int .i64 (x3)], .int .i64 (k), .int .i64 (e)]) ∧ Below W.heap.size W w'))) (w : World) (L : Sizes w) :
    Calls Tryd.prog 18 #[.agg #[.int .i64 (h), .int .i64 (m), .int .i64 (s), .int .i64 (n)], .agg #[.int .i64 (hiW a), .int .u64 (loW a)]] w (RetTNE w x0 x1 x2 x3 k e) := by
  go_enter Tryd.func18, Tryd.ntmps18
  go_upto_region 1 with (fail)
  have KB := ((((BK.nil w).more4 (.int .i64 (h)) (.int .i64 (m)) (.int .i64 (s)) (.int .i64 (n)) 23).more2 (.int .i64 (hiW a)) (.int .u64 (loW a)) 42).more4 (.int .i64 (0)) (.int .i64 (0)) (.int .i64 (0)) (.int .i64 (0)) 23)
  simp only [World.size_alloc] at KB
  generalize (((w.alloc (.cells #[.int .i64 (h), .int .i64 (m), .int .i64 (s), .int .i64 (n)] 23)).alloc (.cells #[.int .i64 (hiW a), .int .u64 (loW a)] 42)).alloc (.cells #[.int .i64 (0), .int .i64 (0), .int .i64 (0), .int .i64 (0)] 23)) = w0 at *
  obtain ⟨_, q0a, q0b, q0c, q0d, _⟩ := (KB.tail.tail.head).four
  go_wp2_with fail
  clear q0a q0b q0c q0d
  refine (NA.out _ (L.mono KB.hb)).mono ?_
  rintro e w1 ⟨rfl, k⟩
  replace KB := KB.below k
  clear k
  go_wp2_with fail
  obtain ⟨lo, st, hlo⟩ := KB.preB (KB.tail.tail.head).lt [.int .i64 0, .int .u64 0]
  have la0 : w.heap.size + 1 + 1 ≤ lo := hlo (w.heap.size + 1 + 1, [.int .i64 (0), .int .i64 (0), .int .i64 (0), .int .i64 (0)]) (by simp)
  have la1 : w.heap.size + 1 ≤ lo := hlo (w.heap.size + 1, [.int .i64 (hiW a), .int .u64 (loW a)]) (by simp)
  have la2 : w.heap.size ≤ lo := hlo (w.heap.size, [.int .i64 (h), .int .i64 (m), .int .i64 (s), .int .i64 (n)]) (by simp)
  clear hlo
  go_cut [9, 10] (fun v9 v10 wx => CutOneB lo (BK w [(w.heap.size + 1 + 1, [.int .i64 (0), .int .i64 (0), .int .i64 (0), .int .i64 (0)]), (w.heap.size + 1, [.int .i64 (hiW a), .int .u64 (loW a)]), (w.heap.size, [.int .i64 (h), .int .i64 (m), .int .i64 (s), .int .i64 (n)])]) [.int .i64 (s0), .int .u64 (s1)] v9 wx ∧ v10 = .int .i64 (0))
  case first =>
    obtain ⟨_, j0a, j0b, _⟩ := (KB.tail.head).two
    clear KB
    have ⟨gp0, gq0⟩ := behindB st.lt la1
    have ⟨gp1, gq1⟩ := behindB st.lt la2
    go_region_held3 (fun w' => w'.cell? ⟨w.heap.size + 1, 0, none⟩ = some (.int .i64 (hiW a)) ∧ w'.cell? ⟨w.heap.size + 1, 1, none⟩ = some (.int .u64 (loW a))) (first | (with_reducible exact ⟨(st.k.tail.head).two.2.1, (st.k.tail.head).two.2.2.1⟩) | (with_reducible exact ⟨((st.a2 _).k.tail.head).two.2.1, ((st.a2 _).k.tail.head).two.2.2.1⟩) | (with_reducible exact ⟨(st.drew.k.tail.head).two.2.1, (st.drew.k.tail.head).two.2.2.1⟩) | (with_reducible exact ⟨((st.a2 _).drew.k.tail.head).two.2.1, ((st.a2 _).drew.k.tail.head).two.2.2.1⟩) | go_keep)
      (first
        | (go_at_call 24; (with_reducible refine (OF.out _ (by with_reducible first | exact L.mono st.k.hb | exact L.mono (st.a2 _).k.hb | exact L.mono st.drew.k.hb | exact L.mono (st.a2 _).drew.k.hb)).mono ?_); rintro e x ⟨rfl, k⟩
           with_reducible (first | replace st := st.below k | replace st := (st.a2 _).below k | replace st := st.drew.below k | replace st := (st.a2 _).drew.below k)
           clear k
           obtain ⟨_, k0a, k0b, _⟩ := (st.k.tail.head).two
           obtain ⟨gp0, gq0⟩ := behindB st.lt la1
           try obtain ⟨gr0, gs0⟩ := behindB (st.ge _ (List.mem_cons_self ..)) la1
           obtain ⟨gp1, gq1⟩ := behindB st.lt la2
           try obtain ⟨gr1, gs1⟩ := behindB (st.ge _ (List.mem_cons_self ..)) la2
           try obtain ⟨_, ya, yb, _⟩ := ((st.al _ (List.mem_cons_self ..))).two)
        | (go_at_call 30; (with_reducible refine (AD.out _ (by with_reducible first | exact L.mono st.k.hb | exact L.mono (st.a2 _).k.hb | exact L.mono st.drew.k.hb | exact L.mono (st.a2 _).drew.k.hb)).mono ?_); rintro e x ⟨rfl, k⟩
           with_reducible (first | replace st := st.below k | replace st := (st.a2 _).below k | replace st := st.drew.below k | replace st := (st.a2 _).drew.below k)
           clear k
           obtain ⟨_, k0a, k0b, _⟩ := (st.k.tail.head).two
           obtain ⟨gp0, gq0⟩ := behindB st.lt la1
           try obtain ⟨gr0, gs0⟩ := behindB (st.ge _ (List.mem_cons_self ..)) la1
           obtain ⟨gp1, gq1⟩ := behindB st.lt la2
           try obtain ⟨gr1, gs1⟩ := behindB (st.ge _ (List.mem_cons_self ..)) la2
           try obtain ⟨_, ya, yb, _⟩ := ((st.al _ (List.mem_cons_self ..))).two))
    all_goals
      go_wp2_with fail
      go_meet
      refine ⟨⟨_, rfl, ?_⟩, rfl⟩
      with_reducible first | exact st.p2 _ _  | exact st.q2 _ _ _
  case rest =>
  obtain ⟨⟨g, rfl, s0⟩, rfl⟩ := hcut
  clear st
  have KB := s0.k.cons s0.bg
  have ggg := s0.gg
  have ig0 : g ≠ w.heap.size + 1 + 1 := by omega
  have og0 := Ne.symm ig0
  have ig1 : g ≠ w.heap.size + 1 := by omega
  have og1 := Ne.symm ig1
  have ig2 : g ≠ w.heap.size := by omega
  have og2 := Ne.symm ig2
  clear s0 la0 la1 la2 ggg
  clear lo
  obtain ⟨_, q0a, q0b, _⟩ := (KB.head).two
  go_wp2_with fail
  clear q0a q0b
  refine (BE.out _ (L.mono KB.hb)).mono ?_
  rintro e w2 ⟨rfl, k⟩
  replace KB := KB.below k
  clear k
  obtain ⟨_, r0, r1, r2, r3, rf0, rf1, rf2, rf3⟩ := (KB.tail.head).four
  go_wp2
  obtain ⟨_, P0, P1, P2, P3, _⟩ := ((KB.tail.head).self4 (.int .i64 (x0)) (.int .i64 (x1)) (.int .i64 (x2)) (.int .i64 (x3))).four
  have HB := ((((KB.hb.setCell (p := ⟨w.heap.size + 1 + 1, 0, none⟩) (by show _ ≤ w.heap.size + 1 + 1; omega) (.int .i64 (x0))).setCell (p := ⟨w.heap.size + 1 + 1, 1, none⟩) (by show _ ≤ w.heap.size + 1 + 1; omega) (.int .i64 (x1))).setCell (p := ⟨w.heap.size + 1 + 1, 2, none⟩) (by show _ ≤ w.heap.size + 1 + 1; omega) (.int .i64 (x2))).setCell (p := ⟨w.heap.size + 1 + 1, 3, none⟩) (by show _ ≤ w.heap.size + 1 + 1; omega) (.int .i64 (x3)))
  exact bodyPost_ret (v := .tuple #[.agg #[.int .i64 (x0), .int .i64 (x1), .int .i64 (x2), .int .i64 (x3)], .int .i64 (k), .int .i64 (e)]) (by simp [results, Tryd.results18, go_sem, P0, P1, P2, P3]) rfl ⟨rfl, HB⟩
set_option maxRecDepth 100000 in
set_option maxHeartbeats 8000000 in
theorem roundK_t (h m s n ic mo : Int) (NA : Hid (∀ W, Sizes W → Calls Tryd.prog 9 #[.agg #[.int .i64 (h), .int .i64 (m), .int .i64 (s), .int .i64 (n)]] W (fun o w' => o = .returned (.tuple #[.int .i64 (0), .bool false]) ∧ Below W.heap.size W w'))) (w : World) (L : Sizes w) :
    Calls Tryd.prog 20 #[.agg #[.int .i64 (h), .int .i64 (m), .int .i64 (s), .int .i64 (n)], .int .i64 ic, .int .i64 mo] w (RetTNE w 0 0 0 0 0 1) := by
  go_enter Tryd.func20, Tryd.ntmps20
  go_upto_region 1 with (fail)
  have KB := (((BK.nil w).more4 (.int .i64 (h)) (.int .i64 (m)) (.int .i64 (s)) (.int .i64 (n)) 23).more4 (.int .i64 (0)) (.int .i64 (0)) (.int .i64 (0)) (.int .i64 (0)) 23)
  simp only [World.size_alloc] at KB
  generalize ((w.alloc (.cells #[.int .i64 (h), .int .i64 (m), .int .i64 (s), .int .i64 (n)] 23)).alloc (.cells #[.int .i64 (0), .int .i64 (0), .int .i64 (0), .int .i64 (0)] 23)) = w0 at *
  obtain ⟨_, q0a, q0b, q0c, q0d, _⟩ := (KB.tail.head).four
  go_wp2_with fail
  clear q0a q0b q0c q0d
  refine (NA.out _ (L.mono KB.hb)).mono ?_
  rintro e w1 ⟨rfl, k⟩
  replace KB := KB.below k
  clear k
  obtain ⟨_, r0, r1, r2, r3, rf0, rf1, rf2, rf3⟩ := (KB.head).four
  go_wp2
  obtain ⟨_, P0, P1, P2, P3, _⟩ := ((KB.head).self4 (.int .i64 (0)) (.int .i64 (0)) (.int .i64 (0)) (.int .i64 (0))).four
  have HB := ((((KB.hb.setCell (p := ⟨w.heap.size + 1, 0, none⟩) (by show _ ≤ w.heap.size + 1; omega) (.int .i64 (0))).setCell (p := ⟨w.heap.size + 1, 1, none⟩) (by show _ ≤ w.heap.size + 1; omega) (.int .i64 (0))).setCell (p := ⟨w.heap.size + 1, 2, none⟩) (by show _ ≤ w.heap.size + 1; omega) (.int .i64 (0))).setCell (p := ⟨w.heap.size + 1, 3, none⟩) (by show _ ≤ w.heap.size + 1; omega) (.int .i64 (0)))
  exact bodyPost_ret (v := .tuple #[.agg #[.int .i64 (0), .int .i64 (0), .int .i64 (0), .int .i64 (0)], .int .i64 (0), .int .i64 (1)]) (by simp [results, Tryd.results20, go_sem, P0, P1, P2, P3]) rfl ⟨rfl, HB⟩
set_option maxRecDepth 100000 in
set_option maxHeartbeats 8000000 in
theorem roundK_lt (h m s n ic mo N : Int) (h1 : ic < 1) (NA : Hid (∀ W, Sizes W → Calls Tryd.prog 9 #[.agg #[.int .i64 (h), .int .i64 (m), .int .i64 (s), .int .i64 (n)]] W (fun o w' => o = .returned (.tuple #[.int .i64 (N), .bool true]) ∧ Below W.heap.size W w'))) (w : World) (L : Sizes w) :
    Calls Tryd.prog 20 #[.agg #[.int .i64 (h), .int .i64 (m), .int .i64 (s), .int .i64 (n)], .int .i64 ic, .int .i64 mo] w (RetTNE w 0 0 0 0 0 1) := by
  go_enter Tryd.func20, Tryd.ntmps20
  go_upto_region 1 with (fail)
  have KB := (((BK.nil w).more4 (.int .i64 (h)) (.int .i64 (m)) (.int .i64 (s)) (.int .i64 (n)) 23).more4 (.int .i64 (0)) (.int .i64 (0)) (.int .i64 (0)) (.int .i64 (0)) 23)
  simp only [World.size_alloc] at KB
  generalize ((w.alloc (.cells #[.int .i64 (h), .int .i64 (m), .int .i64 (s), .int .i64 (n)] 23)).alloc (.cells #[.int .i64 (0), .int .i64 (0), .int .i64 (0), .int .i64 (0)] 23)) = w0 at *
  obtain ⟨_, q0a, q0b, q0c, q0d, _⟩ := (KB.tail.head).four
  go_wp2_with fail
  clear q0a q0b q0c q0d
  refine (NA.out _ (L.mono KB.hb)).mono ?_
  rintro e w1 ⟨rfl, k⟩
  replace KB := KB.below k
  clear k
  have d1 : decide (ic < 1) = true := decide_eq_true h1
  obtain ⟨_, r0, r1, r2, r3, rf0, rf1, rf2, rf3⟩ := (KB.head).four
  go_wp2
  obtain ⟨_, P0, P1, P2, P3, _⟩ := ((KB.head).self4 (.int .i64 (0)) (.int .i64 (0)) (.int .i64 (0)) (.int .i64 (0))).four
  have HB := ((((KB.hb.setCell (p := ⟨w.heap.size + 1, 0, none⟩) (by show _ ≤ w.heap.size + 1; omega) (.int .i64 (0))).setCell (p := ⟨w.heap.size + 1, 1, none⟩) (by show _ ≤ w.heap.size + 1; omega) (.int .i64 (0))).setCell (p := ⟨w.heap.size + 1, 2, none⟩) (by show _ ≤ w.heap.size + 1; omega) (.int .i64 (0))).setCell (p := ⟨w.heap.size + 1, 3, none⟩) (by show _ ≤ w.heap.size + 1; omega) (.int .i64 (0)))
  exact bodyPost_ret (v := .tuple #[.agg #[.int .i64 (0), .int .i64 (0), .int .i64 (0), .int .i64 (0)], .int .i64 (0), .int .i64 (1)]) (by simp [results, Tryd.results20, go_sem, P0, P1, P2, P3]) rfl ⟨rfl, HB⟩
set_option maxRecDepth 100000 in
set_option maxHeartbeats 8000000 in
theorem roundK_rem (h m s n ic mo N : Int) (h1 : 1 ≤ ic) (_h2 : ic ≤ 9223372036854775807) (h3 : (86400000000000 : Int) % ic ≠ 0) (NA : Hid (∀ W, Sizes W → Calls Tryd.prog 9 #[.agg #[.int .i64 (h), .int .i64 (m), .int .i64 (s), .int .i64 (n)]] W (fun o w' => o = .returned (.tuple #[.int .i64 (N), .bool true]) ∧ Below W.heap.size W w'))) (w : World) (L : Sizes w) :
    Calls Tryd.prog 20 #[.agg #[.int .i64 (h), .int .i64 (m), .int .i64 (s), .int .i64 (n)], .int .i64 ic, .int .i64 mo] w (RetTNE w 0 0 0 0 0 1) := by
  go_enter Tryd.func20, Tryd.ntmps20
  go_upto_region 1 with (fail)
  have KB := (((BK.nil w).more4 (.int .i64 (h)) (.int .i64 (m)) (.int .i64 (s)) (.int .i64 (n)) 23).more4 (.int .i64 (0)) (.int .i64 (0)) (.int .i64 (0)) (.int .i64 (0)) 23)
  simp only [World.size_alloc] at KB
  generalize ((w.alloc (.cells #[.int .i64 (h), .int .i64 (m), .int .i64 (s), .int .i64 (n)] 23)).alloc (.cells #[.int .i64 (0), .int .i64 (0), .int .i64 (0), .int .i64 (0)] 23)) = w0 at *
  obtain ⟨_, q0a, q0b, q0c, q0d, _⟩ := (KB.tail.head).four
  go_wp2_with fail
  clear q0a q0b q0c q0d
  refine (NA.out _ (L.mono KB.hb)).mono ?_
  rintro e w1 ⟨rfl, k⟩
  replace KB := KB.below k
  clear k
  have d1 : decide (ic < 1) = false := decide_eq_false (by omega)
  have d0 : ¬ ic = 0 := by omega
  have d3 : (ic == 0) = false := by rw [beq_eq_false_iff_ne]; exact d0
  have d2 : ((86400000000000 : Int) % ic != 0) = true := bne_iff_ne.2 h3
  obtain ⟨_, r0, r1, r2, r3, rf0, rf1, rf2, rf3⟩ := (KB.head).four
  go_wp2
  obtain ⟨_, P0, P1, P2, P3, _⟩ := ((KB.head).self4 (.int .i64 (0)) (.int .i64 (0)) (.int .i64 (0)) (.int .i64 (0))).four
  have HB := ((((KB.hb.setCell (p := ⟨w.heap.size + 1, 0, none⟩) (by show _ ≤ w.heap.size + 1; omega) (.int .i64 (0))).setCell (p := ⟨w.heap.size + 1, 1, none⟩) (by show _ ≤ w.heap.size + 1; omega) (.int .i64 (0))).setCell (p := ⟨w.heap.size + 1, 2, none⟩) (by show _ ≤ w.heap.size + 1; omega) (.int .i64 (0))).setCell (p := ⟨w.heap.size + 1, 3, none⟩) (by show _ ≤ w.heap.size + 1; omega) (.int .i64 (0)))
  exact bodyPost_ret (v := .tuple #[.agg #[.int .i64 (0), .int .i64 (0), .int .i64 (0), .int .i64 (0)], .int .i64 (0), .int .i64 (1)]) (by simp [results, Tryd.results20, go_sem, P0, P1, P2, P3]) rfl ⟨rfl, HB⟩
set_option maxRecDepth 100000 in
set_option maxHeartbeats 8000000 in
theorem roundK_mode (h m s n ic mo N o0 o1 p0 p1 : Int) (h1 : 1 ≤ ic) (_h2 : ic ≤ 9223372036854775807) (h3 : (86400000000000 : Int) % ic = 0) (NA : Hid (∀ W, Sizes W → Calls Tryd.prog 9 #[.agg #[.int .i64 (h), .int .i64 (m), .int .i64 (s), .int .i64 (n)]] W (fun o w' => o = .returned (.tuple #[.int .i64 (N), .bool true]) ∧ Below W.heap.size W w'))) (O1 : Hid (∀ W, Sizes W → Calls Tryd.prog 24 #[.int .i64 (N)] W (fun o w' => o = .returned (.agg #[.int .i64 (o0), .int .u64 (o1)]) ∧ Below W.heap.size W w'))) (O2 : Hid (∀ W, Sizes W → Calls Tryd.prog 24 #[.int .i64 (ic)] W (fun o w' => o = .returned (.agg #[.int .i64 (p0), .int .u64 (p1)]) ∧ Below W.heap.size W w'))) (TO : Hid (∀ W, Sizes W → Calls Tryd.prog 38 #[.agg #[.int .i64 (o0), .int .u64 (o1)], .agg #[.int .i64 (p0), .int .u64 (p1)], .int .i64 mo] W (fun o w' => o = .returned (.tuple #[.agg #[.int .i64 0, .int .u64 0], .int .i64 (1)]) ∧ Below W.heap.size W w'))) (w : World) (L : Sizes w) :
    Calls Tryd.prog 20 #[.agg #[.int .i64 (h), .int .i64 (m), .int .i64 (s), .int .i64 (n)], .int .i64 ic, .int .i64 mo] w (RetTNE w 0 0 0 0 0 1) := by
  go_enter Tryd.func20, Tryd.ntmps20
  go_upto_region 1 with (fail)
  have KB := (((BK.nil w).more4 (.int .i64 (h)) (.int .i64 (m)) (.int .i64 (s)) (.int .i64 (n)) 23).more4 (.int .i64 (0)) (.int .i64 (0)) (.int .i64 (0)) (.int .i64 (0)) 23)
  simp only [World.size_alloc] at KB
  generalize ((w.alloc (.cells #[.int .i64 (h), .int .i64 (m), .int .i64 (s), .int .i64 (n)] 23)).alloc (.cells #[.int .i64 (0), .int .i64 (0), .int .i64 (0), .int .i64 (0)] 23)) = w0 at *
  obtain ⟨_, q0a, q0b, q0c, q0d, _⟩ := (KB.tail.head).four
  go_wp2_with fail
  clear q0a q0b q0c q0d
  refine (NA.out _ (L.mono KB.hb)).mono ?_
  rintro e w1 ⟨rfl, k⟩
  replace KB := KB.below k
  clear k
  have d1 : decide (ic < 1) = false := decide_eq_false (by omega)
  have d0 : ¬ ic = 0 := by omega
  have d3 : (ic == 0) = false := by rw [beq_eq_false_iff_ne]; exact d0
  have d2 : ((86400000000000 : Int) % ic != 0) = false := by rw [bne_eq_false_iff_eq]; exact h3
  go_wp2_with fail
  refine (O1.out _ (L.mono KB.hb)).mono ?_
  rintro e w2 ⟨rfl, k⟩
  replace KB := KB.below k
  clear k
  go_wp2_with fail
  refine (O2.out _ (L.mono KB.hb)).mono ?_
  rintro e w3 ⟨rfl, k⟩
  replace KB := KB.below k
  clear k
  go_wp2_with fail
  refine (TO.out _ (L.mono KB.hb)).mono ?_
  rintro e w4 ⟨rfl, k⟩
  replace KB := KB.below k
  clear k
  clear d0 d1 d2 d3 h3
  go_upto_region 5 with (fail)
  have ig0 : w4.heap.size ≠ w.heap.size + 1 := Nat.ne_of_gt (KB.head).lt
  have og0 := Ne.symm ig0
  have ig1 : w4.heap.size ≠ w.heap.size := Nat.ne_of_gt (KB.tail.head).lt
  have og1 := Ne.symm ig1
  have ggg : w.heap.size ≤ w4.heap.size := KB.hb.size
  replace KB := KB.more2 (.int .i64 0) (.int .u64 0) 42
  generalize w4.alloc (.cells #[.int .i64 0, .int .u64 0] 42) = w5 at *
  generalize w4.heap.size = g at *
  obtain ⟨_, r0, r1, r2, r3, rf0, rf1, rf2, rf3⟩ := (KB.tail.head).four
  go_wp2
  obtain ⟨_, P0, P1, P2, P3, _⟩ := ((KB.tail.head).self4 (.int .i64 (0)) (.int .i64 (0)) (.int .i64 (0)) (.int .i64 (0))).four
  have HB := ((((KB.hb.setCell (p := ⟨w.heap.size + 1, 0, none⟩) (by show _ ≤ w.heap.size + 1; omega) (.int .i64 (0))).setCell (p := ⟨w.heap.size + 1, 1, none⟩) (by show _ ≤ w.heap.size + 1; omega) (.int .i64 (0))).setCell (p := ⟨w.heap.size + 1, 2, none⟩) (by show _ ≤ w.heap.size + 1; omega) (.int .i64 (0))).setCell (p := ⟨w.heap.size + 1, 3, none⟩) (by show _ ≤ w.heap.size + 1; omega) (.int .i64 (0)))
  exact bodyPost_ret (v := .tuple #[.agg #[.int .i64 (0), .int .i64 (0), .int .i64 (0), .int .i64 (0)], .int .i64 (0), .int .i64 (1)]) (by simp [results, Tryd.results20, go_sem, P0, P1, P2, P3]) rfl ⟨rfl, HB⟩
set_option maxRecDepth 100000 in
set_option maxHeartbeats 8000000 in
theorem roundK_core (h m s n ic mo N o0 o1 p0 p1 s0 s1 x0 x1 x2 x3 k e : Int) (h1 : 1 ≤ ic) (_h2 : ic ≤ 9223372036854775807) (h3 : (86400000000000 : Int) % ic = 0) (NA : Hid (∀ W, Sizes W → Calls Tryd.prog 9 #[.agg #[.int .i64 (h), .int .i64 (m), .int .i64 (s), .int .i64 (n)]] W (fun o w' => o = .returned (.tuple #[.int .i64 (N), .bool true]) ∧ Below W.heap.size W w'))) (O1 : Hid (∀ W, Sizes W → Calls Tryd.prog 24 #[.int .i64 (N)] W (fun o w' => o = .returned (.agg #[.int .i64 (o0), .int .u64 (o1)]) ∧ Below W.heap.size W w'))) (O2 : Hid (∀ W, Sizes W → Calls Tryd.prog 24 #[.int .i64 (ic)] W (fun o w' => o = .returned (.agg #[.int .i64 (p0), .int .u64 (p1)]) ∧ Below W.heap.size W w'))) (TO : Hid (∀ W, Sizes W → Calls Tryd.prog 38 #[.agg #[.int .i64 (o0), .int .u64 (o1)], .agg #[.int .i64 (p0), .int .u64 (p1)], .int .i64 mo] W (fun o w' => o = .returned (.tuple #[.agg #[.int .i64 (s0), .int .u64 (s1)], .int .i64 (0)]) ∧ Below W.heap.size W w'))) (BE : Hid (∀ W, Sizes W → Calls Tryd.prog 31 #[.agg #[.int .i64 (s0), .int .u64 (s1)]] W (fun o w' => o = .returned (.tuple #[.agg #[.int .i64 (x0), .int .i64 (x1), .int .i64 (x2), .int .i64 (x3)], .int .i64 (k), .int .i64 (e)]) ∧ Below W.heap.size W w'))) (w : World) (L : Sizes w) :
    Calls Tryd.prog 20 #[.agg #[.int .i64 (h), .int .i64 (m), .int .i64 (s), .int .i64 (n)], .int .i64 ic, .int .i64 mo] w (RetTNE w x0 x1 x2 x3 k e) := by
  go_enter Tryd.func20, Tryd.ntmps20
  go_upto_region 1 with (fail)
  have KB := (((BK.nil w).more4 (.int .i64 (h)) (.int .i64 (m)) (.int .i64 (s)) (.int .i64 (n)) 23).more4 (.int .i64 (0)) (.int .i64 (0)) (.int .i64 (0)) (.int .i64 (0)) 23)
  simp only [World.size_alloc] at KB
  generalize ((w.alloc (.cells #[.int .i64 (h), .int .i64 (m), .int .i64 (s), .int .i64 (n)] 23)).alloc (.cells #[.int .i64 (0), .int .i64 (0), .int .i64 (0), .int .i64 (0)] 23)) = w0 at *
  obtain ⟨_, q0a, q0b, q0c, q0d, _⟩ := (KB.tail.head).four
  go_wp2_with fail
  clear q0a q0b q0c q0d
  refine (NA.out _ (L.mono KB.hb)).mono ?_
  rintro e w1 ⟨rfl, k⟩
  replace KB := KB.below k
  clear k
  have d1 : decide (ic < 1) = false := decide_eq_false (by omega)
  have d0 : ¬ ic = 0 := by omega
  have d3 : (ic == 0) = false := by rw [beq_eq_false_iff_ne]; exact d0
  have d2 : ((86400000000000 : Int) % ic != 0) = false := by rw [bne_eq_false_iff_eq]; exact h3
  go_wp2_with fail
  refine (O1.out _ (L.mono KB.hb)).mono ?_
  rintro e w2 ⟨rfl, k⟩
  replace KB := KB.below k
  clear k
  go_wp2_with fail
  refine (O2.out _ (L.mono KB.hb)).mono ?_
  rintro e w3 ⟨rfl, k⟩
  replace KB := KB.below k
  clear k
  go_wp2_with fail
  refine (TO.out _ (L.mono KB.hb)).mono ?_
  rintro e w4 ⟨rfl, k⟩
  replace KB := KB.below k
  clear k
  clear d0 d1 d2 d3 h3
  go_upto_region 5 with (fail)
  have ig0 : w4.heap.size ≠ w.heap.size + 1 := Nat.ne_of_gt (KB.head).lt
  have og0 := Ne.symm ig0
  have ig1 : w4.heap.size ≠ w.heap.size := Nat.ne_of_gt (KB.tail.head).lt
  have og1 := Ne.symm ig1
  have ggg : w.heap.size ≤ w4.heap.size := KB.hb.size
  replace KB := KB.more2 (.int .i64 (s0)) (.int .u64 (s1)) 42
  generalize w4.alloc (.cells #[.int .i64 (s0), .int .u64 (s1)] 42) = w5 at *
  generalize w4.heap.size = g at *
  obtain ⟨_, q0a, q0b, _⟩ := (KB.head).two
  go_wp2_with fail
  clear q0a q0b
  refine (BE.out _ (L.mono KB.hb)).mono ?_
  rintro e w6 ⟨rfl, k⟩
  replace KB := KB.below k
  clear k
  obtain ⟨_, r0, r1, r2, r3, rf0, rf1, rf2, rf3⟩ := (KB.tail.head).four
  go_wp2
  obtain ⟨_, P0, P1, P2, P3, _⟩ := ((KB.tail.head).self4 (.int .i64 (x0)) (.int .i64 (x1)) (.int .i64 (x2)) (.int .i64 (x3))).four
  have HB := ((((KB.hb.setCell (p := ⟨w.heap.size + 1, 0, none⟩) (by show _ ≤ w.heap.size + 1; omega) (.int .i64 (x0))).setCell (p := ⟨w.heap.size + 1, 1, none⟩) (by show _ ≤ w.heap.size + 1; omega) (.int .i64 (x1))).setCell (p := ⟨w.heap.size + 1, 2, none⟩) (by show _ ≤ w.heap.size + 1; omega) (.int .i64 (x2))).setCell (p := ⟨w.heap.size + 1, 3, none⟩) (by show _ ≤ w.heap.size + 1; omega) (.int .i64 (x3)))
  exact bodyPost_ret (v := .tuple #[.agg #[.int .i64 (x0), .int .i64 (x1), .int .i64 (x2), .int .i64 (x3)], .int .i64 (k), .int .i64 (e)]) (by simp [results, Tryd.results20, go_sem, P0, P1, P2, P3]) rfl ⟨rfl, HB⟩
end Go.Proofs.YteggdabnhdjfcaaDoor
