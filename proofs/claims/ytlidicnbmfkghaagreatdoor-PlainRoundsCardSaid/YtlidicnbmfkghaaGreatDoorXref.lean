/- The document's answer of layer 7, out of what its calls answer. -/
import Derived.Test.YtlidicnbmfkghaaGreatDoorDtime
import Derived.Test.YtlidicnbmfkghaaGreatDoorGh
import Derived.Test.YtlidicnbmfkghaaGreatDoorGc
import Derived.Test.YtlidicnbmfkghaaGreatDoorGzon
import Derived.Deep.RegionHeld3
namespace Go.Proofs.YtlidicnbmfkghaaGreatDoor
open Go.RowKit

theorem BM.bk {w W : World} {L : List (Nat × List Value)} {M : List (Bool × Option Addr × Nat × Nat × Int)} (h : BM w L M W) : BK w L W := ⟨h.al, h.hb⟩
theorem BM.more7 {w W : World} {L : List (Nat × List Value)} {M : List (Bool × Option Addr × Nat × Nat × Int)} (h : BM w L M W) (a b c d e f g : Value) (t : TypeId) : BM w ((W.heap.size, [a, b, c, d, e, f, g]) :: L) M (W.alloc (.cells #[a, b, c, d, e, f, g] t)) := (h.below (below_box _ _)).cons (Blk.new7 _ _ _ _ _ _ _ _ _)
theorem BK.bm {w W : World} {L : List (Nat × List Value)} (h : BK w L W) : BM w L [] W := ⟨h.al, fun x hx => absurd hx (by simp), h.hb⟩
/-- What a call that answers a date-time and a bool leaves. -/
def RetXB (w : World) (y m d h i s n : Int) (ok : Bool) (e : Ending) (w' : World) : Prop := e = .returned (.tuple #[.agg #[.int .i64 y, .int .i64 m, .int .i64 d, .int .i64 h, .int .i64 i, .int .i64 s, .int .i64 n], .bool ok]) ∧ Below w.heap.size w w'
def RetXE (w : World) (y m d h i s n x : Int) (e : Ending) (w' : World) : Prop := e = .returned (.tuple #[.agg #[.int .i64 y, .int .i64 m, .int .i64 d, .int .i64 h, .int .i64 i, .int .i64 s, .int .i64 n], .int .i64 x]) ∧ Below w.heap.size w w'
set_option maxRecDepth 100000 in
set_option maxHeartbeats 8000000 in
theorem rightX_date (y m d h i s n N : Int) (DA : Hid (∀ W, Calls Tryz.prog 27 #[.agg #[.int .i64 (y), .int .i64 (m), .int .i64 (d)]] W (fun e w' => e = .returned (.tuple #[.int .i64 (N), .bool false]) ∧ Below W.heap.size W w'))) (w : World) :
    Calls Tryz.prog 11 #[.agg #[.int .i64 (y), .int .i64 (m), .int .i64 (d), .int .i64 (h), .int .i64 (i), .int .i64 (s), .int .i64 (n)]] w (RetV w (.bool false)) := by
  go_enter Tryz.func11, Tryz.ntmps11
  go_upto_region 1 with (fail)
  have KB := ((BK.nil w).more7 (.int .i64 (y)) (.int .i64 (m)) (.int .i64 (d)) (.int .i64 (h)) (.int .i64 (i)) (.int .i64 (s)) (.int .i64 (n)) 27)
  generalize (w.alloc (.cells #[.int .i64 (y), .int .i64 (m), .int .i64 (d), .int .i64 (h), .int .i64 (i), .int .i64 (s), .int .i64 (n)] 27)) = w0 at *
  obtain ⟨_, q0a, q0b, q0c, q0d, q0e, q0f, q0g, _⟩ := (KB.head).seven
  go_wp2_with fail
  clear q0a q0b q0c q0d q0e q0f q0g
  refine (DA.out _).mono ?_
  rintro e w1 ⟨rfl, k⟩
  replace KB := KB.below k
  clear k
  have HB := KB.hb
  go_wp2
  go_ret
  exact ⟨rfl, HB⟩
set_option maxRecDepth 100000 in
set_option maxHeartbeats 8000000 in
theorem rightX_time (y m d h i s n N : Int) (DA : Hid (∀ W, Calls Tryz.prog 27 #[.agg #[.int .i64 (y), .int .i64 (m), .int .i64 (d)]] W (fun e w' => e = .returned (.tuple #[.int .i64 (N), .bool true]) ∧ Below W.heap.size W w'))) (RT : Hid (∀ W, Calls Tryz.prog 20 #[.agg #[.int .i64 (h), .int .i64 (i), .int .i64 (s), .int .i64 (n)]] W (fun e w' => e = .returned (.bool false) ∧ Below W.heap.size W w'))) (w : World) :
    Calls Tryz.prog 11 #[.agg #[.int .i64 (y), .int .i64 (m), .int .i64 (d), .int .i64 (h), .int .i64 (i), .int .i64 (s), .int .i64 (n)]] w (RetV w (.bool false)) := by
  go_enter Tryz.func11, Tryz.ntmps11
  go_upto_region 1 with (fail)
  have KB := ((BK.nil w).more7 (.int .i64 (y)) (.int .i64 (m)) (.int .i64 (d)) (.int .i64 (h)) (.int .i64 (i)) (.int .i64 (s)) (.int .i64 (n)) 27)
  generalize (w.alloc (.cells #[.int .i64 (y), .int .i64 (m), .int .i64 (d), .int .i64 (h), .int .i64 (i), .int .i64 (s), .int .i64 (n)] 27)) = w0 at *
  obtain ⟨_, q0a, q0b, q0c, q0d, q0e, q0f, q0g, _⟩ := (KB.head).seven
  go_wp2_with fail
  clear q0a q0b q0c q0d q0e q0f q0g
  refine (DA.out _).mono ?_
  rintro e w1 ⟨rfl, k⟩
  replace KB := KB.below k
  clear k
  obtain ⟨_, q0a, q0b, q0c, q0d, q0e, q0f, q0g, _⟩ := (KB.head).seven
  go_wp2_with fail
  clear q0a q0b q0c q0d q0e q0f q0g
  refine (RT.out _).mono ?_
  rintro e w2 ⟨rfl, k⟩
  replace KB := KB.below k
  clear k
  have HB := KB.hb
  go_wp2
  go_ret
  exact ⟨rfl, HB⟩
set_option maxRecDepth 100000 in
set_option maxHeartbeats 8000000 in
theorem rightX_yes (y m d h i s n N : Int) (hN : (N != -100000001) = true) (DA : Hid (∀ W, Calls Tryz.prog 27 #[.agg #[.int .i64 (y), .int .i64 (m), .int .i64 (d)]] W (fun e w' => e = .returned (.tuple #[.int .i64 (N), .bool true]) ∧ Below W.heap.size W w'))) (RT : Hid (∀ W, Calls Tryz.prog 20 #[.agg #[.int .i64 (h), .int .i64 (i), .int .i64 (s), .int .i64 (n)]] W (fun e w' => e = .returned (.bool true) ∧ Below W.heap.size W w'))) (w : World) :
    Calls Tryz.prog 11 #[.agg #[.int .i64 (y), .int .i64 (m), .int .i64 (d), .int .i64 (h), .int .i64 (i), .int .i64 (s), .int .i64 (n)]] w (RetV w (.bool true)) := by
  go_enter Tryz.func11, Tryz.ntmps11
  go_upto_region 1 with (fail)
  have KB := ((BK.nil w).more7 (.int .i64 (y)) (.int .i64 (m)) (.int .i64 (d)) (.int .i64 (h)) (.int .i64 (i)) (.int .i64 (s)) (.int .i64 (n)) 27)
  generalize (w.alloc (.cells #[.int .i64 (y), .int .i64 (m), .int .i64 (d), .int .i64 (h), .int .i64 (i), .int .i64 (s), .int .i64 (n)] 27)) = w0 at *
  obtain ⟨_, q0a, q0b, q0c, q0d, q0e, q0f, q0g, _⟩ := (KB.head).seven
  go_wp2_with fail
  clear q0a q0b q0c q0d q0e q0f q0g
  refine (DA.out _).mono ?_
  rintro e w1 ⟨rfl, k⟩
  replace KB := KB.below k
  clear k
  obtain ⟨_, q0a, q0b, q0c, q0d, q0e, q0f, q0g, _⟩ := (KB.head).seven
  go_wp2_with fail
  clear q0a q0b q0c q0d q0e q0f q0g
  refine (RT.out _).mono ?_
  rintro e w2 ⟨rfl, k⟩
  replace KB := KB.below k
  clear k
  obtain ⟨_, q0a, q0b, q0c, q0d, q0e, q0f, q0g, _⟩ := (KB.head).seven
  have HB := KB.hb
  go_wp2
  go_ret
  exact ⟨rfl, HB⟩
set_option maxRecDepth 100000 in
set_option maxHeartbeats 8000000 in
theorem rightX_first_h (y m d h i s n N : Int) (hN : (N != -100000001) = false) (hz : (h == 0) = false) (DA : Hid (∀ W, Calls Tryz.prog 27 #[.agg #[.int .i64 (y), .int .i64 (m), .int .i64 (d)]] W (fun e w' => e = .returned (.tuple #[.int .i64 (N), .bool true]) ∧ Below W.heap.size W w'))) (RT : Hid (∀ W, Calls Tryz.prog 20 #[.agg #[.int .i64 (h), .int .i64 (i), .int .i64 (s), .int .i64 (n)]] W (fun e w' => e = .returned (.bool true) ∧ Below W.heap.size W w'))) (w : World) :
    Calls Tryz.prog 11 #[.agg #[.int .i64 (y), .int .i64 (m), .int .i64 (d), .int .i64 (h), .int .i64 (i), .int .i64 (s), .int .i64 (n)]] w (RetV w (.bool true)) := by
  go_enter Tryz.func11, Tryz.ntmps11
  go_upto_region 1 with (fail)
  have KB := ((BK.nil w).more7 (.int .i64 (y)) (.int .i64 (m)) (.int .i64 (d)) (.int .i64 (h)) (.int .i64 (i)) (.int .i64 (s)) (.int .i64 (n)) 27)
  generalize (w.alloc (.cells #[.int .i64 (y), .int .i64 (m), .int .i64 (d), .int .i64 (h), .int .i64 (i), .int .i64 (s), .int .i64 (n)] 27)) = w0 at *
  obtain ⟨_, q0a, q0b, q0c, q0d, q0e, q0f, q0g, _⟩ := (KB.head).seven
  go_wp2_with fail
  clear q0a q0b q0c q0d q0e q0f q0g
  refine (DA.out _).mono ?_
  rintro e w1 ⟨rfl, k⟩
  replace KB := KB.below k
  clear k
  obtain ⟨_, q0a, q0b, q0c, q0d, q0e, q0f, q0g, _⟩ := (KB.head).seven
  go_wp2_with fail
  clear q0a q0b q0c q0d q0e q0f q0g
  refine (RT.out _).mono ?_
  rintro e w2 ⟨rfl, k⟩
  replace KB := KB.below k
  clear k
  obtain ⟨_, q0a, q0b, q0c, q0d, q0e, q0f, q0g, _⟩ := (KB.head).seven
  have HB := KB.hb
  go_wp2
  go_ret
  exact ⟨rfl, HB⟩
set_option maxRecDepth 100000 in
set_option maxHeartbeats 8000000 in
theorem rightX_first_i (y m d i s n N : Int) (hN : (N != -100000001) = false) (hz : (i == 0) = false) (DA : Hid (∀ W, Calls Tryz.prog 27 #[.agg #[.int .i64 (y), .int .i64 (m), .int .i64 (d)]] W (fun e w' => e = .returned (.tuple #[.int .i64 (N), .bool true]) ∧ Below W.heap.size W w'))) (RT : Hid (∀ W, Calls Tryz.prog 20 #[.agg #[.int .i64 (0), .int .i64 (i), .int .i64 (s), .int .i64 (n)]] W (fun e w' => e = .returned (.bool true) ∧ Below W.heap.size W w'))) (w : World) :
    Calls Tryz.prog 11 #[.agg #[.int .i64 (y), .int .i64 (m), .int .i64 (d), .int .i64 (0), .int .i64 (i), .int .i64 (s), .int .i64 (n)]] w (RetV w (.bool true)) := by
  go_enter Tryz.func11, Tryz.ntmps11
  go_upto_region 1 with (fail)
  have KB := ((BK.nil w).more7 (.int .i64 (y)) (.int .i64 (m)) (.int .i64 (d)) (.int .i64 (0)) (.int .i64 (i)) (.int .i64 (s)) (.int .i64 (n)) 27)
  generalize (w.alloc (.cells #[.int .i64 (y), .int .i64 (m), .int .i64 (d), .int .i64 (0), .int .i64 (i), .int .i64 (s), .int .i64 (n)] 27)) = w0 at *
  obtain ⟨_, q0a, q0b, q0c, q0d, q0e, q0f, q0g, _⟩ := (KB.head).seven
  go_wp2_with fail
  clear q0a q0b q0c q0d q0e q0f q0g
  refine (DA.out _).mono ?_
  rintro e w1 ⟨rfl, k⟩
  replace KB := KB.below k
  clear k
  obtain ⟨_, q0a, q0b, q0c, q0d, q0e, q0f, q0g, _⟩ := (KB.head).seven
  go_wp2_with fail
  clear q0a q0b q0c q0d q0e q0f q0g
  refine (RT.out _).mono ?_
  rintro e w2 ⟨rfl, k⟩
  replace KB := KB.below k
  clear k
  obtain ⟨_, q0a, q0b, q0c, q0d, q0e, q0f, q0g, _⟩ := (KB.head).seven
  have HB := KB.hb
  go_wp2
  go_ret
  exact ⟨rfl, HB⟩
set_option maxRecDepth 100000 in
set_option maxHeartbeats 8000000 in
theorem rightX_first_s (y m d s n N : Int) (hN : (N != -100000001) = false) (hz : (s == 0) = false) (DA : Hid (∀ W, Calls Tryz.prog 27 #[.agg #[.int .i64 (y), .int .i64 (m), .int .i64 (d)]] W (fun e w' => e = .returned (.tuple #[.int .i64 (N), .bool true]) ∧ Below W.heap.size W w'))) (RT : Hid (∀ W, Calls Tryz.prog 20 #[.agg #[.int .i64 (0), .int .i64 (0), .int .i64 (s), .int .i64 (n)]] W (fun e w' => e = .returned (.bool true) ∧ Below W.heap.size W w'))) (w : World) :
    Calls Tryz.prog 11 #[.agg #[.int .i64 (y), .int .i64 (m), .int .i64 (d), .int .i64 (0), .int .i64 (0), .int .i64 (s), .int .i64 (n)]] w (RetV w (.bool true)) := by
  go_enter Tryz.func11, Tryz.ntmps11
  go_upto_region 1 with (fail)
  have KB := ((BK.nil w).more7 (.int .i64 (y)) (.int .i64 (m)) (.int .i64 (d)) (.int .i64 (0)) (.int .i64 (0)) (.int .i64 (s)) (.int .i64 (n)) 27)
  generalize (w.alloc (.cells #[.int .i64 (y), .int .i64 (m), .int .i64 (d), .int .i64 (0), .int .i64 (0), .int .i64 (s), .int .i64 (n)] 27)) = w0 at *
  obtain ⟨_, q0a, q0b, q0c, q0d, q0e, q0f, q0g, _⟩ := (KB.head).seven
  go_wp2_with fail
  clear q0a q0b q0c q0d q0e q0f q0g
  refine (DA.out _).mono ?_
  rintro e w1 ⟨rfl, k⟩
  replace KB := KB.below k
  clear k
  obtain ⟨_, q0a, q0b, q0c, q0d, q0e, q0f, q0g, _⟩ := (KB.head).seven
  go_wp2_with fail
  clear q0a q0b q0c q0d q0e q0f q0g
  refine (RT.out _).mono ?_
  rintro e w2 ⟨rfl, k⟩
  replace KB := KB.below k
  clear k
  obtain ⟨_, q0a, q0b, q0c, q0d, q0e, q0f, q0g, _⟩ := (KB.head).seven
  have HB := KB.hb
  go_wp2
  go_ret
  exact ⟨rfl, HB⟩
set_option maxRecDepth 100000 in
set_option maxHeartbeats 8000000 in
theorem rightX_first_n (y m d n N : Int) (hN : (N != -100000001) = false) (hz : (n == 0) = false) (DA : Hid (∀ W, Calls Tryz.prog 27 #[.agg #[.int .i64 (y), .int .i64 (m), .int .i64 (d)]] W (fun e w' => e = .returned (.tuple #[.int .i64 (N), .bool true]) ∧ Below W.heap.size W w'))) (RT : Hid (∀ W, Calls Tryz.prog 20 #[.agg #[.int .i64 (0), .int .i64 (0), .int .i64 (0), .int .i64 (n)]] W (fun e w' => e = .returned (.bool true) ∧ Below W.heap.size W w'))) (w : World) :
    Calls Tryz.prog 11 #[.agg #[.int .i64 (y), .int .i64 (m), .int .i64 (d), .int .i64 (0), .int .i64 (0), .int .i64 (0), .int .i64 (n)]] w (RetV w (.bool true)) := by
  go_enter Tryz.func11, Tryz.ntmps11
  go_upto_region 1 with (fail)
  have KB := ((BK.nil w).more7 (.int .i64 (y)) (.int .i64 (m)) (.int .i64 (d)) (.int .i64 (0)) (.int .i64 (0)) (.int .i64 (0)) (.int .i64 (n)) 27)
  generalize (w.alloc (.cells #[.int .i64 (y), .int .i64 (m), .int .i64 (d), .int .i64 (0), .int .i64 (0), .int .i64 (0), .int .i64 (n)] 27)) = w0 at *
  obtain ⟨_, q0a, q0b, q0c, q0d, q0e, q0f, q0g, _⟩ := (KB.head).seven
  go_wp2_with fail
  clear q0a q0b q0c q0d q0e q0f q0g
  refine (DA.out _).mono ?_
  rintro e w1 ⟨rfl, k⟩
  replace KB := KB.below k
  clear k
  obtain ⟨_, q0a, q0b, q0c, q0d, q0e, q0f, q0g, _⟩ := (KB.head).seven
  go_wp2_with fail
  clear q0a q0b q0c q0d q0e q0f q0g
  refine (RT.out _).mono ?_
  rintro e w2 ⟨rfl, k⟩
  replace KB := KB.below k
  clear k
  obtain ⟨_, q0a, q0b, q0c, q0d, q0e, q0f, q0g, _⟩ := (KB.head).seven
  have HB := KB.hb
  go_wp2
  go_ret
  exact ⟨rfl, HB⟩
set_option maxRecDepth 100000 in
set_option maxHeartbeats 8000000 in
theorem rightX_none (y m d N : Int) (hN : (N != -100000001) = false) (DA : Hid (∀ W, Calls Tryz.prog 27 #[.agg #[.int .i64 (y), .int .i64 (m), .int .i64 (d)]] W (fun e w' => e = .returned (.tuple #[.int .i64 (N), .bool true]) ∧ Below W.heap.size W w'))) (RT : Hid (∀ W, Calls Tryz.prog 20 #[.agg #[.int .i64 (0), .int .i64 (0), .int .i64 (0), .int .i64 (0)]] W (fun e w' => e = .returned (.bool true) ∧ Below W.heap.size W w'))) (w : World) :
    Calls Tryz.prog 11 #[.agg #[.int .i64 (y), .int .i64 (m), .int .i64 (d), .int .i64 (0), .int .i64 (0), .int .i64 (0), .int .i64 (0)]] w (RetV w (.bool false)) := by
  go_enter Tryz.func11, Tryz.ntmps11
  go_upto_region 1 with (fail)
  have KB := ((BK.nil w).more7 (.int .i64 (y)) (.int .i64 (m)) (.int .i64 (d)) (.int .i64 (0)) (.int .i64 (0)) (.int .i64 (0)) (.int .i64 (0)) 27)
  generalize (w.alloc (.cells #[.int .i64 (y), .int .i64 (m), .int .i64 (d), .int .i64 (0), .int .i64 (0), .int .i64 (0), .int .i64 (0)] 27)) = w0 at *
  obtain ⟨_, q0a, q0b, q0c, q0d, q0e, q0f, q0g, _⟩ := (KB.head).seven
  go_wp2_with fail
  clear q0a q0b q0c q0d q0e q0f q0g
  refine (DA.out _).mono ?_
  rintro e w1 ⟨rfl, k⟩
  replace KB := KB.below k
  clear k
  obtain ⟨_, q0a, q0b, q0c, q0d, q0e, q0f, q0g, _⟩ := (KB.head).seven
  go_wp2_with fail
  clear q0a q0b q0c q0d q0e q0f q0g
  refine (RT.out _).mono ?_
  rintro e w2 ⟨rfl, k⟩
  replace KB := KB.below k
  clear k
  obtain ⟨_, q0a, q0b, q0c, q0d, q0e, q0f, q0g, _⟩ := (KB.head).seven
  have HB := KB.hb
  go_wp2
  go_ret
  exact ⟨rfl, HB⟩
set_option maxRecDepth 100000 in
set_option maxHeartbeats 8000000 in
theorem roundX_bad (y m d h i s n ic mo t0 t1 t2 t3 k ee : Int) (RT : Hid (∀ W, Calls Tryz.prog 10 #[.agg #[.int .i64 (h), .int .i64 (i), .int .i64 (s), .int .i64 (n)], .int .i64 ic, .int .i64 mo] W (fun e w' => e = .returned (.tuple #[.agg #[.int .i64 (t0), .int .i64 (t1), .int .i64 (t2), .int .i64 (t3)], .int .i64 (k), .int .i64 (ee)]) ∧ Below W.heap.size W w'))) (RI : Hid (∀ W, Calls Tryz.prog 11 #[.agg #[.int .i64 (y), .int .i64 (m), .int .i64 (d), .int .i64 (h), .int .i64 (i), .int .i64 (s), .int .i64 (n)]] W (fun e w' => e = .returned (.bool false) ∧ Below W.heap.size W w'))) (w : World) :
    Calls Tryz.prog 5 #[.agg #[.int .i64 (y), .int .i64 (m), .int .i64 (d), .int .i64 (h), .int .i64 (i), .int .i64 (s), .int .i64 (n)], .int .i64 ic, .int .i64 mo] w (RetXE w 0 0 0 0 0 0 0 1) := by
  go_enter Tryz.func5, Tryz.ntmps5
  go_upto_region 1 with (fail)
  have KB := (((BK.nil w).more7 (.int .i64 (y)) (.int .i64 (m)) (.int .i64 (d)) (.int .i64 (h)) (.int .i64 (i)) (.int .i64 (s)) (.int .i64 (n)) 27).more7 (.int .i64 0) (.int .i64 0) (.int .i64 0) (.int .i64 0) (.int .i64 0) (.int .i64 0) (.int .i64 0) 27)
  simp only [World.size_alloc] at KB
  generalize ((w.alloc (.cells #[.int .i64 (y), .int .i64 (m), .int .i64 (d), .int .i64 (h), .int .i64 (i), .int .i64 (s), .int .i64 (n)] 27)).alloc (.cells #[.int .i64 0, .int .i64 0, .int .i64 0, .int .i64 0, .int .i64 0, .int .i64 0, .int .i64 0] 27)) = w0 at *
  obtain ⟨_, q0a, q0b, q0c, q0d, q0e, q0f, q0g, _⟩ := (KB.tail.head).seven
  go_wp2_with fail
  clear q0a q0b q0c q0d q0e q0f q0g
  refine (RT.out _).mono ?_
  rintro e w1 ⟨rfl, k⟩
  replace KB := KB.below k
  clear k
  go_upto_region 2 with (fail)
  have ig0 : w1.heap.size ≠ w.heap.size + 1 := Nat.ne_of_gt (KB.head).lt
  have og0 := Ne.symm ig0
  have ig1 : w1.heap.size ≠ w.heap.size := Nat.ne_of_gt (KB.tail.head).lt
  have og1 := Ne.symm ig1
  replace KB := KB.more4 (.int .i64 (t0)) (.int .i64 (t1)) (.int .i64 (t2)) (.int .i64 (t3)) 25
  generalize w1.alloc (.cells #[.int .i64 (t0), .int .i64 (t1), .int .i64 (t2), .int .i64 (t3)] 25) = w2 at *
  generalize w1.heap.size = g at *
  obtain ⟨_, q0a, q0b, q0c, q0d, q0e, q0f, q0g, _⟩ := (KB.tail.tail.head).seven
  go_wp2_with fail
  clear q0a q0b q0c q0d q0e q0f q0g
  refine (RI.out _).mono ?_
  rintro e w3 ⟨rfl, k⟩
  replace KB := KB.below k
  clear k
  obtain ⟨_, ra, rb, rc, rd, re, rf, rg, fa, fb, fc, fd, fe, ff, fg⟩ := (KB.tail.head).seven
  go_wp2
  obtain ⟨_, P0, P1, P2, P3, P4, P5, P6, _⟩ := ((KB.tail.head).self7 (.int .i64 0) (.int .i64 0) (.int .i64 0) (.int .i64 0) (.int .i64 0) (.int .i64 0) (.int .i64 0)).seven
  have HB := (((((((KB.hb.setCell (p := ⟨w.heap.size + 1, 0, none⟩) (by show _ ≤ w.heap.size + 1; omega) (.int .i64 0)).setCell (p := ⟨w.heap.size + 1, 1, none⟩) (by show _ ≤ w.heap.size + 1; omega) (.int .i64 0)).setCell (p := ⟨w.heap.size + 1, 2, none⟩) (by show _ ≤ w.heap.size + 1; omega) (.int .i64 0)).setCell (p := ⟨w.heap.size + 1, 3, none⟩) (by show _ ≤ w.heap.size + 1; omega) (.int .i64 0)).setCell (p := ⟨w.heap.size + 1, 4, none⟩) (by show _ ≤ w.heap.size + 1; omega) (.int .i64 0)).setCell (p := ⟨w.heap.size + 1, 5, none⟩) (by show _ ≤ w.heap.size + 1; omega) (.int .i64 0)).setCell (p := ⟨w.heap.size + 1, 6, none⟩) (by show _ ≤ w.heap.size + 1; omega) (.int .i64 0))
  exact bodyPost_ret (v := .tuple #[.agg #[.int .i64 0, .int .i64 0, .int .i64 0, .int .i64 0, .int .i64 0, .int .i64 0, .int .i64 0], .int .i64 1]) (by simp [results, Tryz.results5, go_sem, P0, P1, P2, P3, P4, P5, P6]) rfl ⟨rfl, HB⟩
set_option maxRecDepth 100000 in
set_option maxHeartbeats 8000000 in
theorem roundX_arg (y m d h i s n ic mo t0 t1 t2 t3 k ee : Int) (RT : Hid (∀ W, Calls Tryz.prog 10 #[.agg #[.int .i64 (h), .int .i64 (i), .int .i64 (s), .int .i64 (n)], .int .i64 ic, .int .i64 mo] W (fun e w' => e = .returned (.tuple #[.agg #[.int .i64 (t0), .int .i64 (t1), .int .i64 (t2), .int .i64 (t3)], .int .i64 (k), .int .i64 (ee)]) ∧ Below W.heap.size W w'))) (he : (ee != 0) = true) (RI : Hid (∀ W, Calls Tryz.prog 11 #[.agg #[.int .i64 (y), .int .i64 (m), .int .i64 (d), .int .i64 (h), .int .i64 (i), .int .i64 (s), .int .i64 (n)]] W (fun e w' => e = .returned (.bool true) ∧ Below W.heap.size W w'))) (w : World) :
    Calls Tryz.prog 5 #[.agg #[.int .i64 (y), .int .i64 (m), .int .i64 (d), .int .i64 (h), .int .i64 (i), .int .i64 (s), .int .i64 (n)], .int .i64 ic, .int .i64 mo] w (RetXE w 0 0 0 0 0 0 0 1) := by
  go_enter Tryz.func5, Tryz.ntmps5
  go_upto_region 1 with (fail)
  have KB := (((BK.nil w).more7 (.int .i64 (y)) (.int .i64 (m)) (.int .i64 (d)) (.int .i64 (h)) (.int .i64 (i)) (.int .i64 (s)) (.int .i64 (n)) 27).more7 (.int .i64 0) (.int .i64 0) (.int .i64 0) (.int .i64 0) (.int .i64 0) (.int .i64 0) (.int .i64 0) 27)
  simp only [World.size_alloc] at KB
  generalize ((w.alloc (.cells #[.int .i64 (y), .int .i64 (m), .int .i64 (d), .int .i64 (h), .int .i64 (i), .int .i64 (s), .int .i64 (n)] 27)).alloc (.cells #[.int .i64 0, .int .i64 0, .int .i64 0, .int .i64 0, .int .i64 0, .int .i64 0, .int .i64 0] 27)) = w0 at *
  obtain ⟨_, q0a, q0b, q0c, q0d, q0e, q0f, q0g, _⟩ := (KB.tail.head).seven
  go_wp2_with fail
  clear q0a q0b q0c q0d q0e q0f q0g
  refine (RT.out _).mono ?_
  rintro e w1 ⟨rfl, k⟩
  replace KB := KB.below k
  clear k
  go_upto_region 2 with (fail)
  have ig0 : w1.heap.size ≠ w.heap.size + 1 := Nat.ne_of_gt (KB.head).lt
  have og0 := Ne.symm ig0
  have ig1 : w1.heap.size ≠ w.heap.size := Nat.ne_of_gt (KB.tail.head).lt
  have og1 := Ne.symm ig1
  replace KB := KB.more4 (.int .i64 (t0)) (.int .i64 (t1)) (.int .i64 (t2)) (.int .i64 (t3)) 25
  generalize w1.alloc (.cells #[.int .i64 (t0), .int .i64 (t1), .int .i64 (t2), .int .i64 (t3)] 25) = w2 at *
  generalize w1.heap.size = g at *
  obtain ⟨_, q0a, q0b, q0c, q0d, q0e, q0f, q0g, _⟩ := (KB.tail.tail.head).seven
  go_wp2_with fail
  clear q0a q0b q0c q0d q0e q0f q0g
  refine (RI.out _).mono ?_
  rintro e w3 ⟨rfl, k⟩
  replace KB := KB.below k
  clear k
  obtain ⟨_, ra, rb, rc, rd, re, rf, rg, fa, fb, fc, fd, fe, ff, fg⟩ := (KB.tail.head).seven
  go_wp2
  obtain ⟨_, P0, P1, P2, P3, P4, P5, P6, _⟩ := ((KB.tail.head).self7 (.int .i64 0) (.int .i64 0) (.int .i64 0) (.int .i64 0) (.int .i64 0) (.int .i64 0) (.int .i64 0)).seven
  have HB := (((((((KB.hb.setCell (p := ⟨w.heap.size + 1, 0, none⟩) (by show _ ≤ w.heap.size + 1; omega) (.int .i64 0)).setCell (p := ⟨w.heap.size + 1, 1, none⟩) (by show _ ≤ w.heap.size + 1; omega) (.int .i64 0)).setCell (p := ⟨w.heap.size + 1, 2, none⟩) (by show _ ≤ w.heap.size + 1; omega) (.int .i64 0)).setCell (p := ⟨w.heap.size + 1, 3, none⟩) (by show _ ≤ w.heap.size + 1; omega) (.int .i64 0)).setCell (p := ⟨w.heap.size + 1, 4, none⟩) (by show _ ≤ w.heap.size + 1; omega) (.int .i64 0)).setCell (p := ⟨w.heap.size + 1, 5, none⟩) (by show _ ≤ w.heap.size + 1; omega) (.int .i64 0)).setCell (p := ⟨w.heap.size + 1, 6, none⟩) (by show _ ≤ w.heap.size + 1; omega) (.int .i64 0))
  exact bodyPost_ret (v := .tuple #[.agg #[.int .i64 0, .int .i64 0, .int .i64 0, .int .i64 0, .int .i64 0, .int .i64 0, .int .i64 0], .int .i64 1]) (by simp [results, Tryz.results5, go_sem, P0, P1, P2, P3, P4, P5, P6]) rfl ⟨rfl, HB⟩
set_option maxRecDepth 100000 in
set_option maxHeartbeats 8000000 in
theorem roundX_over (y m d h i s n ic mo t0 t1 t2 t3 k d0 d1 d2 f : Int) (RT : Hid (∀ W, Calls Tryz.prog 10 #[.agg #[.int .i64 (h), .int .i64 (i), .int .i64 (s), .int .i64 (n)], .int .i64 ic, .int .i64 mo] W (fun e w' => e = .returned (.tuple #[.agg #[.int .i64 (t0), .int .i64 (t1), .int .i64 (t2), .int .i64 (t3)], .int .i64 (k), .int .i64 0]) ∧ Below W.heap.size W w'))) (RI : Hid (∀ W, Calls Tryz.prog 11 #[.agg #[.int .i64 (y), .int .i64 (m), .int .i64 (d), .int .i64 (h), .int .i64 (i), .int .i64 (s), .int .i64 (n)]] W (fun e w' => e = .returned (.bool true) ∧ Below W.heap.size W w'))) (AD : Hid (∀ W, Calls Tryz.prog 12 #[.agg #[.int .i64 (y), .int .i64 (m), .int .i64 (d)], .int .i64 (k)] W (fun e w' => e = .returned (.tuple #[.agg #[.int .i64 (d0), .int .i64 (d1), .int .i64 (d2)], .int .i64 (f)]) ∧ Below W.heap.size W w'))) (hf : (f != 0) = true) (w : World) :
    Calls Tryz.prog 5 #[.agg #[.int .i64 (y), .int .i64 (m), .int .i64 (d), .int .i64 (h), .int .i64 (i), .int .i64 (s), .int .i64 (n)], .int .i64 ic, .int .i64 mo] w (RetXE w 0 0 0 0 0 0 0 4) := by
  go_enter Tryz.func5, Tryz.ntmps5
  go_upto_region 1 with (fail)
  have KB := (((BK.nil w).more7 (.int .i64 (y)) (.int .i64 (m)) (.int .i64 (d)) (.int .i64 (h)) (.int .i64 (i)) (.int .i64 (s)) (.int .i64 (n)) 27).more7 (.int .i64 0) (.int .i64 0) (.int .i64 0) (.int .i64 0) (.int .i64 0) (.int .i64 0) (.int .i64 0) 27)
  simp only [World.size_alloc] at KB
  generalize ((w.alloc (.cells #[.int .i64 (y), .int .i64 (m), .int .i64 (d), .int .i64 (h), .int .i64 (i), .int .i64 (s), .int .i64 (n)] 27)).alloc (.cells #[.int .i64 0, .int .i64 0, .int .i64 0, .int .i64 0, .int .i64 0, .int .i64 0, .int .i64 0] 27)) = w0 at *
  obtain ⟨_, q0a, q0b, q0c, q0d, q0e, q0f, q0g, _⟩ := (KB.tail.head).seven
  go_wp2_with fail
  clear q0a q0b q0c q0d q0e q0f q0g
  refine (RT.out _).mono ?_
  rintro e w1 ⟨rfl, k⟩
  replace KB := KB.below k
  clear k
  go_upto_region 2 with (fail)
  have ig0 : w1.heap.size ≠ w.heap.size + 1 := Nat.ne_of_gt (KB.head).lt
  have og0 := Ne.symm ig0
  have ig1 : w1.heap.size ≠ w.heap.size := Nat.ne_of_gt (KB.tail.head).lt
  have og1 := Ne.symm ig1
  replace KB := KB.more4 (.int .i64 (t0)) (.int .i64 (t1)) (.int .i64 (t2)) (.int .i64 (t3)) 25
  generalize w1.alloc (.cells #[.int .i64 (t0), .int .i64 (t1), .int .i64 (t2), .int .i64 (t3)] 25) = w2 at *
  generalize w1.heap.size = g at *
  obtain ⟨_, q0a, q0b, q0c, q0d, q0e, q0f, q0g, _⟩ := (KB.tail.tail.head).seven
  go_wp2_with fail
  clear q0a q0b q0c q0d q0e q0f q0g
  refine (RI.out _).mono ?_
  rintro e w3 ⟨rfl, k⟩
  replace KB := KB.below k
  clear k
  obtain ⟨_, q0a, q0b, q0c, q0d, q0e, q0f, q0g, _⟩ := (KB.tail.tail.head).seven
  go_wp2_with fail
  clear q0a q0b q0c q0d q0e q0f q0g
  refine (AD.out _).mono ?_
  rintro e w4 ⟨rfl, k⟩
  replace KB := KB.below k
  clear k
  go_upto_region 5 with (fail)
  have ip0 : w4.heap.size ≠ g := Nat.ne_of_gt (KB.head).lt
  have op0 := Ne.symm ip0
  have ip1 : w4.heap.size ≠ w.heap.size + 1 := Nat.ne_of_gt (KB.tail.head).lt
  have op1 := Ne.symm ip1
  have ip2 : w4.heap.size ≠ w.heap.size := Nat.ne_of_gt (KB.tail.tail.head).lt
  have op2 := Ne.symm ip2
  replace KB := KB.more3 (.int .i64 (d0)) (.int .i64 (d1)) (.int .i64 (d2)) 23
  generalize w4.alloc (.cells #[.int .i64 (d0), .int .i64 (d1), .int .i64 (d2)] 23) = w5 at *
  generalize w4.heap.size = p at *
  obtain ⟨_, q0a, q0b, q0c, _⟩ := (KB.head).three
  obtain ⟨_, q1a, q1b, q1c, q1d, _⟩ := (KB.tail.head).four
  go_upto_region 6 with (fail)
  clear q0a q0b q0c q1a q1b q1c q1d
  have iq'0 : w5.heap.size ≠ p := Nat.ne_of_gt (KB.head).lt
  have oq'0 := Ne.symm iq'0
  have iq'1 : w5.heap.size ≠ g := Nat.ne_of_gt (KB.tail.head).lt
  have oq'1 := Ne.symm iq'1
  have iq'2 : w5.heap.size ≠ w.heap.size + 1 := Nat.ne_of_gt (KB.tail.tail.head).lt
  have oq'2 := Ne.symm iq'2
  have iq'3 : w5.heap.size ≠ w.heap.size := Nat.ne_of_gt (KB.tail.tail.tail.head).lt
  have oq'3 := Ne.symm iq'3
  replace KB := KB.more7 (.int .i64 (d0)) (.int .i64 (d1)) (.int .i64 (d2)) (.int .i64 (t0)) (.int .i64 (t1)) (.int .i64 (t2)) (.int .i64 (t3)) 27
  generalize w5.alloc (.cells #[.int .i64 (d0), .int .i64 (d1), .int .i64 (d2), .int .i64 (t0), .int .i64 (t1), .int .i64 (t2), .int .i64 (t3)] 27) = w6 at *
  generalize w5.heap.size = q' at *
  obtain ⟨_, ra, rb, rc, rd, re, rf, rg, fa, fb, fc, fd, fe, ff, fg⟩ := (KB.tail.tail.tail.head).seven
  go_wp2
  obtain ⟨_, P0, P1, P2, P3, P4, P5, P6, _⟩ := ((KB.tail.tail.tail.head).self7 (.int .i64 0) (.int .i64 0) (.int .i64 0) (.int .i64 0) (.int .i64 0) (.int .i64 0) (.int .i64 0)).seven
  have HB := (((((((KB.hb.setCell (p := ⟨w.heap.size + 1, 0, none⟩) (by show _ ≤ w.heap.size + 1; omega) (.int .i64 0)).setCell (p := ⟨w.heap.size + 1, 1, none⟩) (by show _ ≤ w.heap.size + 1; omega) (.int .i64 0)).setCell (p := ⟨w.heap.size + 1, 2, none⟩) (by show _ ≤ w.heap.size + 1; omega) (.int .i64 0)).setCell (p := ⟨w.heap.size + 1, 3, none⟩) (by show _ ≤ w.heap.size + 1; omega) (.int .i64 0)).setCell (p := ⟨w.heap.size + 1, 4, none⟩) (by show _ ≤ w.heap.size + 1; omega) (.int .i64 0)).setCell (p := ⟨w.heap.size + 1, 5, none⟩) (by show _ ≤ w.heap.size + 1; omega) (.int .i64 0)).setCell (p := ⟨w.heap.size + 1, 6, none⟩) (by show _ ≤ w.heap.size + 1; omega) (.int .i64 0))
  exact bodyPost_ret (v := .tuple #[.agg #[.int .i64 0, .int .i64 0, .int .i64 0, .int .i64 0, .int .i64 0, .int .i64 0, .int .i64 0], .int .i64 4]) (by simp [results, Tryz.results5, go_sem, P0, P1, P2, P3, P4, P5, P6]) rfl ⟨rfl, HB⟩
set_option maxRecDepth 100000 in
set_option maxHeartbeats 8000000 in
theorem roundX_none (y m d h i s n ic mo t0 t1 t2 t3 k d0 d1 d2 : Int) (RT : Hid (∀ W, Calls Tryz.prog 10 #[.agg #[.int .i64 (h), .int .i64 (i), .int .i64 (s), .int .i64 (n)], .int .i64 ic, .int .i64 mo] W (fun e w' => e = .returned (.tuple #[.agg #[.int .i64 (t0), .int .i64 (t1), .int .i64 (t2), .int .i64 (t3)], .int .i64 (k), .int .i64 0]) ∧ Below W.heap.size W w'))) (RI : Hid (∀ W, Calls Tryz.prog 11 #[.agg #[.int .i64 (y), .int .i64 (m), .int .i64 (d), .int .i64 (h), .int .i64 (i), .int .i64 (s), .int .i64 (n)]] W (fun e w' => e = .returned (.bool true) ∧ Below W.heap.size W w'))) (AD : Hid (∀ W, Calls Tryz.prog 12 #[.agg #[.int .i64 (y), .int .i64 (m), .int .i64 (d)], .int .i64 (k)] W (fun e w' => e = .returned (.tuple #[.agg #[.int .i64 (d0), .int .i64 (d1), .int .i64 (d2)], .int .i64 0]) ∧ Below W.heap.size W w'))) (RN : Hid (∀ W, Calls Tryz.prog 11 #[.agg #[.int .i64 (d0), .int .i64 (d1), .int .i64 (d2), .int .i64 (t0), .int .i64 (t1), .int .i64 (t2), .int .i64 (t3)]] W (fun e w' => e = .returned (.bool false) ∧ Below W.heap.size W w'))) (w : World) :
    Calls Tryz.prog 5 #[.agg #[.int .i64 (y), .int .i64 (m), .int .i64 (d), .int .i64 (h), .int .i64 (i), .int .i64 (s), .int .i64 (n)], .int .i64 ic, .int .i64 mo] w (RetXE w 0 0 0 0 0 0 0 4) := by
  go_enter Tryz.func5, Tryz.ntmps5
  go_upto_region 1 with (fail)
  have KB := (((BK.nil w).more7 (.int .i64 (y)) (.int .i64 (m)) (.int .i64 (d)) (.int .i64 (h)) (.int .i64 (i)) (.int .i64 (s)) (.int .i64 (n)) 27).more7 (.int .i64 0) (.int .i64 0) (.int .i64 0) (.int .i64 0) (.int .i64 0) (.int .i64 0) (.int .i64 0) 27)
  simp only [World.size_alloc] at KB
  generalize ((w.alloc (.cells #[.int .i64 (y), .int .i64 (m), .int .i64 (d), .int .i64 (h), .int .i64 (i), .int .i64 (s), .int .i64 (n)] 27)).alloc (.cells #[.int .i64 0, .int .i64 0, .int .i64 0, .int .i64 0, .int .i64 0, .int .i64 0, .int .i64 0] 27)) = w0 at *
  obtain ⟨_, q0a, q0b, q0c, q0d, q0e, q0f, q0g, _⟩ := (KB.tail.head).seven
  go_wp2_with fail
  clear q0a q0b q0c q0d q0e q0f q0g
  refine (RT.out _).mono ?_
  rintro e w1 ⟨rfl, k⟩
  replace KB := KB.below k
  clear k
  go_upto_region 2 with (fail)
  have ig0 : w1.heap.size ≠ w.heap.size + 1 := Nat.ne_of_gt (KB.head).lt
  have og0 := Ne.symm ig0
  have ig1 : w1.heap.size ≠ w.heap.size := Nat.ne_of_gt (KB.tail.head).lt
  have og1 := Ne.symm ig1
  replace KB := KB.more4 (.int .i64 (t0)) (.int .i64 (t1)) (.int .i64 (t2)) (.int .i64 (t3)) 25
  generalize w1.alloc (.cells #[.int .i64 (t0), .int .i64 (t1), .int .i64 (t2), .int .i64 (t3)] 25) = w2 at *
  generalize w1.heap.size = g at *
  obtain ⟨_, q0a, q0b, q0c, q0d, q0e, q0f, q0g, _⟩ := (KB.tail.tail.head).seven
  go_wp2_with fail
  clear q0a q0b q0c q0d q0e q0f q0g
  refine (RI.out _).mono ?_
  rintro e w3 ⟨rfl, k⟩
  replace KB := KB.below k
  clear k
  obtain ⟨_, q0a, q0b, q0c, q0d, q0e, q0f, q0g, _⟩ := (KB.tail.tail.head).seven
  go_wp2_with fail
  clear q0a q0b q0c q0d q0e q0f q0g
  refine (AD.out _).mono ?_
  rintro e w4 ⟨rfl, k⟩
  replace KB := KB.below k
  clear k
  go_upto_region 5 with (fail)
  have ip0 : w4.heap.size ≠ g := Nat.ne_of_gt (KB.head).lt
  have op0 := Ne.symm ip0
  have ip1 : w4.heap.size ≠ w.heap.size + 1 := Nat.ne_of_gt (KB.tail.head).lt
  have op1 := Ne.symm ip1
  have ip2 : w4.heap.size ≠ w.heap.size := Nat.ne_of_gt (KB.tail.tail.head).lt
  have op2 := Ne.symm ip2
  replace KB := KB.more3 (.int .i64 (d0)) (.int .i64 (d1)) (.int .i64 (d2)) 23
  generalize w4.alloc (.cells #[.int .i64 (d0), .int .i64 (d1), .int .i64 (d2)] 23) = w5 at *
  generalize w4.heap.size = p at *
  obtain ⟨_, q0a, q0b, q0c, _⟩ := (KB.head).three
  obtain ⟨_, q1a, q1b, q1c, q1d, _⟩ := (KB.tail.head).four
  go_upto_region 6 with (fail)
  clear q0a q0b q0c q1a q1b q1c q1d
  have iq'0 : w5.heap.size ≠ p := Nat.ne_of_gt (KB.head).lt
  have oq'0 := Ne.symm iq'0
  have iq'1 : w5.heap.size ≠ g := Nat.ne_of_gt (KB.tail.head).lt
  have oq'1 := Ne.symm iq'1
  have iq'2 : w5.heap.size ≠ w.heap.size + 1 := Nat.ne_of_gt (KB.tail.tail.head).lt
  have oq'2 := Ne.symm iq'2
  have iq'3 : w5.heap.size ≠ w.heap.size := Nat.ne_of_gt (KB.tail.tail.tail.head).lt
  have oq'3 := Ne.symm iq'3
  replace KB := KB.more7 (.int .i64 (d0)) (.int .i64 (d1)) (.int .i64 (d2)) (.int .i64 (t0)) (.int .i64 (t1)) (.int .i64 (t2)) (.int .i64 (t3)) 27
  generalize w5.alloc (.cells #[.int .i64 (d0), .int .i64 (d1), .int .i64 (d2), .int .i64 (t0), .int .i64 (t1), .int .i64 (t2), .int .i64 (t3)] 27) = w6 at *
  generalize w5.heap.size = q' at *
  obtain ⟨_, q0a, q0b, q0c, q0d, q0e, q0f, q0g, _⟩ := (KB.head).seven
  go_wp2_with fail
  clear q0a q0b q0c q0d q0e q0f q0g
  refine (RN.out _).mono ?_
  rintro e w7 ⟨rfl, k⟩
  replace KB := KB.below k
  clear k
  obtain ⟨_, ra, rb, rc, rd, re, rf, rg, fa, fb, fc, fd, fe, ff, fg⟩ := (KB.tail.tail.tail.head).seven
  go_wp2
  obtain ⟨_, P0, P1, P2, P3, P4, P5, P6, _⟩ := ((KB.tail.tail.tail.head).self7 (.int .i64 0) (.int .i64 0) (.int .i64 0) (.int .i64 0) (.int .i64 0) (.int .i64 0) (.int .i64 0)).seven
  have HB := (((((((KB.hb.setCell (p := ⟨w.heap.size + 1, 0, none⟩) (by show _ ≤ w.heap.size + 1; omega) (.int .i64 0)).setCell (p := ⟨w.heap.size + 1, 1, none⟩) (by show _ ≤ w.heap.size + 1; omega) (.int .i64 0)).setCell (p := ⟨w.heap.size + 1, 2, none⟩) (by show _ ≤ w.heap.size + 1; omega) (.int .i64 0)).setCell (p := ⟨w.heap.size + 1, 3, none⟩) (by show _ ≤ w.heap.size + 1; omega) (.int .i64 0)).setCell (p := ⟨w.heap.size + 1, 4, none⟩) (by show _ ≤ w.heap.size + 1; omega) (.int .i64 0)).setCell (p := ⟨w.heap.size + 1, 5, none⟩) (by show _ ≤ w.heap.size + 1; omega) (.int .i64 0)).setCell (p := ⟨w.heap.size + 1, 6, none⟩) (by show _ ≤ w.heap.size + 1; omega) (.int .i64 0))
  exact bodyPost_ret (v := .tuple #[.agg #[.int .i64 0, .int .i64 0, .int .i64 0, .int .i64 0, .int .i64 0, .int .i64 0, .int .i64 0], .int .i64 4]) (by simp [results, Tryz.results5, go_sem, P0, P1, P2, P3, P4, P5, P6]) rfl ⟨rfl, HB⟩
set_option maxRecDepth 100000 in
set_option maxHeartbeats 8000000 in
theorem roundX_yes (y m d h i s n ic mo t0 t1 t2 t3 k d0 d1 d2 : Int) (RT : Hid (∀ W, Calls Tryz.prog 10 #[.agg #[.int .i64 (h), .int .i64 (i), .int .i64 (s), .int .i64 (n)], .int .i64 ic, .int .i64 mo] W (fun e w' => e = .returned (.tuple #[.agg #[.int .i64 (t0), .int .i64 (t1), .int .i64 (t2), .int .i64 (t3)], .int .i64 (k), .int .i64 0]) ∧ Below W.heap.size W w'))) (RI : Hid (∀ W, Calls Tryz.prog 11 #[.agg #[.int .i64 (y), .int .i64 (m), .int .i64 (d), .int .i64 (h), .int .i64 (i), .int .i64 (s), .int .i64 (n)]] W (fun e w' => e = .returned (.bool true) ∧ Below W.heap.size W w'))) (AD : Hid (∀ W, Calls Tryz.prog 12 #[.agg #[.int .i64 (y), .int .i64 (m), .int .i64 (d)], .int .i64 (k)] W (fun e w' => e = .returned (.tuple #[.agg #[.int .i64 (d0), .int .i64 (d1), .int .i64 (d2)], .int .i64 0]) ∧ Below W.heap.size W w'))) (RN : Hid (∀ W, Calls Tryz.prog 11 #[.agg #[.int .i64 (d0), .int .i64 (d1), .int .i64 (d2), .int .i64 (t0), .int .i64 (t1), .int .i64 (t2), .int .i64 (t3)]] W (fun e w' => e = .returned (.bool true) ∧ Below W.heap.size W w'))) (w : World) :
    Calls Tryz.prog 5 #[.agg #[.int .i64 (y), .int .i64 (m), .int .i64 (d), .int .i64 (h), .int .i64 (i), .int .i64 (s), .int .i64 (n)], .int .i64 ic, .int .i64 mo] w (RetXE w d0 d1 d2 t0 t1 t2 t3 0) := by
  go_enter Tryz.func5, Tryz.ntmps5
  go_upto_region 1 with (fail)
  have KB := (((BK.nil w).more7 (.int .i64 (y)) (.int .i64 (m)) (.int .i64 (d)) (.int .i64 (h)) (.int .i64 (i)) (.int .i64 (s)) (.int .i64 (n)) 27).more7 (.int .i64 0) (.int .i64 0) (.int .i64 0) (.int .i64 0) (.int .i64 0) (.int .i64 0) (.int .i64 0) 27)
  simp only [World.size_alloc] at KB
  generalize ((w.alloc (.cells #[.int .i64 (y), .int .i64 (m), .int .i64 (d), .int .i64 (h), .int .i64 (i), .int .i64 (s), .int .i64 (n)] 27)).alloc (.cells #[.int .i64 0, .int .i64 0, .int .i64 0, .int .i64 0, .int .i64 0, .int .i64 0, .int .i64 0] 27)) = w0 at *
  obtain ⟨_, q0a, q0b, q0c, q0d, q0e, q0f, q0g, _⟩ := (KB.tail.head).seven
  go_wp2_with fail
  clear q0a q0b q0c q0d q0e q0f q0g
  refine (RT.out _).mono ?_
  rintro e w1 ⟨rfl, k⟩
  replace KB := KB.below k
  clear k
  go_upto_region 2 with (fail)
  have ig0 : w1.heap.size ≠ w.heap.size + 1 := Nat.ne_of_gt (KB.head).lt
  have og0 := Ne.symm ig0
  have ig1 : w1.heap.size ≠ w.heap.size := Nat.ne_of_gt (KB.tail.head).lt
  have og1 := Ne.symm ig1
  replace KB := KB.more4 (.int .i64 (t0)) (.int .i64 (t1)) (.int .i64 (t2)) (.int .i64 (t3)) 25
  generalize w1.alloc (.cells #[.int .i64 (t0), .int .i64 (t1), .int .i64 (t2), .int .i64 (t3)] 25) = w2 at *
  generalize w1.heap.size = g at *
  obtain ⟨_, q0a, q0b, q0c, q0d, q0e, q0f, q0g, _⟩ := (KB.tail.tail.head).seven
  go_wp2_with fail
  clear q0a q0b q0c q0d q0e q0f q0g
  refine (RI.out _).mono ?_
  rintro e w3 ⟨rfl, k⟩
  replace KB := KB.below k
  clear k
  obtain ⟨_, q0a, q0b, q0c, q0d, q0e, q0f, q0g, _⟩ := (KB.tail.tail.head).seven
  go_wp2_with fail
  clear q0a q0b q0c q0d q0e q0f q0g
  refine (AD.out _).mono ?_
  rintro e w4 ⟨rfl, k⟩
  replace KB := KB.below k
  clear k
  go_upto_region 5 with (fail)
  have ip0 : w4.heap.size ≠ g := Nat.ne_of_gt (KB.head).lt
  have op0 := Ne.symm ip0
  have ip1 : w4.heap.size ≠ w.heap.size + 1 := Nat.ne_of_gt (KB.tail.head).lt
  have op1 := Ne.symm ip1
  have ip2 : w4.heap.size ≠ w.heap.size := Nat.ne_of_gt (KB.tail.tail.head).lt
  have op2 := Ne.symm ip2
  replace KB := KB.more3 (.int .i64 (d0)) (.int .i64 (d1)) (.int .i64 (d2)) 23
  generalize w4.alloc (.cells #[.int .i64 (d0), .int .i64 (d1), .int .i64 (d2)] 23) = w5 at *
  generalize w4.heap.size = p at *
  obtain ⟨_, q0a, q0b, q0c, _⟩ := (KB.head).three
  obtain ⟨_, q1a, q1b, q1c, q1d, _⟩ := (KB.tail.head).four
  go_upto_region 6 with (fail)
  clear q0a q0b q0c q1a q1b q1c q1d
  have iq'0 : w5.heap.size ≠ p := Nat.ne_of_gt (KB.head).lt
  have oq'0 := Ne.symm iq'0
  have iq'1 : w5.heap.size ≠ g := Nat.ne_of_gt (KB.tail.head).lt
  have oq'1 := Ne.symm iq'1
  have iq'2 : w5.heap.size ≠ w.heap.size + 1 := Nat.ne_of_gt (KB.tail.tail.head).lt
  have oq'2 := Ne.symm iq'2
  have iq'3 : w5.heap.size ≠ w.heap.size := Nat.ne_of_gt (KB.tail.tail.tail.head).lt
  have oq'3 := Ne.symm iq'3
  replace KB := KB.more7 (.int .i64 (d0)) (.int .i64 (d1)) (.int .i64 (d2)) (.int .i64 (t0)) (.int .i64 (t1)) (.int .i64 (t2)) (.int .i64 (t3)) 27
  generalize w5.alloc (.cells #[.int .i64 (d0), .int .i64 (d1), .int .i64 (d2), .int .i64 (t0), .int .i64 (t1), .int .i64 (t2), .int .i64 (t3)] 27) = w6 at *
  generalize w5.heap.size = q' at *
  obtain ⟨_, q0a, q0b, q0c, q0d, q0e, q0f, q0g, _⟩ := (KB.head).seven
  go_wp2_with fail
  clear q0a q0b q0c q0d q0e q0f q0g
  refine (RN.out _).mono ?_
  rintro e w7 ⟨rfl, k⟩
  replace KB := KB.below k
  clear k
  obtain ⟨_, q0a, q0b, q0c, q0d, q0e, q0f, q0g, _⟩ := (KB.head).seven
  obtain ⟨_, ra, rb, rc, rd, re, rf, rg, fa, fb, fc, fd, fe, ff, fg⟩ := (KB.tail.tail.tail.head).seven
  go_wp2
  obtain ⟨_, P0, P1, P2, P3, P4, P5, P6, _⟩ := ((KB.tail.tail.tail.head).self7 (.int .i64 (d0)) (.int .i64 (d1)) (.int .i64 (d2)) (.int .i64 (t0)) (.int .i64 (t1)) (.int .i64 (t2)) (.int .i64 (t3))).seven
  have HB := (((((((KB.hb.setCell (p := ⟨w.heap.size + 1, 0, none⟩) (by show _ ≤ w.heap.size + 1; omega) (.int .i64 (d0))).setCell (p := ⟨w.heap.size + 1, 1, none⟩) (by show _ ≤ w.heap.size + 1; omega) (.int .i64 (d1))).setCell (p := ⟨w.heap.size + 1, 2, none⟩) (by show _ ≤ w.heap.size + 1; omega) (.int .i64 (d2))).setCell (p := ⟨w.heap.size + 1, 3, none⟩) (by show _ ≤ w.heap.size + 1; omega) (.int .i64 (t0))).setCell (p := ⟨w.heap.size + 1, 4, none⟩) (by show _ ≤ w.heap.size + 1; omega) (.int .i64 (t1))).setCell (p := ⟨w.heap.size + 1, 5, none⟩) (by show _ ≤ w.heap.size + 1; omega) (.int .i64 (t2))).setCell (p := ⟨w.heap.size + 1, 6, none⟩) (by show _ ≤ w.heap.size + 1; omega) (.int .i64 (t3)))
  exact bodyPost_ret (v := .tuple #[.agg #[.int .i64 (d0), .int .i64 (d1), .int .i64 (d2), .int .i64 (t0), .int .i64 (t1), .int .i64 (t2), .int .i64 (t3)], .int .i64 0]) (by simp [results, Tryz.results5, go_sem, P0, P1, P2, P3, P4, P5, P6]) rfl ⟨rfl, HB⟩
end Go.Proofs.YtlidicnbmfkghaaGreatDoor
