/- The document's answer of layer 7, out of what its calls answer. -/
import Derived.Test.YtlidicnbmfkghaaDoorDtime
import Derived.Test.YtlidicnbmfkghaaDoorGh
import Derived.Test.YtlidicnbmfkghaaDoorGc
import Derived.Test.YtlidicnbmfkghaaDoorGzon
import Derived.Deep.RegionHeld3
namespace Go.Proofs.YtlidicnbmfkghaaDoor
open Go.RowKit

theorem BM.bk {w W : World} {L : List (Nat × List Value)} {M : List (Bool × Option Addr × Nat × Nat × Int)} (h : BM w L M W) : BK w L W := ⟨h.al, h.hb⟩
theorem BM.more7 {w W : World} {L : List (Nat × List Value)} {M : List (Bool × Option Addr × Nat × Nat × Int)} (h : BM w L M W) (a b c d e f g : Value) (t : TypeId) : BM w ((W.heap.size, [a, b, c, d, e, f, g]) :: L) M (W.alloc (.cells #[a, b, c, d, e, f, g] t)) := (h.below (below_box _ _)).cons (Blk.new7 _ _ _ _ _ _ _ _ _)
theorem BK.bm {w W : World} {L : List (Nat × List Value)} (h : BK w L W) : BM w L [] W := ⟨h.al, fun x hx => absurd hx (by simp), h.hb⟩
/-- What a call that answers a date-time and a bool leaves. -/
def RetXB (w : World) (y m d h i s n : Int) (ok : Bool) (e : Ending) (w' : World) : Prop := e = .returned (.tuple #[.agg #[.int .i64 y, .int .i64 m, .int .i64 d, .int .i64 h, .int .i64 i, .int .i64 s, .int .i64 n], .bool ok]) ∧ Below w.heap.size w w'
def RetXE (w : World) (y m d h i s n x : Int) (e : Ending) (w' : World) : Prop := e = .returned (.tuple #[.agg #[.int .i64 y, .int .i64 m, .int .i64 d, .int .i64 h, .int .i64 i, .int .i64 s, .int .i64 n], .int .i64 x]) ∧ Below w.heap.size w w'
set_option maxRecDepth 100000 in
set_option maxHeartbeats 8000000 in
theorem rightX_date (y m d h i s n N : Int) (DA : Hid (∀ W, Calls Tryd.prog 32 #[.agg #[.int .i64 (y), .int .i64 (m), .int .i64 (d)]] W (fun e w' => e = .returned (.tuple #[.int .i64 (N), .bool false]) ∧ Below W.heap.size W w'))) (w : World) :
    Calls Tryd.prog 9 #[.agg #[.int .i64 (y), .int .i64 (m), .int .i64 (d), .int .i64 (h), .int .i64 (i), .int .i64 (s), .int .i64 (n)]] w (RetV w (.bool false)) := by
  go_enter Tryd.func9, Tryd.ntmps9
  go_upto_region 1 with (fail)
  have KB := ((BK.nil w).more7 (.int .i64 (y)) (.int .i64 (m)) (.int .i64 (d)) (.int .i64 (h)) (.int .i64 (i)) (.int .i64 (s)) (.int .i64 (n)) 27)
  generalize (w.alloc (.cells #[.int .i64 (y), .int .i64 (m), .int .i64 (d), .int .i64 (h), .int .i64 (i), .int .i64 (s), .int .i64 (n)] 27)) = w0 at *
  obtain ⟨_, q0a, q0b, q0c, q0d, q0e, q0f, q0g, _⟩ := (KB.head).seven
  go_wp2_with fail
  clear q0a q0b q0c q0d q0e q0f q0g
  refine (DA.out _).mono ?_
  rintro e w1 ⟨rfl, k⟩
  replace KB := KB.below k
  clear k
  have HB := KB.hb
  go_wp2
  go_ret
  exact ⟨rfl, HB⟩
set_option maxRecDepth 100000 in
set_option maxHeartbeats 8000000 in
theorem rightX_time (y m d h i s n N : Int) (DA : Hid (∀ W, Calls Tryd.prog 32 #[.agg #[.int .i64 (y), .int .i64 (m), .int .i64 (d)]] W (fun e w' => e = .returned (.tuple #[.int .i64 (N), .bool true]) ∧ Below W.heap.size W w'))) (RT : Hid (∀ W, Calls Tryd.prog 33 #[.agg #[.int .i64 (h), .int .i64 (i), .int .i64 (s), .int .i64 (n)]] W (fun e w' => e = .returned (.bool false) ∧ Below W.heap.size W w'))) (w : World) :
    Calls Tryd.prog 9 #[.agg #[.int .i64 (y), .int .i64 (m), .int .i64 (d), .int .i64 (h), .int .i64 (i), .int .i64 (s), .int .i64 (n)]] w (RetV w (.bool false)) := by
  go_enter Tryd.func9, Tryd.ntmps9
  go_upto_region 1 with (fail)
  have KB := ((BK.nil w).more7 (.int .i64 (y)) (.int .i64 (m)) (.int .i64 (d)) (.int .i64 (h)) (.int .i64 (i)) (.int .i64 (s)) (.int .i64 (n)) 27)
  generalize (w.alloc (.cells #[.int .i64 (y), .int .i64 (m), .int .i64 (d), .int .i64 (h), .int .i64 (i), .int .i64 (s), .int .i64 (n)] 27)) = w0 at *
  obtain ⟨_, q0a, q0b, q0c, q0d, q0e, q0f, q0g, _⟩ := (KB.head).seven
  go_wp2_with fail
  clear q0a q0b q0c q0d q0e q0f q0g
  refine (DA.out _).mono ?_
  rintro e w1 ⟨rfl, k⟩
  replace KB := KB.below k
  clear k
  obtain ⟨_, q0a, q0b, q0c, q0d, q0e, q0f, q0g, _⟩ := (KB.head).seven
  go_wp2_with fail
  clear q0a q0b q0c q0d q0e q0f q0g
  refine (RT.out _).mono ?_
  rintro e w2 ⟨rfl, k⟩
  replace KB := KB.below k
  clear k
  have HB := KB.hb
  go_wp2
  go_ret
  exact ⟨rfl, HB⟩
set_option maxRecDepth 100000 in
set_option maxHeartbeats 8000000 in
theorem rightX_yes (y m d h i s n N : Int) (hN : (N != -100000001) = true) (DA : Hid (∀ W, Calls Tryd.prog 32 #[.agg #[.int .i64 (y), .int .i64 (m), .int .i64 (d)]] W (fun e w' => e = .returned (.tuple #[.int .i64 (N), .bool true]) ∧ Below W.heap.size W w'))) (RT : Hid (∀ W, Calls Tryd.prog 33 #[.agg #[.int .i64 (h), .int .i64 (i), .int .i64 (s), .int .i64 (n)]] W (fun e w' => e = .returned (.bool true) ∧ Below W.heap.size W w'))) (w : World) :
    Calls Tryd.prog 9 #[.agg #[.int .i64 (y), .int .i64 (m), .int .i64 (d), .int .i64 (h), .int .i64 (i), .int .i64 (s), .int .i64 (n)]] w (RetV w (.bool true)) := by
  go_enter Tryd.func9, Tryd.ntmps9
  go_upto_region 1 with (fail)
  have KB := ((BK.nil w).more7 (.int .i64 (y)) (.int .i64 (m)) (.int .i64 (d)) (.int .i64 (h)) (.int .i64 (i)) (.int .i64 (s)) (.int .i64 (n)) 27)
  generalize (w.alloc (.cells #[.int .i64 (y), .int .i64 (m), .int .i64 (d), .int .i64 (h), .int .i64 (i), .int .i64 (s), .int .i64 (n)] 27)) = w0 at *
  obtain ⟨_, q0a, q0b, q0c, q0d, q0e, q0f, q0g, _⟩ := (KB.head).seven
  go_wp2_with fail
  clear q0a q0b q0c q0d q0e q0f q0g
  refine (DA.out _).mono ?_
  rintro e w1 ⟨rfl, k⟩
  replace KB := KB.below k
  clear k
  obtain ⟨_, q0a, q0b, q0c, q0d, q0e, q0f, q0g, _⟩ := (KB.head).seven
  go_wp2_with fail
  clear q0a q0b q0c q0d q0e q0f q0g
  refine (RT.out _).mono ?_
  rintro e w2 ⟨rfl, k⟩
  replace KB := KB.below k
  clear k
  obtain ⟨_, q0a, q0b, q0c, q0d, q0e, q0f, q0g, _⟩ := (KB.head).seven
  have HB := KB.hb
  go_wp2
  go_ret
  exact ⟨rfl, HB⟩
set_option maxRecDepth 100000 in
set_option maxHeartbeats 8000000 in
theorem rightX_first_h (y m d h i s n N : Int) (hN : (N != -100000001) = false) (hz : (h == 0) = false) (DA : Hid (∀ W, Calls Tryd.prog 32 #[.agg #[.int .i64 (y), .int .i64 (m), .int .i64 (d)]] W (fun e w' => e = .returned (.tuple #[.int .i64 (N), .bool true]) ∧ Below W.heap.size W w'))) (RT : Hid (∀ W, Calls Tryd.prog 33 #[.agg #[.int .i64 (h), .int .i64 (i), .int .i64 (s), .int .i64 (n)]] W (fun e w' => e = .returned (.bool true) ∧ Below W.heap.size W w'))) (w : World) :
    Calls Tryd.prog 9 #[.agg #[.int .i64 (y), .int .i64 (m), .int .i64 (d), .int .i64 (h), .int .i64 (i), .int .i64 (s), .int .i64 (n)]] w (RetV w (.bool true)) := by
  go_enter Tryd.func9, Tryd.ntmps9
  go_upto_region 1 with (fail)
  have KB := ((BK.nil w).more7 (.int .i64 (y)) (.int .i64 (m)) (.int .i64 (d)) (.int .i64 (h)) (.int .i64 (i)) (.int .i64 (s)) (.int .i64 (n)) 27)
  generalize (w.alloc (.cells #[.int .i64 (y), .int .i64 (m), .int .i64 (d), .int .i64 (h), .int .i64 (i), .int .i64 (s), .int .i64 (n)] 27)) = w0 at *
  obtain ⟨_, q0a, q0b, q0c, q0d, q0e, q0f, q0g, _⟩ := (KB.head).seven
  go_wp2_with fail
  clear q0a q0b q0c q0d q0e q0f q0g
  refine (DA.out _).mono ?_
  rintro e w1 ⟨rfl, k⟩
  replace KB := KB.below k
  clear k
  obtain ⟨_, q0a, q0b, q0c, q0d, q0e, q0f, q0g, _⟩ := (KB.head).seven
  go_wp2_with fail
  clear q0a q0b q0c q0d q0e q0f q0g
  refine (RT.out _).mono ?_
  rintro e w2 ⟨rfl, k⟩
  replace KB := KB.below k
  clear k
  obtain ⟨_, q0a, q0b, q0c, q0d, q0e, q0f, q0g, _⟩ := (KB.head).seven
  have HB := KB.hb
  go_wp2
  go_ret
  exact ⟨rfl, HB⟩
set_option maxRecDepth 100000 in
set_option maxHeartbeats 8000000 in
theorem rightX_first_i (y m d i s n N : Int) (hN : (N != -100000001) = false) (hz : (i == 0) = false) (DA : Hid (∀ W, Calls Tryd.prog 32 #[.agg #[.int .i64 (y), .int .i64 (m), .int .i64 (d)]] W (fun e w' => e = .returned (.tuple #[.int .i64 (N), .bool true]) ∧ Below W.heap.size W w'))) (RT : Hid (∀ W, Calls Tryd.prog 33 #[.agg #[.int .i64 (0), .int .i64 (i), .int .i64 (s), .int .i64 (n)]] W (fun e w' => e = .returned (.bool true) ∧ Below W.heap.size W w'))) (w : World) :
    Calls Tryd.prog 9 #[.agg #[.int .i64 (y), .int .i64 (m), .int .i64 (d), .int .i64 (0), .int .i64 (i), .int .i64 (s), .int .i64 (n)]] w (RetV w (.bool true)) := by
  go_enter Tryd.func9, Tryd.ntmps9
  go_upto_region 1 with (fail)
  have KB := ((BK.nil w).more7 (.int .i64 (y)) (.int .i64 (m)) (.int .i64 (d)) (.int .i64 (0)) (.int .i64 (i)) (.int .i64 (s)) (.int .i64 (n)) 27)
  generalize (w.alloc (.cells #[.int .i64 (y), .int .i64 (m), .int .i64 (d), .int .i64 (0), .int .i64 (i), .int .i64 (s), .int .i64 (n)] 27)) = w0 at *
  obtain ⟨_, q0a, q0b, q0c, q0d, q0e, q0f, q0g, _⟩ := (KB.head).seven
  go_wp2_with fail
  clear q0a q0b q0c q0d q0e q0f q0g
  refine (DA.out _).mono ?_
  rintro e w1 ⟨rfl, k⟩
  replace KB := KB.below k
  clear k
  obtain ⟨_, q0a, q0b, q0c, q0d, q0e, q0f, q0g, _⟩ := (KB.head).seven
  go_wp2_with fail
  clear q0a q0b q0c q0d q0e q0f q0g
  refine (RT.out _).mono ?_
  rintro e w2 ⟨rfl, k⟩
  replace KB := KB.below k
  clear k
  obtain ⟨_, q0a, q0b, q0c, q0d, q0e, q0f, q0g, _⟩ := (KB.head).seven
  have HB := KB.hb
  go_wp2
  go_ret
  exact ⟨rfl, HB⟩
set_option maxRecDepth 100000 in
set_option maxHeartbeats 8000000 in
theorem rightX_first_s (y m d s n N : Int) (hN : (N != -100000001) = false) (hz : (s == 0) = false) (DA : Hid (∀ W, Calls Tryd.prog 32 #[.agg #[.int .i64 (y), .int .i64 (m), .int .i64 (d)]] W (fun e w' => e = .returned (.tuple #[.int .i64 (N), .bool true]) ∧ Below W.heap.size W w'))) (RT : Hid (∀ W, Calls Tryd.prog 33 #[.agg #[.int .i64 (0), .int .i64 (0), .int .i64 (s), .int .i64 (n)]] W (fun e w' => e = .returned (.bool true) ∧ Below W.heap.size W w'))) (w : World) :
    Calls Tryd.prog 9 #[.agg #[.int .i64 (y), .int .i64 (m), .int .i64 (d), .int .i64 (0), .int .i64 (0), .int .i64 (s), .int .i64 (n)]] w (RetV w (.bool true)) := by
  go_enter Tryd.func9, Tryd.ntmps9
  go_upto_region 1 with (fail)
  have KB := ((BK.nil w).more7 (.int .i64 (y)) (.int .i64 (m)) (.int .i64 (d)) (.int .i64 (0)) (.int .i64 (0)) (.int .i64 (s)) (.int .i64 (n)) 27)
  generalize (w.alloc (.cells #[.int .i64 (y), .int .i64 (m), .int .i64 (d), .int .i64 (0), .int .i64 (0), .int .i64 (s), .int .i64 (n)] 27)) = w0 at *
  obtain ⟨_, q0a, q0b, q0c, q0d, q0e, q0f, q0g, _⟩ := (KB.head).seven
  go_wp2_with fail
  clear q0a q0b q0c q0d q0e q0f q0g
  refine (DA.out _).mono ?_
  rintro e w1 ⟨rfl, k⟩
  replace KB := KB.below k
  clear k
  obtain ⟨_, q0a, q0b, q0c, q0d, q0e, q0f, q0g, _⟩ := (KB.head).seven
  go_wp2_with fail
  clear q0a q0b q0c q0d q0e q0f q0g
  refine (RT.out _).mono ?_
  rintro e w2 ⟨rfl, k⟩
  replace KB := KB.below k
  clear k
  obtain ⟨_, q0a, q0b, q0c, q0d, q0e, q0f, q0g, _⟩ := (KB.head).seven
  have HB := KB.hb
  go_wp2
  go_ret
  exact ⟨rfl, HB⟩
set_option maxRecDepth 100000 in
set_option maxHeartbeats 8000000 in
theorem rightX_first_n (y m d n N : Int) (hN : (N != -100000001) = false) (hz : (n == 0) = false) (DA : Hid (∀ W, Calls Tryd.prog 32 #[.agg #[.int .i64 (y), .int .i64 (m), .int .i64 (d)]] W (fun e w' => e = .returned (.tuple #[.int .i64 (N), .bool true]) ∧ Below W.heap.size W w'))) (RT : Hid (∀ W, Calls Tryd.prog 33 #[.agg #[.int .i64 (0), .int .i64 (0), .int .i64 (0), .int .i64 (n)]] W (fun e w' => e = .returned (.bool true) ∧ Below W.heap.size W w'))) (w : World) :
    Calls Tryd.prog 9 #[.agg #[.int .i64 (y), .int .i64 (m), .int .i64 (d), .int .i64 (0), .int .i64 (0), .int .i64 (0), .int .i64 (n)]] w (RetV w (.bool true)) := by
  go_enter Tryd.func9, Tryd.ntmps9
  go_upto_region 1 with (fail)
  have KB := ((BK.nil w).more7 (.int .i64 (y)) (.int .i64 (m)) (.int .i64 (d)) (.int .i64 (0)) (.int .i64 (0)) (.int .i64 (0)) (.int .i64 (n)) 27)
  generalize (w.alloc (.cells #[.int .i64 (y), .int .i64 (m), .int .i64 (d), .int .i64 (0), .int .i64 (0), .int .i64 (0), .int .i64 (n)] 27)) = w0 at *
  obtain ⟨_, q0a, q0b, q0c, q0d, q0e, q0f, q0g, _⟩ := (KB.head).seven
  go_wp2_with fail
  clear q0a q0b q0c q0d q0e q0f q0g
  refine (DA.out _).mono ?_
  rintro e w1 ⟨rfl, k⟩
  replace KB := KB.below k
  clear k
  obtain ⟨_, q0a, q0b, q0c, q0d, q0e, q0f, q0g, _⟩ := (KB.head).seven
  go_wp2_with fail
  clear q0a q0b q0c q0d q0e q0f q0g
  refine (RT.out _).mono ?_
  rintro e w2 ⟨rfl, k⟩
  replace KB := KB.below k
  clear k
  obtain ⟨_, q0a, q0b, q0c, q0d, q0e, q0f, q0g, _⟩ := (KB.head).seven
  have HB := KB.hb
  go_wp2
  go_ret
  exact ⟨rfl, HB⟩
set_option maxRecDepth 100000 in
set_option maxHeartbeats 8000000 in
theorem rightX_none (y m d N : Int) (hN : (N != -100000001) = false) (DA : Hid (∀ W, Calls Tryd.prog 32 #[.agg #[.int .i64 (y), .int .i64 (m), .int .i64 (d)]] W (fun e w' => e = .returned (.tuple #[.int .i64 (N), .bool true]) ∧ Below W.heap.size W w'))) (RT : Hid (∀ W, Calls Tryd.prog 33 #[.agg #[.int .i64 (0), .int .i64 (0), .int .i64 (0), .int .i64 (0)]] W (fun e w' => e = .returned (.bool true) ∧ Below W.heap.size W w'))) (w : World) :
    Calls Tryd.prog 9 #[.agg #[.int .i64 (y), .int .i64 (m), .int .i64 (d), .int .i64 (0), .int .i64 (0), .int .i64 (0), .int .i64 (0)]] w (RetV w (.bool false)) := by
  go_enter Tryd.func9, Tryd.ntmps9
  go_upto_region 1 with (fail)
  have KB := ((BK.nil w).more7 (.int .i64 (y)) (.int .i64 (m)) (.int .i64 (d)) (.int .i64 (0)) (.int .i64 (0)) (.int .i64 (0)) (.int .i64 (0)) 27)
  generalize (w.alloc (.cells #[.int .i64 (y), .int .i64 (m), .int .i64 (d), .int .i64 (0), .int .i64 (0), .int .i64 (0), .int .i64 (0)] 27)) = w0 at *
  obtain ⟨_, q0a, q0b, q0c, q0d, q0e, q0f, q0g, _⟩ := (KB.head).seven
  go_wp2_with fail
  clear q0a q0b q0c q0d q0e q0f q0g
  refine (DA.out _).mono ?_
  rintro e w1 ⟨rfl, k⟩
  replace KB := KB.below k
  clear k
  obtain ⟨_, q0a, q0b, q0c, q0d, q0e, q0f, q0g, _⟩ := (KB.head).seven
  go_wp2_with fail
  clear q0a q0b q0c q0d q0e q0f q0g
  refine (RT.out _).mono ?_
  rintro e w2 ⟨rfl, k⟩
  replace KB := KB.below k
  clear k
  obtain ⟨_, q0a, q0b, q0c, q0d, q0e, q0f, q0g, _⟩ := (KB.head).seven
  have HB := KB.hb
  go_wp2
  go_ret
  exact ⟨rfl, HB⟩
set_option maxRecDepth 100000 in
set_option maxHeartbeats 8000000 in
theorem nanosX_core (y m d h i s n N M P Q : Int) (DA : Hid (∀ W, Calls Tryd.prog 32 #[.agg #[.int .i64 (y), .int .i64 (m), .int .i64 (d)]] W (fun e w' => e = .returned (.tuple #[.int .i64 (N), .bool true]) ∧ Below W.heap.size W w'))) (ON : Hid (∀ W, Calls Tryd.prog 41 #[.int .i64 (N)] W (RetZ W (N)))) (sn : Hid ((N).natAbs < 65536 ^ 9)) (DY : Hid (∀ W, Calls Tryd.prog 35 #[] W (RetZ W (86400000000000)))) (sd : Hid (((86400000000000 : Int)).natAbs < 65536 ^ 9)) (MU : Hid (∀ (p q : Bool) (A B : Option Addr) (n m c d : Nat) (W : World), Zs W p A n c (N) → Zs W q B m d (86400000000000) → n ≤ 400000 → m ≤ 400000 → Calls Tryd.prog 40 #[.agg #[.bool p, .slice A n c], .agg #[.bool q, .slice B m d]] W (RetZ W (P)))) (sp : Hid ((P).natAbs < 65536 ^ 9)) (NA : Hid (∀ W, Calls Tryd.prog 45 #[.agg #[.int .i64 (h), .int .i64 (i), .int .i64 (s), .int .i64 (n)]] W (fun e w' => e = .returned (.int .i64 (M)) ∧ Below W.heap.size W w'))) (OM : Hid (∀ W, Calls Tryd.prog 41 #[.int .i64 (M)] W (RetZ W (M)))) (sm : Hid ((M).natAbs < 65536 ^ 9)) (AD : Hid (∀ (p q : Bool) (A B : Option Addr) (n m c d : Nat) (W : World), Zs W p A n c (P) → Zs W q B m d (M) → n ≤ 900000 → m ≤ 900000 → Calls Tryd.prog 39 #[.agg #[.bool p, .slice A n c], .agg #[.bool q, .slice B m d]] W (RetZ W (Q)))) (sq : Hid ((Q).natAbs < 65536 ^ 9)) (w : World) :
    Calls Tryd.prog 14 #[.agg #[.int .i64 (y), .int .i64 (m), .int .i64 (d), .int .i64 (h), .int .i64 (i), .int .i64 (s), .int .i64 (n)]] w (RetZ w (Q)) := by
  go_enter Tryd.func14, Tryd.ntmps14
  go_upto_region 1 with (fail)
  have KB := (((BK.nil w).more7 (.int .i64 (y)) (.int .i64 (m)) (.int .i64 (d)) (.int .i64 (h)) (.int .i64 (i)) (.int .i64 (s)) (.int .i64 (n)) 27).more2 (.bool false) (.slice none 0 0) 39)
  simp only [World.size_alloc] at KB
  generalize ((w.alloc (.cells #[.int .i64 (y), .int .i64 (m), .int .i64 (d), .int .i64 (h), .int .i64 (i), .int .i64 (s), .int .i64 (n)] 27)).alloc (.cells #[.bool false, .slice none 0 0] 39)) = w0 at *
  obtain ⟨_, q0a, q0b, q0c, q0d, q0e, q0f, q0g, _⟩ := (KB.tail.head).seven
  go_wp2_with fail
  clear q0a q0b q0c q0d q0e q0f q0g
  refine (DA.out _).mono ?_
  rintro e w1 ⟨rfl, k⟩
  replace KB := KB.below k
  clear k
  go_upto_region 2 with (fail)
  obtain ⟨_, j0a, j0b, j0c, j0d, j0e, j0f, j0g, _⟩ := (KB.tail.head).seven
  obtain ⟨_, j1a, j1b, j1za, j1zb⟩ := (KB.head).two
  go_region_held3 (fun w' => w'.cell? ⟨w.heap.size, 0, none⟩ = some (.int .i64 (y)) ∧ w'.cell? ⟨w.heap.size, 1, none⟩ = some (.int .i64 (m)) ∧ w'.cell? ⟨w.heap.size, 2, none⟩ = some (.int .i64 (d)) ∧ w'.cell? ⟨w.heap.size, 3, none⟩ = some (.int .i64 (h)) ∧ w'.cell? ⟨w.heap.size, 4, none⟩ = some (.int .i64 (i)) ∧ w'.cell? ⟨w.heap.size, 5, none⟩ = some (.int .i64 (s)) ∧ w'.cell? ⟨w.heap.size, 6, none⟩ = some (.int .i64 (n))) (first | (with_reducible exact ⟨(KB.tail.head).seven.2.1, (KB.tail.head).seven.2.2.1, (KB.tail.head).seven.2.2.2.1, (KB.tail.head).seven.2.2.2.2.1, (KB.tail.head).seven.2.2.2.2.2.1, (KB.tail.head).seven.2.2.2.2.2.2.1, (KB.tail.head).seven.2.2.2.2.2.2.2.1⟩) | (with_reducible exact ⟨(KB.drew.tail.head).seven.2.1, (KB.drew.tail.head).seven.2.2.1, (KB.drew.tail.head).seven.2.2.2.1, (KB.drew.tail.head).seven.2.2.2.2.1, (KB.drew.tail.head).seven.2.2.2.2.2.1, (KB.drew.tail.head).seven.2.2.2.2.2.2.1, (KB.drew.tail.head).seven.2.2.2.2.2.2.2.1⟩) | go_keep)
    (first
      | (go_at_call 45; (with_reducible refine (NA.out _).mono ?_); rintro e W9 ⟨rfl, k⟩
         with_reducible (first | replace z7 := z7.below k | replace z7 := (z7.below (below_box _ _)).below k | replace z7 := z7.drew.below k | replace z7 := (z7.below (below_box _ _)).drew.below k)
         with_reducible (first | replace KB := KB.below k | replace KB := KB.drew.below k)
         clear k
         obtain ⟨_, k0a, k0b, k0c, k0d, k0e, k0f, k0g, _⟩ := (KB.tail.head).seven
         obtain ⟨_, k1a, k1b, k1za, k1zb⟩ := (KB.head).two)
      | (go_at_call 35; (with_reducible refine (DY.out _).mono ?_); rintro e W9 ⟨p6, A6, n6, c6, rfl, z6, k⟩
         have l6 := z6.small sd.out
         with_reducible (first | replace z5 := z5.below k | replace z5 := (z5.below (below_box _ _)).below k | replace z5 := z5.drew.below k | replace z5 := (z5.below (below_box _ _)).drew.below k)
         with_reducible (first | replace KB := KB.below k | replace KB := KB.drew.below k)
         clear k
         obtain ⟨_, k0a, k0b, k0c, k0d, k0e, k0f, k0g, _⟩ := (KB.tail.head).seven
         obtain ⟨_, k1a, k1b, k1za, k1zb⟩ := (KB.head).two)
      | (go_at_call 40; (with_reducible refine (MU.out p5 p6 A5 A6 n5 n6 c5 c6 _ (by with_reducible first | exact z5 | exact (z5.below (below_box _ _)) | exact z5.drew | exact (z5.below (below_box _ _)).drew) (by with_reducible first | exact z6 | exact (z6.below (below_box _ _)) | exact z6.drew | exact (z6.below (below_box _ _)).drew) (by omega) (by omega)).mono ?_); rintro e W9 ⟨p7, A7, n7, c7, rfl, z7, k⟩
         have l7 := z7.small sp.out
         with_reducible (first | replace KB := KB.below k | replace KB := KB.drew.below k)
         clear k
         obtain ⟨_, k0a, k0b, k0c, k0d, k0e, k0f, k0g, _⟩ := (KB.tail.head).seven
         obtain ⟨_, k1a, k1b, k1za, k1zb⟩ := (KB.head).two)
      | (go_at_call 39; (with_reducible refine (AD.out p7 p8 A7 A8 n7 n8 c7 c8 _ (by with_reducible first | exact z7 | exact (z7.below (below_box _ _)) | exact z7.drew | exact (z7.below (below_box _ _)).drew) (by with_reducible first | exact z8 | exact (z8.below (below_box _ _)) | exact z8.drew | exact (z8.below (below_box _ _)).drew) (by omega) (by omega)).mono ?_); rintro e W9 ⟨p9, A9, n9, c9, rfl, z9, k⟩
         have l9 := z9.small sq.out
         with_reducible (first | replace KB := KB.below k | replace KB := KB.drew.below k)
         clear k
         obtain ⟨_, k0a, k0b, k0c, k0d, k0e, k0f, k0g, _⟩ := (KB.tail.head).seven
         obtain ⟨_, k1a, k1b, k1za, k1zb⟩ := (KB.head).two)
      | (go_at_call 41; (with_reducible refine (ON.out _).mono ?_); rintro e W9 ⟨p5, A5, n5, c5, rfl, z5, k⟩
         have l5 := z5.small sn.out
         with_reducible (first | replace KB := KB.below k | replace KB := KB.drew.below k)
         clear k
         obtain ⟨_, k0a, k0b, k0c, k0d, k0e, k0f, k0g, _⟩ := (KB.tail.head).seven
         obtain ⟨_, k1a, k1b, k1za, k1zb⟩ := (KB.head).two)
      | (go_at_call 41; (with_reducible refine (OM.out _).mono ?_); rintro e W9 ⟨p8, A8, n8, c8, rfl, z8, k⟩
         have l8 := z8.small sm.out
         with_reducible (first | replace z7 := z7.below k | replace z7 := (z7.below (below_box _ _)).below k | replace z7 := z7.drew.below k | replace z7 := (z7.below (below_box _ _)).drew.below k)
         with_reducible (first | replace KB := KB.below k | replace KB := KB.drew.below k)
         clear k
         obtain ⟨_, k0a, k0b, k0c, k0d, k0e, k0f, k0g, _⟩ := (KB.tail.head).seven
         obtain ⟨_, k1a, k1b, k1za, k1zb⟩ := (KB.head).two))
  all_goals
    obtain ⟨_, ra, rb, fa, fb⟩ := (KB.head).two
    go_wp2
    have P2 := ((KB.head).box).self2 p9 (.slice A9 n9 c9)
    have Z2 := (by with_reducible first | exact z9.set2 (KB.head).box.c0 p9 (.slice A9 n9 c9) | exact z9.drew.set2 (KB.head).box.c0 p9 (.slice A9 n9 c9))
    have HB := (KB.hb.setCell (p := ⟨w.heap.size + 1, 0, none⟩) (by show _ ≤ w.heap.size + 1; omega) (.bool p9)).setCell (p := ⟨w.heap.size + 1, 1, none⟩) (by show _ ≤ w.heap.size + 1; omega) (.slice A9 n9 c9)
    exact bodyPost_ret (v := .agg #[.bool p9, .slice A9 n9 c9]) (by simp [results, Tryd.results14, go_sem, P2.c0, P2.c1]) rfl ⟨p9, A9, n9, c9, rfl, Z2, HB⟩
set_option maxRecDepth 100000 in
set_option maxHeartbeats 8000000 in
theorem ofX_big (p : Bool) (A : Option Addr) (n' c : Nat) (x qq rr : Int) (sx : Hid ((x).natAbs < 65536 ^ 9)) (DY : Hid (∀ W, Calls Tryd.prog 35 #[] W (RetZ W (86400000000000)))) (sd : Hid (((86400000000000 : Int)).natAbs < 65536 ^ 9)) (DV : Hid (∀ (p q : Bool) (A B : Option Addr) (n m c d : Nat) (W : World), Zs W p A n c (x) → Zs W q B m d (86400000000000) → n ≤ 3000 → m ≤ 3000 → Calls Tryd.prog 34 #[.agg #[.bool p, .slice A n c], .agg #[.bool q, .slice B m d]] W (RetQR W (qq) (rr)))) (sq : Hid ((qq).natAbs < 65536 ^ 9)) (sr : Hid ((rr).natAbs < 65536 ^ 9)) (FQ : Hid (∀ (p : Bool) (A : Option Addr) (n c : Nat) (W : World), Zs W p A n c (qq) → n ≤ 900000 → Calls Tryd.prog 36 #[.agg #[.bool p, .slice A n c]] W (fun e w' => e = .returned (.tuple #[.int .i64 (0), .bool false]) ∧ Below W.heap.size W w'))) (w : World) (hz : Zs w p A n' c x) :
    Calls Tryd.prog 11 #[.agg #[.bool p, .slice A n' c]] w (RetXB w 0 0 0 0 0 0 0 false) := by
  go_enter Tryd.func11, Tryd.ntmps11
  go_upto_region 1 with (fail)
  have KM := (((BM.nil w).ncons hz).more2 (.bool p) (.slice A n' c) 39).more7 (.int .i64 0) (.int .i64 0) (.int .i64 0) (.int .i64 0) (.int .i64 0) (.int .i64 0) (.int .i64 0) 27
  simp only [World.size_alloc] at KM
  generalize (w.alloc (.cells #[.bool p, .slice A n' c] 39)).alloc (.cells #[.int .i64 0, .int .i64 0, .int .i64 0, .int .i64 0, .int .i64 0, .int .i64 0, .int .i64 0] 27) = w0 at *
  have lx := hz.small sx.out
  obtain ⟨lo, st, hlo⟩ := KM.preD (KM.tail.head).lt
  have la0 : w.heap.size + 1 ≤ lo := hlo (w.heap.size + 1, [.int .i64 0, .int .i64 0, .int .i64 0, .int .i64 0, .int .i64 0, .int .i64 0, .int .i64 0]) (by simp)
  have la1 : w.heap.size ≤ lo := hlo (w.heap.size, [.bool p, .slice A n' c]) (by simp)
  clear hlo
  go_cut [4, 5] (fun v4 v5 wx => DivCutD lo (BM w [(w.heap.size + 1, [.int .i64 0, .int .i64 0, .int .i64 0, .int .i64 0, .int .i64 0, .int .i64 0, .int .i64 0]), (w.heap.size, [.bool p, .slice A n' c])] [(p, A, n', c, x)]) (qq) (rr) v4 v5 wx)
  case first =>
    obtain ⟨_, j0a, j0b, _⟩ := (KM.tail.head).two
    clear KM
    have ⟨gp0, gq0⟩ := behindG st.lt la1
    go_region_held3 (fun w' => w'.cell? ⟨w.heap.size, 0, none⟩ = some (.bool p) ∧ w'.cell? ⟨w.heap.size, 1, none⟩ = some (.slice A n' c)) (first | (with_reducible exact ⟨(st.k.tail.head).two.2.1, (st.k.tail.head).two.2.2.1⟩) | (with_reducible exact ⟨(st.alloc1.k.tail.head).two.2.1, (st.alloc1.k.tail.head).two.2.2.1⟩) | (with_reducible exact ⟨(st.alloc2.k.tail.head).two.2.1, (st.alloc2.k.tail.head).two.2.2.1⟩) | (with_reducible exact ⟨(st.drew.k.tail.head).two.2.1, (st.drew.k.tail.head).two.2.2.1⟩) | (with_reducible exact ⟨(st.alloc1.drew.k.tail.head).two.2.1, (st.alloc1.drew.k.tail.head).two.2.2.1⟩) | (with_reducible exact ⟨(st.alloc2.drew.k.tail.head).two.2.1, (st.alloc2.drew.k.tail.head).two.2.2.1⟩) | go_keep)
      (first
        | (go_at_call 35; (with_reducible refine (DY.out _).mono ?_); rintro e x8 ⟨p8, A8, n8, c8, rfl, z8, k⟩
           have l8 := z8.small sd.out
           with_reducible (first | replace st := st.below k | replace st := st.alloc1.below k | replace st := st.alloc2.below k | replace st := st.drew.below k | replace st := st.alloc1.drew.below k | replace st := st.alloc2.drew.below k)
           clear k
           obtain ⟨_, k0a, k0b, _⟩ := (st.k.tail.head).two
           obtain ⟨gp0, gq0⟩ := behindG st.lt la1
           try obtain ⟨gr0, gs0⟩ := behindG (st.ge _ (List.mem_cons_self ..)) la1
           try obtain ⟨gt0, gu0⟩ := behindG (st.ge _ (List.mem_cons_of_mem _ (List.mem_cons_self ..))) la1
           try obtain ⟨_, y0, y1, y2, y3⟩ := st.al _ (List.mem_cons_self ..)
           try obtain ⟨_, y4, y5, y6, y7⟩ := st.al _ (List.mem_cons_of_mem _ (List.mem_cons_self ..)))
        | (go_at_call 34; (with_reducible refine (DV.out p p8 A A8 n' n8 c c8 _ (by with_reducible first | exact st.k.num | exact st.alloc1.k.num | exact st.alloc2.k.num | exact st.drew.k.num | exact st.alloc1.drew.k.num | exact st.alloc2.drew.k.num) (by with_reducible first | exact z8 | exact (z8.below (below_box _ _)) | exact z8.drew | exact (z8.below (below_box _ _)).drew | exact ((z8.below (below_box _ _)).below (below_box _ _)) | exact ((z8.below (below_box _ _)).below (below_box _ _)).drew) (by omega) (by omega)).mono ?_); rintro e x16 ⟨p16, A16, n16, c16, p17, A17, n17, c17, rfl, z16, z17, k⟩
           with_reducible (first | replace st := st.below k | replace st := st.alloc1.below k | replace st := st.alloc2.below k | replace st := st.drew.below k | replace st := st.alloc1.drew.below k | replace st := st.alloc2.drew.below k)
           clear k
           obtain ⟨_, k0a, k0b, _⟩ := (st.k.tail.head).two
           obtain ⟨gp0, gq0⟩ := behindG st.lt la1
           try obtain ⟨gr0, gs0⟩ := behindG (st.ge _ (List.mem_cons_self ..)) la1
           try obtain ⟨gt0, gu0⟩ := behindG (st.ge _ (List.mem_cons_of_mem _ (List.mem_cons_self ..))) la1
           try obtain ⟨_, y0, y1, y2, y3⟩ := st.al _ (List.mem_cons_self ..)
           try obtain ⟨_, y4, y5, y6, y7⟩ := st.al _ (List.mem_cons_of_mem _ (List.mem_cons_self ..))))
    all_goals
      go_wp2_with fail
      go_meet
      refine ⟨_, _, p16, A16, n16, c16, p17, A17, n17, c17, rfl, rfl, ?_⟩
      with_reducible first | exact st.fin1a z16 z17 | exact st.fin1b z16 z17 | exact st.fin2a z16 z17 | exact st.fin2b z16 z17 | exact st.fin3a z16 z17 | exact st.fin3b z16 z17
  case rest =>
  clear st
  obtain ⟨l, r, pl, Al, nl, cl, pr, Ar, nr, cr, rfl, rfl, s0⟩ := hcut
  have KM := (((s0.k.consBox s0.bq).consBox s0.br).ncons s0.zq).ncons s0.zr
  have ggl := s0.gg
  have ggr := s0.gh
  have nel := s0.ne
  have nl0 : l ≠ w.heap.size + 1 := by omega
  have nr0 : r ≠ w.heap.size + 1 := by omega
  have nl1 : l ≠ w.heap.size := by omega
  have nr1 : r ≠ w.heap.size := by omega
  clear s0
  have ll := (KM.nt.num).small sq.out
  have lr := (KM.num).small sr.out
  obtain ⟨_, qa, qb, _⟩ := (KM.tail.head).two
  go_wp2_with fail
  clear qa qb
  refine (FQ.out _ _ _ _ _ KM.nt.num (by omega)).mono ?_
  rintro e w3 ⟨rfl, k⟩
  replace KM := KM.below k
  clear k
  have KB := KM.bk
  clear KM
  obtain ⟨_, ra, rb, rc, rd, re, rf, rg, fa, fb, fc, fd, fe, ff, fg⟩ := (KB.tail.tail.head).seven
  go_wp2
  obtain ⟨_, P0, P1, P2, P3, P4, P5, P6, _⟩ := ((KB.tail.tail.head).self7 (.int .i64 0) (.int .i64 0) (.int .i64 0) (.int .i64 0) (.int .i64 0) (.int .i64 0) (.int .i64 0)).seven
  have HB := (((((((KB.hb.setCell (p := ⟨w.heap.size + 1, 0, none⟩) (by show _ ≤ w.heap.size + 1; omega) (.int .i64 0)).setCell (p := ⟨w.heap.size + 1, 1, none⟩) (by show _ ≤ w.heap.size + 1; omega) (.int .i64 0)).setCell (p := ⟨w.heap.size + 1, 2, none⟩) (by show _ ≤ w.heap.size + 1; omega) (.int .i64 0)).setCell (p := ⟨w.heap.size + 1, 3, none⟩) (by show _ ≤ w.heap.size + 1; omega) (.int .i64 0)).setCell (p := ⟨w.heap.size + 1, 4, none⟩) (by show _ ≤ w.heap.size + 1; omega) (.int .i64 0)).setCell (p := ⟨w.heap.size + 1, 5, none⟩) (by show _ ≤ w.heap.size + 1; omega) (.int .i64 0)).setCell (p := ⟨w.heap.size + 1, 6, none⟩) (by show _ ≤ w.heap.size + 1; omega) (.int .i64 0))
  exact bodyPost_ret (v := .tuple #[.agg #[.int .i64 0, .int .i64 0, .int .i64 0, .int .i64 0, .int .i64 0, .int .i64 0, .int .i64 0], .bool false]) (by simp [results, Tryd.results11, go_sem, P0, P1, P2, P3, P4, P5, P6]) rfl ⟨rfl, HB⟩
set_option maxRecDepth 100000 in
set_option maxHeartbeats 8000000 in
theorem ofX_less (p : Bool) (A : Option Addr) (n' c : Nat) (x qq rr : Int) (sx : Hid ((x).natAbs < 65536 ^ 9)) (DY : Hid (∀ W, Calls Tryd.prog 35 #[] W (RetZ W (86400000000000)))) (sd : Hid (((86400000000000 : Int)).natAbs < 65536 ^ 9)) (DV : Hid (∀ (p q : Bool) (A B : Option Addr) (n m c d : Nat) (W : World), Zs W p A n c (x) → Zs W q B m d (86400000000000) → n ≤ 3000 → m ≤ 3000 → Calls Tryd.prog 34 #[.agg #[.bool p, .slice A n c], .agg #[.bool q, .slice B m d]] W (RetQR W (qq) (rr)))) (sq : Hid ((qq).natAbs < 65536 ^ 9)) (sr : Hid ((rr).natAbs < 65536 ^ 9)) (h1 : qq < -200000000) (FQ : Hid (∀ (p : Bool) (A : Option Addr) (n c : Nat) (W : World), Zs W p A n c (qq) → n ≤ 900000 → Calls Tryd.prog 36 #[.agg #[.bool p, .slice A n c]] W (fun e w' => e = .returned (.tuple #[.int .i64 (qq), .bool true]) ∧ Below W.heap.size W w'))) (w : World) (hz : Zs w p A n' c x) :
    Calls Tryd.prog 11 #[.agg #[.bool p, .slice A n' c]] w (RetXB w 0 0 0 0 0 0 0 false) := by
  have d1 : decide (qq < -200000000) = true := decide_eq_true h1
  go_enter Tryd.func11, Tryd.ntmps11
  go_upto_region 1 with (fail)
  have KM := (((BM.nil w).ncons hz).more2 (.bool p) (.slice A n' c) 39).more7 (.int .i64 0) (.int .i64 0) (.int .i64 0) (.int .i64 0) (.int .i64 0) (.int .i64 0) (.int .i64 0) 27
  simp only [World.size_alloc] at KM
  generalize (w.alloc (.cells #[.bool p, .slice A n' c] 39)).alloc (.cells #[.int .i64 0, .int .i64 0, .int .i64 0, .int .i64 0, .int .i64 0, .int .i64 0, .int .i64 0] 27) = w0 at *
  have lx := hz.small sx.out
  obtain ⟨lo, st, hlo⟩ := KM.preD (KM.tail.head).lt
  have la0 : w.heap.size + 1 ≤ lo := hlo (w.heap.size + 1, [.int .i64 0, .int .i64 0, .int .i64 0, .int .i64 0, .int .i64 0, .int .i64 0, .int .i64 0]) (by simp)
  have la1 : w.heap.size ≤ lo := hlo (w.heap.size, [.bool p, .slice A n' c]) (by simp)
  clear hlo
  go_cut [4, 5] (fun v4 v5 wx => DivCutD lo (BM w [(w.heap.size + 1, [.int .i64 0, .int .i64 0, .int .i64 0, .int .i64 0, .int .i64 0, .int .i64 0, .int .i64 0]), (w.heap.size, [.bool p, .slice A n' c])] [(p, A, n', c, x)]) (qq) (rr) v4 v5 wx)
  case first =>
    obtain ⟨_, j0a, j0b, _⟩ := (KM.tail.head).two
    clear KM
    have ⟨gp0, gq0⟩ := behindG st.lt la1
    go_region_held3 (fun w' => w'.cell? ⟨w.heap.size, 0, none⟩ = some (.bool p) ∧ w'.cell? ⟨w.heap.size, 1, none⟩ = some (.slice A n' c)) (first | (with_reducible exact ⟨(st.k.tail.head).two.2.1, (st.k.tail.head).two.2.2.1⟩) | (with_reducible exact ⟨(st.alloc1.k.tail.head).two.2.1, (st.alloc1.k.tail.head).two.2.2.1⟩) | (with_reducible exact ⟨(st.alloc2.k.tail.head).two.2.1, (st.alloc2.k.tail.head).two.2.2.1⟩) | (with_reducible exact ⟨(st.drew.k.tail.head).two.2.1, (st.drew.k.tail.head).two.2.2.1⟩) | (with_reducible exact ⟨(st.alloc1.drew.k.tail.head).two.2.1, (st.alloc1.drew.k.tail.head).two.2.2.1⟩) | (with_reducible exact ⟨(st.alloc2.drew.k.tail.head).two.2.1, (st.alloc2.drew.k.tail.head).two.2.2.1⟩) | go_keep)
      (first
        | (go_at_call 35; (with_reducible refine (DY.out _).mono ?_); rintro e x8 ⟨p8, A8, n8, c8, rfl, z8, k⟩
           have l8 := z8.small sd.out
           with_reducible (first | replace st := st.below k | replace st := st.alloc1.below k | replace st := st.alloc2.below k | replace st := st.drew.below k | replace st := st.alloc1.drew.below k | replace st := st.alloc2.drew.below k)
           clear k
           obtain ⟨_, k0a, k0b, _⟩ := (st.k.tail.head).two
           obtain ⟨gp0, gq0⟩ := behindG st.lt la1
           try obtain ⟨gr0, gs0⟩ := behindG (st.ge _ (List.mem_cons_self ..)) la1
           try obtain ⟨gt0, gu0⟩ := behindG (st.ge _ (List.mem_cons_of_mem _ (List.mem_cons_self ..))) la1
           try obtain ⟨_, y0, y1, y2, y3⟩ := st.al _ (List.mem_cons_self ..)
           try obtain ⟨_, y4, y5, y6, y7⟩ := st.al _ (List.mem_cons_of_mem _ (List.mem_cons_self ..)))
        | (go_at_call 34; (with_reducible refine (DV.out p p8 A A8 n' n8 c c8 _ (by with_reducible first | exact st.k.num | exact st.alloc1.k.num | exact st.alloc2.k.num | exact st.drew.k.num | exact st.alloc1.drew.k.num | exact st.alloc2.drew.k.num) (by with_reducible first | exact z8 | exact (z8.below (below_box _ _)) | exact z8.drew | exact (z8.below (below_box _ _)).drew | exact ((z8.below (below_box _ _)).below (below_box _ _)) | exact ((z8.below (below_box _ _)).below (below_box _ _)).drew) (by omega) (by omega)).mono ?_); rintro e x16 ⟨p16, A16, n16, c16, p17, A17, n17, c17, rfl, z16, z17, k⟩
           with_reducible (first | replace st := st.below k | replace st := st.alloc1.below k | replace st := st.alloc2.below k | replace st := st.drew.below k | replace st := st.alloc1.drew.below k | replace st := st.alloc2.drew.below k)
           clear k
           obtain ⟨_, k0a, k0b, _⟩ := (st.k.tail.head).two
           obtain ⟨gp0, gq0⟩ := behindG st.lt la1
           try obtain ⟨gr0, gs0⟩ := behindG (st.ge _ (List.mem_cons_self ..)) la1
           try obtain ⟨gt0, gu0⟩ := behindG (st.ge _ (List.mem_cons_of_mem _ (List.mem_cons_self ..))) la1
           try obtain ⟨_, y0, y1, y2, y3⟩ := st.al _ (List.mem_cons_self ..)
           try obtain ⟨_, y4, y5, y6, y7⟩ := st.al _ (List.mem_cons_of_mem _ (List.mem_cons_self ..))))
    all_goals
      go_wp2_with fail
      go_meet
      refine ⟨_, _, p16, A16, n16, c16, p17, A17, n17, c17, rfl, rfl, ?_⟩
      with_reducible first | exact st.fin1a z16 z17 | exact st.fin1b z16 z17 | exact st.fin2a z16 z17 | exact st.fin2b z16 z17 | exact st.fin3a z16 z17 | exact st.fin3b z16 z17
  case rest =>
  clear st
  obtain ⟨l, r, pl, Al, nl, cl, pr, Ar, nr, cr, rfl, rfl, s0⟩ := hcut
  have KM := (((s0.k.consBox s0.bq).consBox s0.br).ncons s0.zq).ncons s0.zr
  have ggl := s0.gg
  have ggr := s0.gh
  have nel := s0.ne
  have nl0 : l ≠ w.heap.size + 1 := by omega
  have nr0 : r ≠ w.heap.size + 1 := by omega
  have nl1 : l ≠ w.heap.size := by omega
  have nr1 : r ≠ w.heap.size := by omega
  clear s0
  have ll := (KM.nt.num).small sq.out
  have lr := (KM.num).small sr.out
  obtain ⟨_, qa, qb, _⟩ := (KM.tail.head).two
  go_wp2_with fail
  clear qa qb
  refine (FQ.out _ _ _ _ _ KM.nt.num (by omega)).mono ?_
  rintro e w3 ⟨rfl, k⟩
  replace KM := KM.below k
  clear k
  have KB := KM.bk
  clear KM
  obtain ⟨_, ra, rb, rc, rd, re, rf, rg, fa, fb, fc, fd, fe, ff, fg⟩ := (KB.tail.tail.head).seven
  go_wp2
  obtain ⟨_, P0, P1, P2, P3, P4, P5, P6, _⟩ := ((KB.tail.tail.head).self7 (.int .i64 0) (.int .i64 0) (.int .i64 0) (.int .i64 0) (.int .i64 0) (.int .i64 0) (.int .i64 0)).seven
  have HB := (((((((KB.hb.setCell (p := ⟨w.heap.size + 1, 0, none⟩) (by show _ ≤ w.heap.size + 1; omega) (.int .i64 0)).setCell (p := ⟨w.heap.size + 1, 1, none⟩) (by show _ ≤ w.heap.size + 1; omega) (.int .i64 0)).setCell (p := ⟨w.heap.size + 1, 2, none⟩) (by show _ ≤ w.heap.size + 1; omega) (.int .i64 0)).setCell (p := ⟨w.heap.size + 1, 3, none⟩) (by show _ ≤ w.heap.size + 1; omega) (.int .i64 0)).setCell (p := ⟨w.heap.size + 1, 4, none⟩) (by show _ ≤ w.heap.size + 1; omega) (.int .i64 0)).setCell (p := ⟨w.heap.size + 1, 5, none⟩) (by show _ ≤ w.heap.size + 1; omega) (.int .i64 0)).setCell (p := ⟨w.heap.size + 1, 6, none⟩) (by show _ ≤ w.heap.size + 1; omega) (.int .i64 0))
  exact bodyPost_ret (v := .tuple #[.agg #[.int .i64 0, .int .i64 0, .int .i64 0, .int .i64 0, .int .i64 0, .int .i64 0, .int .i64 0], .bool false]) (by simp [results, Tryd.results11, go_sem, P0, P1, P2, P3, P4, P5, P6]) rfl ⟨rfl, HB⟩
set_option maxRecDepth 100000 in
set_option maxHeartbeats 8000000 in
theorem ofX_more (p : Bool) (A : Option Addr) (n' c : Nat) (x qq rr : Int) (sx : Hid ((x).natAbs < 65536 ^ 9)) (DY : Hid (∀ W, Calls Tryd.prog 35 #[] W (RetZ W (86400000000000)))) (sd : Hid (((86400000000000 : Int)).natAbs < 65536 ^ 9)) (DV : Hid (∀ (p q : Bool) (A B : Option Addr) (n m c d : Nat) (W : World), Zs W p A n c (x) → Zs W q B m d (86400000000000) → n ≤ 3000 → m ≤ 3000 → Calls Tryd.prog 34 #[.agg #[.bool p, .slice A n c], .agg #[.bool q, .slice B m d]] W (RetQR W (qq) (rr)))) (sq : Hid ((qq).natAbs < 65536 ^ 9)) (sr : Hid ((rr).natAbs < 65536 ^ 9)) (h1 : ¬ qq < -200000000) (h2 : 200000000 < qq) (FQ : Hid (∀ (p : Bool) (A : Option Addr) (n c : Nat) (W : World), Zs W p A n c (qq) → n ≤ 900000 → Calls Tryd.prog 36 #[.agg #[.bool p, .slice A n c]] W (fun e w' => e = .returned (.tuple #[.int .i64 (qq), .bool true]) ∧ Below W.heap.size W w'))) (w : World) (hz : Zs w p A n' c x) :
    Calls Tryd.prog 11 #[.agg #[.bool p, .slice A n' c]] w (RetXB w 0 0 0 0 0 0 0 false) := by
  have d1 : decide (qq < -200000000) = false := decide_eq_false h1
  have d2 : decide (200000000 < qq) = true := decide_eq_true h2
  go_enter Tryd.func11, Tryd.ntmps11
  go_upto_region 1 with (fail)
  have KM := (((BM.nil w).ncons hz).more2 (.bool p) (.slice A n' c) 39).more7 (.int .i64 0) (.int .i64 0) (.int .i64 0) (.int .i64 0) (.int .i64 0) (.int .i64 0) (.int .i64 0) 27
  simp only [World.size_alloc] at KM
  generalize (w.alloc (.cells #[.bool p, .slice A n' c] 39)).alloc (.cells #[.int .i64 0, .int .i64 0, .int .i64 0, .int .i64 0, .int .i64 0, .int .i64 0, .int .i64 0] 27) = w0 at *
  have lx := hz.small sx.out
  obtain ⟨lo, st, hlo⟩ := KM.preD (KM.tail.head).lt
  have la0 : w.heap.size + 1 ≤ lo := hlo (w.heap.size + 1, [.int .i64 0, .int .i64 0, .int .i64 0, .int .i64 0, .int .i64 0, .int .i64 0, .int .i64 0]) (by simp)
  have la1 : w.heap.size ≤ lo := hlo (w.heap.size, [.bool p, .slice A n' c]) (by simp)
  clear hlo
  go_cut [4, 5] (fun v4 v5 wx => DivCutD lo (BM w [(w.heap.size + 1, [.int .i64 0, .int .i64 0, .int .i64 0, .int .i64 0, .int .i64 0, .int .i64 0, .int .i64 0]), (w.heap.size, [.bool p, .slice A n' c])] [(p, A, n', c, x)]) (qq) (rr) v4 v5 wx)
  case first =>
    obtain ⟨_, j0a, j0b, _⟩ := (KM.tail.head).two
    clear KM
    have ⟨gp0, gq0⟩ := behindG st.lt la1
    go_region_held3 (fun w' => w'.cell? ⟨w.heap.size, 0, none⟩ = some (.bool p) ∧ w'.cell? ⟨w.heap.size, 1, none⟩ = some (.slice A n' c)) (first | (with_reducible exact ⟨(st.k.tail.head).two.2.1, (st.k.tail.head).two.2.2.1⟩) | (with_reducible exact ⟨(st.alloc1.k.tail.head).two.2.1, (st.alloc1.k.tail.head).two.2.2.1⟩) | (with_reducible exact ⟨(st.alloc2.k.tail.head).two.2.1, (st.alloc2.k.tail.head).two.2.2.1⟩) | (with_reducible exact ⟨(st.drew.k.tail.head).two.2.1, (st.drew.k.tail.head).two.2.2.1⟩) | (with_reducible exact ⟨(st.alloc1.drew.k.tail.head).two.2.1, (st.alloc1.drew.k.tail.head).two.2.2.1⟩) | (with_reducible exact ⟨(st.alloc2.drew.k.tail.head).two.2.1, (st.alloc2.drew.k.tail.head).two.2.2.1⟩) | go_keep)
      (first
        | (go_at_call 35; (with_reducible refine (DY.out _).mono ?_); rintro e x8 ⟨p8, A8, n8, c8, rfl, z8, k⟩
           have l8 := z8.small sd.out
           with_reducible (first | replace st := st.below k | replace st := st.alloc1.below k | replace st := st.alloc2.below k | replace st := st.drew.below k | replace st := st.alloc1.drew.below k | replace st := st.alloc2.drew.below k)
           clear k
           obtain ⟨_, k0a, k0b, _⟩ := (st.k.tail.head).two
           obtain ⟨gp0, gq0⟩ := behindG st.lt la1
           try obtain ⟨gr0, gs0⟩ := behindG (st.ge _ (List.mem_cons_self ..)) la1
           try obtain ⟨gt0, gu0⟩ := behindG (st.ge _ (List.mem_cons_of_mem _ (List.mem_cons_self ..))) la1
           try obtain ⟨_, y0, y1, y2, y3⟩ := st.al _ (List.mem_cons_self ..)
           try obtain ⟨_, y4, y5, y6, y7⟩ := st.al _ (List.mem_cons_of_mem _ (List.mem_cons_self ..)))
        | (go_at_call 34; (with_reducible refine (DV.out p p8 A A8 n' n8 c c8 _ (by with_reducible first | exact st.k.num | exact st.alloc1.k.num | exact st.alloc2.k.num | exact st.drew.k.num | exact st.alloc1.drew.k.num | exact st.alloc2.drew.k.num) (by with_reducible first | exact z8 | exact (z8.below (below_box _ _)) | exact z8.drew | exact (z8.below (below_box _ _)).drew | exact ((z8.below (below_box _ _)).below (below_box _ _)) | exact ((z8.below (below_box _ _)).below (below_box _ _)).drew) (by omega) (by omega)).mono ?_); rintro e x16 ⟨p16, A16, n16, c16, p17, A17, n17, c17, rfl, z16, z17, k⟩
           with_reducible (first | replace st := st.below k | replace st := st.alloc1.below k | replace st := st.alloc2.below k | replace st := st.drew.below k | replace st := st.alloc1.drew.below k | replace st := st.alloc2.drew.below k)
           clear k
           obtain ⟨_, k0a, k0b, _⟩ := (st.k.tail.head).two
           obtain ⟨gp0, gq0⟩ := behindG st.lt la1
           try obtain ⟨gr0, gs0⟩ := behindG (st.ge _ (List.mem_cons_self ..)) la1
           try obtain ⟨gt0, gu0⟩ := behindG (st.ge _ (List.mem_cons_of_mem _ (List.mem_cons_self ..))) la1
           try obtain ⟨_, y0, y1, y2, y3⟩ := st.al _ (List.mem_cons_self ..)
           try obtain ⟨_, y4, y5, y6, y7⟩ := st.al _ (List.mem_cons_of_mem _ (List.mem_cons_self ..))))
    all_goals
      go_wp2_with fail
      go_meet
      refine ⟨_, _, p16, A16, n16, c16, p17, A17, n17, c17, rfl, rfl, ?_⟩
      with_reducible first | exact st.fin1a z16 z17 | exact st.fin1b z16 z17 | exact st.fin2a z16 z17 | exact st.fin2b z16 z17 | exact st.fin3a z16 z17 | exact st.fin3b z16 z17
  case rest =>
  clear st
  obtain ⟨l, r, pl, Al, nl, cl, pr, Ar, nr, cr, rfl, rfl, s0⟩ := hcut
  have KM := (((s0.k.consBox s0.bq).consBox s0.br).ncons s0.zq).ncons s0.zr
  have ggl := s0.gg
  have ggr := s0.gh
  have nel := s0.ne
  have nl0 : l ≠ w.heap.size + 1 := by omega
  have nr0 : r ≠ w.heap.size + 1 := by omega
  have nl1 : l ≠ w.heap.size := by omega
  have nr1 : r ≠ w.heap.size := by omega
  clear s0
  have ll := (KM.nt.num).small sq.out
  have lr := (KM.num).small sr.out
  obtain ⟨_, qa, qb, _⟩ := (KM.tail.head).two
  go_wp2_with fail
  clear qa qb
  refine (FQ.out _ _ _ _ _ KM.nt.num (by omega)).mono ?_
  rintro e w3 ⟨rfl, k⟩
  replace KM := KM.below k
  clear k
  have KB := KM.bk
  clear KM
  obtain ⟨_, ra, rb, rc, rd, re, rf, rg, fa, fb, fc, fd, fe, ff, fg⟩ := (KB.tail.tail.head).seven
  go_wp2
  obtain ⟨_, P0, P1, P2, P3, P4, P5, P6, _⟩ := ((KB.tail.tail.head).self7 (.int .i64 0) (.int .i64 0) (.int .i64 0) (.int .i64 0) (.int .i64 0) (.int .i64 0) (.int .i64 0)).seven
  have HB := (((((((KB.hb.setCell (p := ⟨w.heap.size + 1, 0, none⟩) (by show _ ≤ w.heap.size + 1; omega) (.int .i64 0)).setCell (p := ⟨w.heap.size + 1, 1, none⟩) (by show _ ≤ w.heap.size + 1; omega) (.int .i64 0)).setCell (p := ⟨w.heap.size + 1, 2, none⟩) (by show _ ≤ w.heap.size + 1; omega) (.int .i64 0)).setCell (p := ⟨w.heap.size + 1, 3, none⟩) (by show _ ≤ w.heap.size + 1; omega) (.int .i64 0)).setCell (p := ⟨w.heap.size + 1, 4, none⟩) (by show _ ≤ w.heap.size + 1; omega) (.int .i64 0)).setCell (p := ⟨w.heap.size + 1, 5, none⟩) (by show _ ≤ w.heap.size + 1; omega) (.int .i64 0)).setCell (p := ⟨w.heap.size + 1, 6, none⟩) (by show _ ≤ w.heap.size + 1; omega) (.int .i64 0))
  exact bodyPost_ret (v := .tuple #[.agg #[.int .i64 0, .int .i64 0, .int .i64 0, .int .i64 0, .int .i64 0, .int .i64 0, .int .i64 0], .bool false]) (by simp [results, Tryd.results11, go_sem, P0, P1, P2, P3, P4, P5, P6]) rfl ⟨rfl, HB⟩
set_option maxRecDepth 100000 in
set_option maxHeartbeats 8000000 in
theorem ofX_none (p : Bool) (A : Option Addr) (n' c : Nat) (x qq rr d0 d1' d2' t0 t1 t2 t3 : Int) (sx : Hid ((x).natAbs < 65536 ^ 9)) (DY : Hid (∀ W, Calls Tryd.prog 35 #[] W (RetZ W (86400000000000)))) (sd : Hid (((86400000000000 : Int)).natAbs < 65536 ^ 9)) (DV : Hid (∀ (p q : Bool) (A B : Option Addr) (n m c d : Nat) (W : World), Zs W p A n c (x) → Zs W q B m d (86400000000000) → n ≤ 3000 → m ≤ 3000 → Calls Tryd.prog 34 #[.agg #[.bool p, .slice A n c], .agg #[.bool q, .slice B m d]] W (RetQR W (qq) (rr)))) (sq : Hid ((qq).natAbs < 65536 ^ 9)) (sr : Hid ((rr).natAbs < 65536 ^ 9)) (h1 : ¬ qq < -200000000) (h2 : ¬ 200000000 < qq) (FQ : Hid (∀ (p : Bool) (A : Option Addr) (n c : Nat) (W : World), Zs W p A n c (qq) → n ≤ 900000 → Calls Tryd.prog 36 #[.agg #[.bool p, .slice A n c]] W (fun e w' => e = .returned (.tuple #[.int .i64 (qq), .bool true]) ∧ Below W.heap.size W w'))) (OD : Hid (∀ W, Calls Tryd.prog 37 #[.int .i64 (qq)] W (fun e w' => e = .returned (.tuple #[.agg #[.int .i64 (d0), .int .i64 (d1'), .int .i64 (d2')], .bool false]) ∧ Below W.heap.size W w'))) (FR : Hid (∀ (p : Bool) (A : Option Addr) (n c : Nat) (W : World), Zs W p A n c (rr) → n ≤ 900000 → Calls Tryd.prog 36 #[.agg #[.bool p, .slice A n c]] W (fun e w' => e = .returned (.tuple #[.int .i64 (rr), .bool true]) ∧ Below W.heap.size W w'))) (TO : Hid (∀ W, Calls Tryd.prog 38 #[.int .i64 (rr)] W (fun e w' => e = .returned (.agg #[.int .i64 (t0), .int .i64 (t1), .int .i64 (t2), .int .i64 (t3)]) ∧ Below W.heap.size W w'))) (w : World) (hz : Zs w p A n' c x) :
    Calls Tryd.prog 11 #[.agg #[.bool p, .slice A n' c]] w (RetXB w 0 0 0 0 0 0 0 false) := by
  have d1 : decide (qq < -200000000) = false := decide_eq_false h1
  have d2 : decide (200000000 < qq) = false := decide_eq_false h2
  go_enter Tryd.func11, Tryd.ntmps11
  go_upto_region 1 with (fail)
  have KM := (((BM.nil w).ncons hz).more2 (.bool p) (.slice A n' c) 39).more7 (.int .i64 0) (.int .i64 0) (.int .i64 0) (.int .i64 0) (.int .i64 0) (.int .i64 0) (.int .i64 0) 27
  simp only [World.size_alloc] at KM
  generalize (w.alloc (.cells #[.bool p, .slice A n' c] 39)).alloc (.cells #[.int .i64 0, .int .i64 0, .int .i64 0, .int .i64 0, .int .i64 0, .int .i64 0, .int .i64 0] 27) = w0 at *
  have lx := hz.small sx.out
  obtain ⟨lo, st, hlo⟩ := KM.preD (KM.tail.head).lt
  have la0 : w.heap.size + 1 ≤ lo := hlo (w.heap.size + 1, [.int .i64 0, .int .i64 0, .int .i64 0, .int .i64 0, .int .i64 0, .int .i64 0, .int .i64 0]) (by simp)
  have la1 : w.heap.size ≤ lo := hlo (w.heap.size, [.bool p, .slice A n' c]) (by simp)
  clear hlo
  go_cut [4, 5] (fun v4 v5 wx => DivCutD lo (BM w [(w.heap.size + 1, [.int .i64 0, .int .i64 0, .int .i64 0, .int .i64 0, .int .i64 0, .int .i64 0, .int .i64 0]), (w.heap.size, [.bool p, .slice A n' c])] [(p, A, n', c, x)]) (qq) (rr) v4 v5 wx)
  case first =>
    obtain ⟨_, j0a, j0b, _⟩ := (KM.tail.head).two
    clear KM
    have ⟨gp0, gq0⟩ := behindG st.lt la1
    go_region_held3 (fun w' => w'.cell? ⟨w.heap.size, 0, none⟩ = some (.bool p) ∧ w'.cell? ⟨w.heap.size, 1, none⟩ = some (.slice A n' c)) (first | (with_reducible exact ⟨(st.k.tail.head).two.2.1, (st.k.tail.head).two.2.2.1⟩) | (with_reducible exact ⟨(st.alloc1.k.tail.head).two.2.1, (st.alloc1.k.tail.head).two.2.2.1⟩) | (with_reducible exact ⟨(st.alloc2.k.tail.head).two.2.1, (st.alloc2.k.tail.head).two.2.2.1⟩) | (with_reducible exact ⟨(st.drew.k.tail.head).two.2.1, (st.drew.k.tail.head).two.2.2.1⟩) | (with_reducible exact ⟨(st.alloc1.drew.k.tail.head).two.2.1, (st.alloc1.drew.k.tail.head).two.2.2.1⟩) | (with_reducible exact ⟨(st.alloc2.drew.k.tail.head).two.2.1, (st.alloc2.drew.k.tail.head).two.2.2.1⟩) | go_keep)
      (first
        | (go_at_call 35; (with_reducible refine (DY.out _).mono ?_); rintro e x8 ⟨p8, A8, n8, c8, rfl, z8, k⟩
           have l8 := z8.small sd.out
           with_reducible (first | replace st := st.below k | replace st := st.alloc1.below k | replace st := st.alloc2.below k | replace st := st.drew.below k | replace st := st.alloc1.drew.below k | replace st := st.alloc2.drew.below k)
           clear k
           obtain ⟨_, k0a, k0b, _⟩ := (st.k.tail.head).two
           obtain ⟨gp0, gq0⟩ := behindG st.lt la1
           try obtain ⟨gr0, gs0⟩ := behindG (st.ge _ (List.mem_cons_self ..)) la1
           try obtain ⟨gt0, gu0⟩ := behindG (st.ge _ (List.mem_cons_of_mem _ (List.mem_cons_self ..))) la1
           try obtain ⟨_, y0, y1, y2, y3⟩ := st.al _ (List.mem_cons_self ..)
           try obtain ⟨_, y4, y5, y6, y7⟩ := st.al _ (List.mem_cons_of_mem _ (List.mem_cons_self ..)))
        | (go_at_call 34; (with_reducible refine (DV.out p p8 A A8 n' n8 c c8 _ (by with_reducible first | exact st.k.num | exact st.alloc1.k.num | exact st.alloc2.k.num | exact st.drew.k.num | exact st.alloc1.drew.k.num | exact st.alloc2.drew.k.num) (by with_reducible first | exact z8 | exact (z8.below (below_box _ _)) | exact z8.drew | exact (z8.below (below_box _ _)).drew | exact ((z8.below (below_box _ _)).below (below_box _ _)) | exact ((z8.below (below_box _ _)).below (below_box _ _)).drew) (by omega) (by omega)).mono ?_); rintro e x16 ⟨p16, A16, n16, c16, p17, A17, n17, c17, rfl, z16, z17, k⟩
           with_reducible (first | replace st := st.below k | replace st := st.alloc1.below k | replace st := st.alloc2.below k | replace st := st.drew.below k | replace st := st.alloc1.drew.below k | replace st := st.alloc2.drew.below k)
           clear k
           obtain ⟨_, k0a, k0b, _⟩ := (st.k.tail.head).two
           obtain ⟨gp0, gq0⟩ := behindG st.lt la1
           try obtain ⟨gr0, gs0⟩ := behindG (st.ge _ (List.mem_cons_self ..)) la1
           try obtain ⟨gt0, gu0⟩ := behindG (st.ge _ (List.mem_cons_of_mem _ (List.mem_cons_self ..))) la1
           try obtain ⟨_, y0, y1, y2, y3⟩ := st.al _ (List.mem_cons_self ..)
           try obtain ⟨_, y4, y5, y6, y7⟩ := st.al _ (List.mem_cons_of_mem _ (List.mem_cons_self ..))))
    all_goals
      go_wp2_with fail
      go_meet
      refine ⟨_, _, p16, A16, n16, c16, p17, A17, n17, c17, rfl, rfl, ?_⟩
      with_reducible first | exact st.fin1a z16 z17 | exact st.fin1b z16 z17 | exact st.fin2a z16 z17 | exact st.fin2b z16 z17 | exact st.fin3a z16 z17 | exact st.fin3b z16 z17
  case rest =>
  clear st
  obtain ⟨l, r, pl, Al, nl, cl, pr, Ar, nr, cr, rfl, rfl, s0⟩ := hcut
  have KM := (((s0.k.consBox s0.bq).consBox s0.br).ncons s0.zq).ncons s0.zr
  have ggl := s0.gg
  have ggr := s0.gh
  have nel := s0.ne
  have nl0 : l ≠ w.heap.size + 1 := by omega
  have nr0 : r ≠ w.heap.size + 1 := by omega
  have nl1 : l ≠ w.heap.size := by omega
  have nr1 : r ≠ w.heap.size := by omega
  clear s0
  have ll := (KM.nt.num).small sq.out
  have lr := (KM.num).small sr.out
  obtain ⟨_, qa, qb, _⟩ := (KM.tail.head).two
  go_wp2_with fail
  clear qa qb
  refine (FQ.out _ _ _ _ _ KM.nt.num (by omega)).mono ?_
  rintro e w3 ⟨rfl, k⟩
  replace KM := KM.below k
  clear k
  go_wp2_with fail
  refine (OD.out _).mono ?_
  rintro e w4 ⟨rfl, k⟩
  replace KM := KM.below k
  clear k
  go_upto_region 6 with (fail)
  have ib0 : w4.heap.size ≠ r := Nat.ne_of_gt (KM.head).lt
  have ob0 := Ne.symm ib0
  have ib1 : w4.heap.size ≠ l := Nat.ne_of_gt (KM.tail.head).lt
  have ob1 := Ne.symm ib1
  have ib2 : w4.heap.size ≠ w.heap.size + 1 := Nat.ne_of_gt (KM.tail.tail.head).lt
  have ob2 := Ne.symm ib2
  have ib3 : w4.heap.size ≠ w.heap.size := Nat.ne_of_gt (KM.tail.tail.tail.head).lt
  have ob3 := Ne.symm ib3
  replace KM := KM.more3 (.int .i64 (d0)) (.int .i64 (d1')) (.int .i64 (d2')) 23
  generalize w4.alloc (.cells #[.int .i64 (d0), .int .i64 (d1'), .int .i64 (d2')] 23) = w5 at *
  generalize w4.heap.size = b at *
  obtain ⟨_, qa, qb, _⟩ := (KM.tail.head).two
  go_wp2_with fail
  clear qa qb
  refine (FR.out _ _ _ _ _ KM.num (by omega)).mono ?_
  rintro e w6 ⟨rfl, k⟩
  replace KM := KM.below k
  clear k
  have KB := KM.bk
  clear KM
  go_upto_region 7 with (fail)
  obtain ⟨lo, st, hlo⟩ := KB.preB (KB.tail.tail.tail.tail.head).lt [.int .i64 0, .int .i64 0, .int .i64 0, .int .i64 0, .int .i64 0, .int .i64 0, .int .i64 0]
  have la0 : b ≤ lo := hlo (b, [.int .i64 (d0), .int .i64 (d1'), .int .i64 (d2')]) (by simp)
  have la1 : r ≤ lo := hlo (r, [.bool pr, .slice Ar nr cr]) (by simp)
  have la2 : l ≤ lo := hlo (l, [.bool pl, .slice Al nl cl]) (by simp)
  have la3 : w.heap.size + 1 ≤ lo := hlo (w.heap.size + 1, [.int .i64 0, .int .i64 0, .int .i64 0, .int .i64 0, .int .i64 0, .int .i64 0, .int .i64 0]) (by simp)
  have la4 : w.heap.size ≤ lo := hlo (w.heap.size, [.bool p, .slice A n' c]) (by simp)
  clear hlo
  go_cut [12] (fun v12 wx => CutOneB lo (BK w [(b, [.int .i64 (d0), .int .i64 (d1'), .int .i64 (d2')]), (r, [.bool pr, .slice Ar nr cr]), (l, [.bool pl, .slice Al nl cl]), (w.heap.size + 1, [.int .i64 0, .int .i64 0, .int .i64 0, .int .i64 0, .int .i64 0, .int .i64 0, .int .i64 0]), (w.heap.size, [.bool p, .slice A n' c])]) [.int .i64 (d0), .int .i64 (d1'), .int .i64 (d2'), .int .i64 (t0), .int .i64 (t1), .int .i64 (t2), .int .i64 (t3)] v12 wx)
  case first =>
    obtain ⟨_, j0a, j0b, j0c, _⟩ := (KB.head).three
    clear KB
    have ⟨gp0, gq0⟩ := behindB st.lt la0
    have ⟨gp1, gq1⟩ := behindB st.lt la4
    go_region_held3 (fun w' => w'.cell? ⟨b, 0, none⟩ = some (.int .i64 (d0)) ∧ w'.cell? ⟨b, 1, none⟩ = some (.int .i64 (d1')) ∧ w'.cell? ⟨b, 2, none⟩ = some (.int .i64 (d2'))) (first | (with_reducible exact ⟨(st.k.head).three.2.1, (st.k.head).three.2.2.1, (st.k.head).three.2.2.2.1⟩) | (with_reducible exact ⟨((st.a7 _).k.head).three.2.1, ((st.a7 _).k.head).three.2.2.1, ((st.a7 _).k.head).three.2.2.2.1⟩) | (with_reducible exact ⟨(st.drew.k.head).three.2.1, (st.drew.k.head).three.2.2.1, (st.drew.k.head).three.2.2.2.1⟩) | (with_reducible exact ⟨((st.a7 _).drew.k.head).three.2.1, ((st.a7 _).drew.k.head).three.2.2.1, ((st.a7 _).drew.k.head).three.2.2.2.1⟩) | go_keep)
      (first
        | (go_at_call 38; (with_reducible refine (TO.out _).mono ?_); rintro e x ⟨rfl, k⟩
           with_reducible (first | replace st := st.below k | replace st := (st.a7 _).below k | replace st := st.drew.below k | replace st := (st.a7 _).drew.below k)
           clear k
           obtain ⟨_, k0a, k0b, k0c, _⟩ := (st.k.head).three
           obtain ⟨gp0, gq0⟩ := behindB st.lt la0
           try obtain ⟨gr0, gs0⟩ := behindB (st.ge _ (List.mem_cons_self ..)) la0
           obtain ⟨gp1, gq1⟩ := behindB st.lt la4
           try obtain ⟨gr1, gs1⟩ := behindB (st.ge _ (List.mem_cons_self ..)) la4
           try obtain ⟨_, ya, yb, yc, yd, ye, yf, yg, za, zb, zc, zd, ze, zf, zg⟩ := (st.al _ (List.mem_cons_self ..)).seven))
    all_goals
      go_wp2_with fail
      go_meet
      refine ⟨_, rfl, ?_⟩
      with_reducible first | exact st.p7 _ _ _ _ _ _ _  | exact st.q7 _ _ _ _ _ _ _ _
  case rest =>
  obtain ⟨v, rfl, s0⟩ := hcut
  clear st
  have KB := s0.k.cons s0.bg
  have ggv := s0.gg
  have iv0 : v ≠ b := by omega
  have ov0 := Ne.symm iv0
  have iv1 : v ≠ r := by omega
  have ov1 := Ne.symm iv1
  have iv2 : v ≠ l := by omega
  have ov2 := Ne.symm iv2
  have iv3 : v ≠ w.heap.size + 1 := by omega
  have ov3 := Ne.symm iv3
  have iv4 : v ≠ w.heap.size := by omega
  have ov4 := Ne.symm iv4
  clear s0 la0 la1 la2 la3 la4 ggv
  clear lo
  obtain ⟨_, ra, rb, rc, rd, re, rf, rg, fa, fb, fc, fd, fe, ff, fg⟩ := (KB.tail.tail.tail.tail.head).seven
  go_wp2
  obtain ⟨_, P0, P1, P2, P3, P4, P5, P6, _⟩ := ((KB.tail.tail.tail.tail.head).self7 (.int .i64 0) (.int .i64 0) (.int .i64 0) (.int .i64 0) (.int .i64 0) (.int .i64 0) (.int .i64 0)).seven
  have HB := (((((((KB.hb.setCell (p := ⟨w.heap.size + 1, 0, none⟩) (by show _ ≤ w.heap.size + 1; omega) (.int .i64 0)).setCell (p := ⟨w.heap.size + 1, 1, none⟩) (by show _ ≤ w.heap.size + 1; omega) (.int .i64 0)).setCell (p := ⟨w.heap.size + 1, 2, none⟩) (by show _ ≤ w.heap.size + 1; omega) (.int .i64 0)).setCell (p := ⟨w.heap.size + 1, 3, none⟩) (by show _ ≤ w.heap.size + 1; omega) (.int .i64 0)).setCell (p := ⟨w.heap.size + 1, 4, none⟩) (by show _ ≤ w.heap.size + 1; omega) (.int .i64 0)).setCell (p := ⟨w.heap.size + 1, 5, none⟩) (by show _ ≤ w.heap.size + 1; omega) (.int .i64 0)).setCell (p := ⟨w.heap.size + 1, 6, none⟩) (by show _ ≤ w.heap.size + 1; omega) (.int .i64 0))
  exact bodyPost_ret (v := .tuple #[.agg #[.int .i64 0, .int .i64 0, .int .i64 0, .int .i64 0, .int .i64 0, .int .i64 0, .int .i64 0], .bool false]) (by simp [results, Tryd.results11, go_sem, P0, P1, P2, P3, P4, P5, P6]) rfl ⟨rfl, HB⟩
set_option maxRecDepth 100000 in
set_option maxHeartbeats 8000000 in
theorem ofX_wrong (p : Bool) (A : Option Addr) (n' c : Nat) (x qq rr d0 d1' d2' t0 t1 t2 t3 : Int) (sx : Hid ((x).natAbs < 65536 ^ 9)) (DY : Hid (∀ W, Calls Tryd.prog 35 #[] W (RetZ W (86400000000000)))) (sd : Hid (((86400000000000 : Int)).natAbs < 65536 ^ 9)) (DV : Hid (∀ (p q : Bool) (A B : Option Addr) (n m c d : Nat) (W : World), Zs W p A n c (x) → Zs W q B m d (86400000000000) → n ≤ 3000 → m ≤ 3000 → Calls Tryd.prog 34 #[.agg #[.bool p, .slice A n c], .agg #[.bool q, .slice B m d]] W (RetQR W (qq) (rr)))) (sq : Hid ((qq).natAbs < 65536 ^ 9)) (sr : Hid ((rr).natAbs < 65536 ^ 9)) (h1 : ¬ qq < -200000000) (h2 : ¬ 200000000 < qq) (FQ : Hid (∀ (p : Bool) (A : Option Addr) (n c : Nat) (W : World), Zs W p A n c (qq) → n ≤ 900000 → Calls Tryd.prog 36 #[.agg #[.bool p, .slice A n c]] W (fun e w' => e = .returned (.tuple #[.int .i64 (qq), .bool true]) ∧ Below W.heap.size W w'))) (OD : Hid (∀ W, Calls Tryd.prog 37 #[.int .i64 (qq)] W (fun e w' => e = .returned (.tuple #[.agg #[.int .i64 (d0), .int .i64 (d1'), .int .i64 (d2')], .bool true]) ∧ Below W.heap.size W w'))) (FR : Hid (∀ (p : Bool) (A : Option Addr) (n c : Nat) (W : World), Zs W p A n c (rr) → n ≤ 900000 → Calls Tryd.prog 36 #[.agg #[.bool p, .slice A n c]] W (fun e w' => e = .returned (.tuple #[.int .i64 (rr), .bool true]) ∧ Below W.heap.size W w'))) (TO : Hid (∀ W, Calls Tryd.prog 38 #[.int .i64 (rr)] W (fun e w' => e = .returned (.agg #[.int .i64 (t0), .int .i64 (t1), .int .i64 (t2), .int .i64 (t3)]) ∧ Below W.heap.size W w'))) (RI : Hid (∀ W, Calls Tryd.prog 9 #[.agg #[.int .i64 (d0), .int .i64 (d1'), .int .i64 (d2'), .int .i64 (t0), .int .i64 (t1), .int .i64 (t2), .int .i64 (t3)]] W (fun e w' => e = .returned (.bool false) ∧ Below W.heap.size W w'))) (w : World) (hz : Zs w p A n' c x) :
    Calls Tryd.prog 11 #[.agg #[.bool p, .slice A n' c]] w (RetXB w 0 0 0 0 0 0 0 false) := by
  have d1 : decide (qq < -200000000) = false := decide_eq_false h1
  have d2 : decide (200000000 < qq) = false := decide_eq_false h2
  go_enter Tryd.func11, Tryd.ntmps11
  go_upto_region 1 with (fail)
  have KM := (((BM.nil w).ncons hz).more2 (.bool p) (.slice A n' c) 39).more7 (.int .i64 0) (.int .i64 0) (.int .i64 0) (.int .i64 0) (.int .i64 0) (.int .i64 0) (.int .i64 0) 27
  simp only [World.size_alloc] at KM
  generalize (w.alloc (.cells #[.bool p, .slice A n' c] 39)).alloc (.cells #[.int .i64 0, .int .i64 0, .int .i64 0, .int .i64 0, .int .i64 0, .int .i64 0, .int .i64 0] 27) = w0 at *
  have lx := hz.small sx.out
  obtain ⟨lo, st, hlo⟩ := KM.preD (KM.tail.head).lt
  have la0 : w.heap.size + 1 ≤ lo := hlo (w.heap.size + 1, [.int .i64 0, .int .i64 0, .int .i64 0, .int .i64 0, .int .i64 0, .int .i64 0, .int .i64 0]) (by simp)
  have la1 : w.heap.size ≤ lo := hlo (w.heap.size, [.bool p, .slice A n' c]) (by simp)
  clear hlo
  go_cut [4, 5] (fun v4 v5 wx => DivCutD lo (BM w [(w.heap.size + 1, [.int .i64 0, .int .i64 0, .int .i64 0, .int .i64 0, .int .i64 0, .int .i64 0, .int .i64 0]), (w.heap.size, [.bool p, .slice A n' c])] [(p, A, n', c, x)]) (qq) (rr) v4 v5 wx)
  case first =>
    obtain ⟨_, j0a, j0b, _⟩ := (KM.tail.head).two
    clear KM
    have ⟨gp0, gq0⟩ := behindG st.lt la1
    go_region_held3 (fun w' => w'.cell? ⟨w.heap.size, 0, none⟩ = some (.bool p) ∧ w'.cell? ⟨w.heap.size, 1, none⟩ = some (.slice A n' c)) (first | (with_reducible exact ⟨(st.k.tail.head).two.2.1, (st.k.tail.head).two.2.2.1⟩) | (with_reducible exact ⟨(st.alloc1.k.tail.head).two.2.1, (st.alloc1.k.tail.head).two.2.2.1⟩) | (with_reducible exact ⟨(st.alloc2.k.tail.head).two.2.1, (st.alloc2.k.tail.head).two.2.2.1⟩) | (with_reducible exact ⟨(st.drew.k.tail.head).two.2.1, (st.drew.k.tail.head).two.2.2.1⟩) | (with_reducible exact ⟨(st.alloc1.drew.k.tail.head).two.2.1, (st.alloc1.drew.k.tail.head).two.2.2.1⟩) | (with_reducible exact ⟨(st.alloc2.drew.k.tail.head).two.2.1, (st.alloc2.drew.k.tail.head).two.2.2.1⟩) | go_keep)
      (first
        | (go_at_call 35; (with_reducible refine (DY.out _).mono ?_); rintro e x8 ⟨p8, A8, n8, c8, rfl, z8, k⟩
           have l8 := z8.small sd.out
           with_reducible (first | replace st := st.below k | replace st := st.alloc1.below k | replace st := st.alloc2.below k | replace st := st.drew.below k | replace st := st.alloc1.drew.below k | replace st := st.alloc2.drew.below k)
           clear k
           obtain ⟨_, k0a, k0b, _⟩ := (st.k.tail.head).two
           obtain ⟨gp0, gq0⟩ := behindG st.lt la1
           try obtain ⟨gr0, gs0⟩ := behindG (st.ge _ (List.mem_cons_self ..)) la1
           try obtain ⟨gt0, gu0⟩ := behindG (st.ge _ (List.mem_cons_of_mem _ (List.mem_cons_self ..))) la1
           try obtain ⟨_, y0, y1, y2, y3⟩ := st.al _ (List.mem_cons_self ..)
           try obtain ⟨_, y4, y5, y6, y7⟩ := st.al _ (List.mem_cons_of_mem _ (List.mem_cons_self ..)))
        | (go_at_call 34; (with_reducible refine (DV.out p p8 A A8 n' n8 c c8 _ (by with_reducible first | exact st.k.num | exact st.alloc1.k.num | exact st.alloc2.k.num | exact st.drew.k.num | exact st.alloc1.drew.k.num | exact st.alloc2.drew.k.num) (by with_reducible first | exact z8 | exact (z8.below (below_box _ _)) | exact z8.drew | exact (z8.below (below_box _ _)).drew | exact ((z8.below (below_box _ _)).below (below_box _ _)) | exact ((z8.below (below_box _ _)).below (below_box _ _)).drew) (by omega) (by omega)).mono ?_); rintro e x16 ⟨p16, A16, n16, c16, p17, A17, n17, c17, rfl, z16, z17, k⟩
           with_reducible (first | replace st := st.below k | replace st := st.alloc1.below k | replace st := st.alloc2.below k | replace st := st.drew.below k | replace st := st.alloc1.drew.below k | replace st := st.alloc2.drew.below k)
           clear k
           obtain ⟨_, k0a, k0b, _⟩ := (st.k.tail.head).two
           obtain ⟨gp0, gq0⟩ := behindG st.lt la1
           try obtain ⟨gr0, gs0⟩ := behindG (st.ge _ (List.mem_cons_self ..)) la1
           try obtain ⟨gt0, gu0⟩ := behindG (st.ge _ (List.mem_cons_of_mem _ (List.mem_cons_self ..))) la1
           try obtain ⟨_, y0, y1, y2, y3⟩ := st.al _ (List.mem_cons_self ..)
           try obtain ⟨_, y4, y5, y6, y7⟩ := st.al _ (List.mem_cons_of_mem _ (List.mem_cons_self ..))))
    all_goals
      go_wp2_with fail
      go_meet
      refine ⟨_, _, p16, A16, n16, c16, p17, A17, n17, c17, rfl, rfl, ?_⟩
      with_reducible first | exact st.fin1a z16 z17 | exact st.fin1b z16 z17 | exact st.fin2a z16 z17 | exact st.fin2b z16 z17 | exact st.fin3a z16 z17 | exact st.fin3b z16 z17
  case rest =>
  clear st
  obtain ⟨l, r, pl, Al, nl, cl, pr, Ar, nr, cr, rfl, rfl, s0⟩ := hcut
  have KM := (((s0.k.consBox s0.bq).consBox s0.br).ncons s0.zq).ncons s0.zr
  have ggl := s0.gg
  have ggr := s0.gh
  have nel := s0.ne
  have nl0 : l ≠ w.heap.size + 1 := by omega
  have nr0 : r ≠ w.heap.size + 1 := by omega
  have nl1 : l ≠ w.heap.size := by omega
  have nr1 : r ≠ w.heap.size := by omega
  clear s0
  have ll := (KM.nt.num).small sq.out
  have lr := (KM.num).small sr.out
  obtain ⟨_, qa, qb, _⟩ := (KM.tail.head).two
  go_wp2_with fail
  clear qa qb
  refine (FQ.out _ _ _ _ _ KM.nt.num (by omega)).mono ?_
  rintro e w3 ⟨rfl, k⟩
  replace KM := KM.below k
  clear k
  go_wp2_with fail
  refine (OD.out _).mono ?_
  rintro e w4 ⟨rfl, k⟩
  replace KM := KM.below k
  clear k
  go_upto_region 6 with (fail)
  have ib0 : w4.heap.size ≠ r := Nat.ne_of_gt (KM.head).lt
  have ob0 := Ne.symm ib0
  have ib1 : w4.heap.size ≠ l := Nat.ne_of_gt (KM.tail.head).lt
  have ob1 := Ne.symm ib1
  have ib2 : w4.heap.size ≠ w.heap.size + 1 := Nat.ne_of_gt (KM.tail.tail.head).lt
  have ob2 := Ne.symm ib2
  have ib3 : w4.heap.size ≠ w.heap.size := Nat.ne_of_gt (KM.tail.tail.tail.head).lt
  have ob3 := Ne.symm ib3
  replace KM := KM.more3 (.int .i64 (d0)) (.int .i64 (d1')) (.int .i64 (d2')) 23
  generalize w4.alloc (.cells #[.int .i64 (d0), .int .i64 (d1'), .int .i64 (d2')] 23) = w5 at *
  generalize w4.heap.size = b at *
  obtain ⟨_, qa, qb, _⟩ := (KM.tail.head).two
  go_wp2_with fail
  clear qa qb
  refine (FR.out _ _ _ _ _ KM.num (by omega)).mono ?_
  rintro e w6 ⟨rfl, k⟩
  replace KM := KM.below k
  clear k
  have KB := KM.bk
  clear KM
  go_upto_region 7 with (fail)
  obtain ⟨lo, st, hlo⟩ := KB.preB (KB.tail.tail.tail.tail.head).lt [.int .i64 0, .int .i64 0, .int .i64 0, .int .i64 0, .int .i64 0, .int .i64 0, .int .i64 0]
  have la0 : b ≤ lo := hlo (b, [.int .i64 (d0), .int .i64 (d1'), .int .i64 (d2')]) (by simp)
  have la1 : r ≤ lo := hlo (r, [.bool pr, .slice Ar nr cr]) (by simp)
  have la2 : l ≤ lo := hlo (l, [.bool pl, .slice Al nl cl]) (by simp)
  have la3 : w.heap.size + 1 ≤ lo := hlo (w.heap.size + 1, [.int .i64 0, .int .i64 0, .int .i64 0, .int .i64 0, .int .i64 0, .int .i64 0, .int .i64 0]) (by simp)
  have la4 : w.heap.size ≤ lo := hlo (w.heap.size, [.bool p, .slice A n' c]) (by simp)
  clear hlo
  go_cut [12] (fun v12 wx => CutOneB lo (BK w [(b, [.int .i64 (d0), .int .i64 (d1'), .int .i64 (d2')]), (r, [.bool pr, .slice Ar nr cr]), (l, [.bool pl, .slice Al nl cl]), (w.heap.size + 1, [.int .i64 0, .int .i64 0, .int .i64 0, .int .i64 0, .int .i64 0, .int .i64 0, .int .i64 0]), (w.heap.size, [.bool p, .slice A n' c])]) [.int .i64 (d0), .int .i64 (d1'), .int .i64 (d2'), .int .i64 (t0), .int .i64 (t1), .int .i64 (t2), .int .i64 (t3)] v12 wx)
  case first =>
    obtain ⟨_, j0a, j0b, j0c, _⟩ := (KB.head).three
    clear KB
    have ⟨gp0, gq0⟩ := behindB st.lt la0
    have ⟨gp1, gq1⟩ := behindB st.lt la4
    go_region_held3 (fun w' => w'.cell? ⟨b, 0, none⟩ = some (.int .i64 (d0)) ∧ w'.cell? ⟨b, 1, none⟩ = some (.int .i64 (d1')) ∧ w'.cell? ⟨b, 2, none⟩ = some (.int .i64 (d2'))) (first | (with_reducible exact ⟨(st.k.head).three.2.1, (st.k.head).three.2.2.1, (st.k.head).three.2.2.2.1⟩) | (with_reducible exact ⟨((st.a7 _).k.head).three.2.1, ((st.a7 _).k.head).three.2.2.1, ((st.a7 _).k.head).three.2.2.2.1⟩) | (with_reducible exact ⟨(st.drew.k.head).three.2.1, (st.drew.k.head).three.2.2.1, (st.drew.k.head).three.2.2.2.1⟩) | (with_reducible exact ⟨((st.a7 _).drew.k.head).three.2.1, ((st.a7 _).drew.k.head).three.2.2.1, ((st.a7 _).drew.k.head).three.2.2.2.1⟩) | go_keep)
      (first
        | (go_at_call 38; (with_reducible refine (TO.out _).mono ?_); rintro e x ⟨rfl, k⟩
           with_reducible (first | replace st := st.below k | replace st := (st.a7 _).below k | replace st := st.drew.below k | replace st := (st.a7 _).drew.below k)
           clear k
           obtain ⟨_, k0a, k0b, k0c, _⟩ := (st.k.head).three
           obtain ⟨gp0, gq0⟩ := behindB st.lt la0
           try obtain ⟨gr0, gs0⟩ := behindB (st.ge _ (List.mem_cons_self ..)) la0
           obtain ⟨gp1, gq1⟩ := behindB st.lt la4
           try obtain ⟨gr1, gs1⟩ := behindB (st.ge _ (List.mem_cons_self ..)) la4
           try obtain ⟨_, ya, yb, yc, yd, ye, yf, yg, za, zb, zc, zd, ze, zf, zg⟩ := (st.al _ (List.mem_cons_self ..)).seven))
    all_goals
      go_wp2_with fail
      go_meet
      refine ⟨_, rfl, ?_⟩
      with_reducible first | exact st.p7 _ _ _ _ _ _ _  | exact st.q7 _ _ _ _ _ _ _ _
  case rest =>
  obtain ⟨v, rfl, s0⟩ := hcut
  clear st
  have KB := s0.k.cons s0.bg
  have ggv := s0.gg
  have iv0 : v ≠ b := by omega
  have ov0 := Ne.symm iv0
  have iv1 : v ≠ r := by omega
  have ov1 := Ne.symm iv1
  have iv2 : v ≠ l := by omega
  have ov2 := Ne.symm iv2
  have iv3 : v ≠ w.heap.size + 1 := by omega
  have ov3 := Ne.symm iv3
  have iv4 : v ≠ w.heap.size := by omega
  have ov4 := Ne.symm iv4
  clear s0 la0 la1 la2 la3 la4 ggv
  clear lo
  obtain ⟨_, q0a, q0b, q0c, q0d, q0e, q0f, q0g, _⟩ := (KB.head).seven
  go_wp2_with fail
  clear q0a q0b q0c q0d q0e q0f q0g
  refine (RI.out _).mono ?_
  rintro e w21 ⟨rfl, k⟩
  replace KB := KB.below k
  clear k
  obtain ⟨_, ra, rb, rc, rd, re, rf, rg, fa, fb, fc, fd, fe, ff, fg⟩ := (KB.tail.tail.tail.tail.head).seven
  go_wp2
  obtain ⟨_, P0, P1, P2, P3, P4, P5, P6, _⟩ := ((KB.tail.tail.tail.tail.head).self7 (.int .i64 0) (.int .i64 0) (.int .i64 0) (.int .i64 0) (.int .i64 0) (.int .i64 0) (.int .i64 0)).seven
  have HB := (((((((KB.hb.setCell (p := ⟨w.heap.size + 1, 0, none⟩) (by show _ ≤ w.heap.size + 1; omega) (.int .i64 0)).setCell (p := ⟨w.heap.size + 1, 1, none⟩) (by show _ ≤ w.heap.size + 1; omega) (.int .i64 0)).setCell (p := ⟨w.heap.size + 1, 2, none⟩) (by show _ ≤ w.heap.size + 1; omega) (.int .i64 0)).setCell (p := ⟨w.heap.size + 1, 3, none⟩) (by show _ ≤ w.heap.size + 1; omega) (.int .i64 0)).setCell (p := ⟨w.heap.size + 1, 4, none⟩) (by show _ ≤ w.heap.size + 1; omega) (.int .i64 0)).setCell (p := ⟨w.heap.size + 1, 5, none⟩) (by show _ ≤ w.heap.size + 1; omega) (.int .i64 0)).setCell (p := ⟨w.heap.size + 1, 6, none⟩) (by show _ ≤ w.heap.size + 1; omega) (.int .i64 0))
  exact bodyPost_ret (v := .tuple #[.agg #[.int .i64 0, .int .i64 0, .int .i64 0, .int .i64 0, .int .i64 0, .int .i64 0, .int .i64 0], .bool false]) (by simp [results, Tryd.results11, go_sem, P0, P1, P2, P3, P4, P5, P6]) rfl ⟨rfl, HB⟩
set_option maxRecDepth 100000 in
set_option maxHeartbeats 8000000 in
theorem ofX_yes (p : Bool) (A : Option Addr) (n' c : Nat) (x qq rr d0 d1' d2' t0 t1 t2 t3 : Int) (sx : Hid ((x).natAbs < 65536 ^ 9)) (DY : Hid (∀ W, Calls Tryd.prog 35 #[] W (RetZ W (86400000000000)))) (sd : Hid (((86400000000000 : Int)).natAbs < 65536 ^ 9)) (DV : Hid (∀ (p q : Bool) (A B : Option Addr) (n m c d : Nat) (W : World), Zs W p A n c (x) → Zs W q B m d (86400000000000) → n ≤ 3000 → m ≤ 3000 → Calls Tryd.prog 34 #[.agg #[.bool p, .slice A n c], .agg #[.bool q, .slice B m d]] W (RetQR W (qq) (rr)))) (sq : Hid ((qq).natAbs < 65536 ^ 9)) (sr : Hid ((rr).natAbs < 65536 ^ 9)) (h1 : ¬ qq < -200000000) (h2 : ¬ 200000000 < qq) (FQ : Hid (∀ (p : Bool) (A : Option Addr) (n c : Nat) (W : World), Zs W p A n c (qq) → n ≤ 900000 → Calls Tryd.prog 36 #[.agg #[.bool p, .slice A n c]] W (fun e w' => e = .returned (.tuple #[.int .i64 (qq), .bool true]) ∧ Below W.heap.size W w'))) (OD : Hid (∀ W, Calls Tryd.prog 37 #[.int .i64 (qq)] W (fun e w' => e = .returned (.tuple #[.agg #[.int .i64 (d0), .int .i64 (d1'), .int .i64 (d2')], .bool true]) ∧ Below W.heap.size W w'))) (FR : Hid (∀ (p : Bool) (A : Option Addr) (n c : Nat) (W : World), Zs W p A n c (rr) → n ≤ 900000 → Calls Tryd.prog 36 #[.agg #[.bool p, .slice A n c]] W (fun e w' => e = .returned (.tuple #[.int .i64 (rr), .bool true]) ∧ Below W.heap.size W w'))) (TO : Hid (∀ W, Calls Tryd.prog 38 #[.int .i64 (rr)] W (fun e w' => e = .returned (.agg #[.int .i64 (t0), .int .i64 (t1), .int .i64 (t2), .int .i64 (t3)]) ∧ Below W.heap.size W w'))) (RI : Hid (∀ W, Calls Tryd.prog 9 #[.agg #[.int .i64 (d0), .int .i64 (d1'), .int .i64 (d2'), .int .i64 (t0), .int .i64 (t1), .int .i64 (t2), .int .i64 (t3)]] W (fun e w' => e = .returned (.bool true) ∧ Below W.heap.size W w'))) (w : World) (hz : Zs w p A n' c x) :
    Calls Tryd.prog 11 #[.agg #[.bool p, .slice A n' c]] w (RetXB w d0 d1' d2' t0 t1 t2 t3 true) := by
  have d1 : decide (qq < -200000000) = false := decide_eq_false h1
  have d2 : decide (200000000 < qq) = false := decide_eq_false h2
  go_enter Tryd.func11, Tryd.ntmps11
  go_upto_region 1 with (fail)
  have KM := (((BM.nil w).ncons hz).more2 (.bool p) (.slice A n' c) 39).more7 (.int .i64 0) (.int .i64 0) (.int .i64 0) (.int .i64 0) (.int .i64 0) (.int .i64 0) (.int .i64 0) 27
  simp only [World.size_alloc] at KM
  generalize (w.alloc (.cells #[.bool p, .slice A n' c] 39)).alloc (.cells #[.int .i64 0, .int .i64 0, .int .i64 0, .int .i64 0, .int .i64 0, .int .i64 0, .int .i64 0] 27) = w0 at *
  have lx := hz.small sx.out
  obtain ⟨lo, st, hlo⟩ := KM.preD (KM.tail.head).lt
  have la0 : w.heap.size + 1 ≤ lo := hlo (w.heap.size + 1, [.int .i64 0, .int .i64 0, .int .i64 0, .int .i64 0, .int .i64 0, .int .i64 0, .int .i64 0]) (by simp)
  have la1 : w.heap.size ≤ lo := hlo (w.heap.size, [.bool p, .slice A n' c]) (by simp)
  clear hlo
  go_cut [4, 5] (fun v4 v5 wx => DivCutD lo (BM w [(w.heap.size + 1, [.int .i64 0, .int .i64 0, .int .i64 0, .int .i64 0, .int .i64 0, .int .i64 0, .int .i64 0]), (w.heap.size, [.bool p, .slice A n' c])] [(p, A, n', c, x)]) (qq) (rr) v4 v5 wx)
  case first =>
    obtain ⟨_, j0a, j0b, _⟩ := (KM.tail.head).two
    clear KM
    have ⟨gp0, gq0⟩ := behindG st.lt la1
    go_region_held3 (fun w' => w'.cell? ⟨w.heap.size, 0, none⟩ = some (.bool p) ∧ w'.cell? ⟨w.heap.size, 1, none⟩ = some (.slice A n' c)) (first | (with_reducible exact ⟨(st.k.tail.head).two.2.1, (st.k.tail.head).two.2.2.1⟩) | (with_reducible exact ⟨(st.alloc1.k.tail.head).two.2.1, (st.alloc1.k.tail.head).two.2.2.1⟩) | (with_reducible exact ⟨(st.alloc2.k.tail.head).two.2.1, (st.alloc2.k.tail.head).two.2.2.1⟩) | (with_reducible exact ⟨(st.drew.k.tail.head).two.2.1, (st.drew.k.tail.head).two.2.2.1⟩) | (with_reducible exact ⟨(st.alloc1.drew.k.tail.head).two.2.1, (st.alloc1.drew.k.tail.head).two.2.2.1⟩) | (with_reducible exact ⟨(st.alloc2.drew.k.tail.head).two.2.1, (st.alloc2.drew.k.tail.head).two.2.2.1⟩) | go_keep)
      (first
        | (go_at_call 35; (with_reducible refine (DY.out _).mono ?_); rintro e x8 ⟨p8, A8, n8, c8, rfl, z8, k⟩
           have l8 := z8.small sd.out
           with_reducible (first | replace st := st.below k | replace st := st.alloc1.below k | replace st := st.alloc2.below k | replace st := st.drew.below k | replace st := st.alloc1.drew.below k | replace st := st.alloc2.drew.below k)
           clear k
           obtain ⟨_, k0a, k0b, _⟩ := (st.k.tail.head).two
           obtain ⟨gp0, gq0⟩ := behindG st.lt la1
           try obtain ⟨gr0, gs0⟩ := behindG (st.ge _ (List.mem_cons_self ..)) la1
           try obtain ⟨gt0, gu0⟩ := behindG (st.ge _ (List.mem_cons_of_mem _ (List.mem_cons_self ..))) la1
           try obtain ⟨_, y0, y1, y2, y3⟩ := st.al _ (List.mem_cons_self ..)
           try obtain ⟨_, y4, y5, y6, y7⟩ := st.al _ (List.mem_cons_of_mem _ (List.mem_cons_self ..)))
        | (go_at_call 34; (with_reducible refine (DV.out p p8 A A8 n' n8 c c8 _ (by with_reducible first | exact st.k.num | exact st.alloc1.k.num | exact st.alloc2.k.num | exact st.drew.k.num | exact st.alloc1.drew.k.num | exact st.alloc2.drew.k.num) (by with_reducible first | exact z8 | exact (z8.below (below_box _ _)) | exact z8.drew | exact (z8.below (below_box _ _)).drew | exact ((z8.below (below_box _ _)).below (below_box _ _)) | exact ((z8.below (below_box _ _)).below (below_box _ _)).drew) (by omega) (by omega)).mono ?_); rintro e x16 ⟨p16, A16, n16, c16, p17, A17, n17, c17, rfl, z16, z17, k⟩
           with_reducible (first | replace st := st.below k | replace st := st.alloc1.below k | replace st := st.alloc2.below k | replace st := st.drew.below k | replace st := st.alloc1.drew.below k | replace st := st.alloc2.drew.below k)
           clear k
           obtain ⟨_, k0a, k0b, _⟩ := (st.k.tail.head).two
           obtain ⟨gp0, gq0⟩ := behindG st.lt la1
           try obtain ⟨gr0, gs0⟩ := behindG (st.ge _ (List.mem_cons_self ..)) la1
           try obtain ⟨gt0, gu0⟩ := behindG (st.ge _ (List.mem_cons_of_mem _ (List.mem_cons_self ..))) la1
           try obtain ⟨_, y0, y1, y2, y3⟩ := st.al _ (List.mem_cons_self ..)
           try obtain ⟨_, y4, y5, y6, y7⟩ := st.al _ (List.mem_cons_of_mem _ (List.mem_cons_self ..))))
    all_goals
      go_wp2_with fail
      go_meet
      refine ⟨_, _, p16, A16, n16, c16, p17, A17, n17, c17, rfl, rfl, ?_⟩
      with_reducible first | exact st.fin1a z16 z17 | exact st.fin1b z16 z17 | exact st.fin2a z16 z17 | exact st.fin2b z16 z17 | exact st.fin3a z16 z17 | exact st.fin3b z16 z17
  case rest =>
  clear st
  obtain ⟨l, r, pl, Al, nl, cl, pr, Ar, nr, cr, rfl, rfl, s0⟩ := hcut
  have KM := (((s0.k.consBox s0.bq).consBox s0.br).ncons s0.zq).ncons s0.zr
  have ggl := s0.gg
  have ggr := s0.gh
  have nel := s0.ne
  have nl0 : l ≠ w.heap.size + 1 := by omega
  have nr0 : r ≠ w.heap.size + 1 := by omega
  have nl1 : l ≠ w.heap.size := by omega
  have nr1 : r ≠ w.heap.size := by omega
  clear s0
  have ll := (KM.nt.num).small sq.out
  have lr := (KM.num).small sr.out
  obtain ⟨_, qa, qb, _⟩ := (KM.tail.head).two
  go_wp2_with fail
  clear qa qb
  refine (FQ.out _ _ _ _ _ KM.nt.num (by omega)).mono ?_
  rintro e w3 ⟨rfl, k⟩
  replace KM := KM.below k
  clear k
  go_wp2_with fail
  refine (OD.out _).mono ?_
  rintro e w4 ⟨rfl, k⟩
  replace KM := KM.below k
  clear k
  go_upto_region 6 with (fail)
  have ib0 : w4.heap.size ≠ r := Nat.ne_of_gt (KM.head).lt
  have ob0 := Ne.symm ib0
  have ib1 : w4.heap.size ≠ l := Nat.ne_of_gt (KM.tail.head).lt
  have ob1 := Ne.symm ib1
  have ib2 : w4.heap.size ≠ w.heap.size + 1 := Nat.ne_of_gt (KM.tail.tail.head).lt
  have ob2 := Ne.symm ib2
  have ib3 : w4.heap.size ≠ w.heap.size := Nat.ne_of_gt (KM.tail.tail.tail.head).lt
  have ob3 := Ne.symm ib3
  replace KM := KM.more3 (.int .i64 (d0)) (.int .i64 (d1')) (.int .i64 (d2')) 23
  generalize w4.alloc (.cells #[.int .i64 (d0), .int .i64 (d1'), .int .i64 (d2')] 23) = w5 at *
  generalize w4.heap.size = b at *
  obtain ⟨_, qa, qb, _⟩ := (KM.tail.head).two
  go_wp2_with fail
  clear qa qb
  refine (FR.out _ _ _ _ _ KM.num (by omega)).mono ?_
  rintro e w6 ⟨rfl, k⟩
  replace KM := KM.below k
  clear k
  have KB := KM.bk
  clear KM
  go_upto_region 7 with (fail)
  obtain ⟨lo, st, hlo⟩ := KB.preB (KB.tail.tail.tail.tail.head).lt [.int .i64 0, .int .i64 0, .int .i64 0, .int .i64 0, .int .i64 0, .int .i64 0, .int .i64 0]
  have la0 : b ≤ lo := hlo (b, [.int .i64 (d0), .int .i64 (d1'), .int .i64 (d2')]) (by simp)
  have la1 : r ≤ lo := hlo (r, [.bool pr, .slice Ar nr cr]) (by simp)
  have la2 : l ≤ lo := hlo (l, [.bool pl, .slice Al nl cl]) (by simp)
  have la3 : w.heap.size + 1 ≤ lo := hlo (w.heap.size + 1, [.int .i64 0, .int .i64 0, .int .i64 0, .int .i64 0, .int .i64 0, .int .i64 0, .int .i64 0]) (by simp)
  have la4 : w.heap.size ≤ lo := hlo (w.heap.size, [.bool p, .slice A n' c]) (by simp)
  clear hlo
  go_cut [12] (fun v12 wx => CutOneB lo (BK w [(b, [.int .i64 (d0), .int .i64 (d1'), .int .i64 (d2')]), (r, [.bool pr, .slice Ar nr cr]), (l, [.bool pl, .slice Al nl cl]), (w.heap.size + 1, [.int .i64 0, .int .i64 0, .int .i64 0, .int .i64 0, .int .i64 0, .int .i64 0, .int .i64 0]), (w.heap.size, [.bool p, .slice A n' c])]) [.int .i64 (d0), .int .i64 (d1'), .int .i64 (d2'), .int .i64 (t0), .int .i64 (t1), .int .i64 (t2), .int .i64 (t3)] v12 wx)
  case first =>
    obtain ⟨_, j0a, j0b, j0c, _⟩ := (KB.head).three
    clear KB
    have ⟨gp0, gq0⟩ := behindB st.lt la0
    have ⟨gp1, gq1⟩ := behindB st.lt la4
    go_region_held3 (fun w' => w'.cell? ⟨b, 0, none⟩ = some (.int .i64 (d0)) ∧ w'.cell? ⟨b, 1, none⟩ = some (.int .i64 (d1')) ∧ w'.cell? ⟨b, 2, none⟩ = some (.int .i64 (d2'))) (first | (with_reducible exact ⟨(st.k.head).three.2.1, (st.k.head).three.2.2.1, (st.k.head).three.2.2.2.1⟩) | (with_reducible exact ⟨((st.a7 _).k.head).three.2.1, ((st.a7 _).k.head).three.2.2.1, ((st.a7 _).k.head).three.2.2.2.1⟩) | (with_reducible exact ⟨(st.drew.k.head).three.2.1, (st.drew.k.head).three.2.2.1, (st.drew.k.head).three.2.2.2.1⟩) | (with_reducible exact ⟨((st.a7 _).drew.k.head).three.2.1, ((st.a7 _).drew.k.head).three.2.2.1, ((st.a7 _).drew.k.head).three.2.2.2.1⟩) | go_keep)
      (first
        | (go_at_call 38; (with_reducible refine (TO.out _).mono ?_); rintro e x ⟨rfl, k⟩
           with_reducible (first | replace st := st.below k | replace st := (st.a7 _).below k | replace st := st.drew.below k | replace st := (st.a7 _).drew.below k)
           clear k
           obtain ⟨_, k0a, k0b, k0c, _⟩ := (st.k.head).three
           obtain ⟨gp0, gq0⟩ := behindB st.lt la0
           try obtain ⟨gr0, gs0⟩ := behindB (st.ge _ (List.mem_cons_self ..)) la0
           obtain ⟨gp1, gq1⟩ := behindB st.lt la4
           try obtain ⟨gr1, gs1⟩ := behindB (st.ge _ (List.mem_cons_self ..)) la4
           try obtain ⟨_, ya, yb, yc, yd, ye, yf, yg, za, zb, zc, zd, ze, zf, zg⟩ := (st.al _ (List.mem_cons_self ..)).seven))
    all_goals
      go_wp2_with fail
      go_meet
      refine ⟨_, rfl, ?_⟩
      with_reducible first | exact st.p7 _ _ _ _ _ _ _  | exact st.q7 _ _ _ _ _ _ _ _
  case rest =>
  obtain ⟨v, rfl, s0⟩ := hcut
  clear st
  have KB := s0.k.cons s0.bg
  have ggv := s0.gg
  have iv0 : v ≠ b := by omega
  have ov0 := Ne.symm iv0
  have iv1 : v ≠ r := by omega
  have ov1 := Ne.symm iv1
  have iv2 : v ≠ l := by omega
  have ov2 := Ne.symm iv2
  have iv3 : v ≠ w.heap.size + 1 := by omega
  have ov3 := Ne.symm iv3
  have iv4 : v ≠ w.heap.size := by omega
  have ov4 := Ne.symm iv4
  clear s0 la0 la1 la2 la3 la4 ggv
  clear lo
  obtain ⟨_, q0a, q0b, q0c, q0d, q0e, q0f, q0g, _⟩ := (KB.head).seven
  go_wp2_with fail
  clear q0a q0b q0c q0d q0e q0f q0g
  refine (RI.out _).mono ?_
  rintro e w21 ⟨rfl, k⟩
  replace KB := KB.below k
  clear k
  obtain ⟨_, q0a, q0b, q0c, q0d, q0e, q0f, q0g, _⟩ := (KB.head).seven
  obtain ⟨_, ra, rb, rc, rd, re, rf, rg, fa, fb, fc, fd, fe, ff, fg⟩ := (KB.tail.tail.tail.tail.head).seven
  go_wp2
  obtain ⟨_, P0, P1, P2, P3, P4, P5, P6, _⟩ := ((KB.tail.tail.tail.tail.head).self7 (.int .i64 (d0)) (.int .i64 (d1')) (.int .i64 (d2')) (.int .i64 (t0)) (.int .i64 (t1)) (.int .i64 (t2)) (.int .i64 (t3))).seven
  have HB := (((((((KB.hb.setCell (p := ⟨w.heap.size + 1, 0, none⟩) (by show _ ≤ w.heap.size + 1; omega) (.int .i64 (d0))).setCell (p := ⟨w.heap.size + 1, 1, none⟩) (by show _ ≤ w.heap.size + 1; omega) (.int .i64 (d1'))).setCell (p := ⟨w.heap.size + 1, 2, none⟩) (by show _ ≤ w.heap.size + 1; omega) (.int .i64 (d2'))).setCell (p := ⟨w.heap.size + 1, 3, none⟩) (by show _ ≤ w.heap.size + 1; omega) (.int .i64 (t0))).setCell (p := ⟨w.heap.size + 1, 4, none⟩) (by show _ ≤ w.heap.size + 1; omega) (.int .i64 (t1))).setCell (p := ⟨w.heap.size + 1, 5, none⟩) (by show _ ≤ w.heap.size + 1; omega) (.int .i64 (t2))).setCell (p := ⟨w.heap.size + 1, 6, none⟩) (by show _ ≤ w.heap.size + 1; omega) (.int .i64 (t3)))
  exact bodyPost_ret (v := .tuple #[.agg #[.int .i64 (d0), .int .i64 (d1'), .int .i64 (d2'), .int .i64 (t0), .int .i64 (t1), .int .i64 (t2), .int .i64 (t3)], .bool true]) (by simp [results, Tryd.results11, go_sem, P0, P1, P2, P3, P4, P5, P6]) rfl ⟨rfl, HB⟩
set_option maxRecDepth 100000 in
set_option maxHeartbeats 8000000 in
theorem addX_arg (y m d h i s n a : Int) (RI : Hid (∀ W, Calls Tryd.prog 9 #[.agg #[.int .i64 (y), .int .i64 (m), .int .i64 (d), .int .i64 (h), .int .i64 (i), .int .i64 (s), .int .i64 (n)]] W (fun e w' => e = .returned (.bool false) ∧ Below W.heap.size W w'))) (w : World) :
    Calls Tryd.prog 18 #[.agg #[.int .i64 (y), .int .i64 (m), .int .i64 (d), .int .i64 (h), .int .i64 (i), .int .i64 (s), .int .i64 (n)], .agg #[.int .i64 (hiW a), .int .u64 (loW a)]] w (RetXE w 0 0 0 0 0 0 0 1) := by
  go_enter Tryd.func18, Tryd.ntmps18
  go_upto_region 1 with (fail)
  have KB := ((((BK.nil w).more7 (.int .i64 (y)) (.int .i64 (m)) (.int .i64 (d)) (.int .i64 (h)) (.int .i64 (i)) (.int .i64 (s)) (.int .i64 (n)) 27).more2 (.int .i64 (hiW a)) (.int .u64 (loW a)) 30).more7 (.int .i64 0) (.int .i64 0) (.int .i64 0) (.int .i64 0) (.int .i64 0) (.int .i64 0) (.int .i64 0) 27)
  simp only [World.size_alloc] at KB
  generalize (((w.alloc (.cells #[.int .i64 (y), .int .i64 (m), .int .i64 (d), .int .i64 (h), .int .i64 (i), .int .i64 (s), .int .i64 (n)] 27)).alloc (.cells #[.int .i64 (hiW a), .int .u64 (loW a)] 30)).alloc (.cells #[.int .i64 0, .int .i64 0, .int .i64 0, .int .i64 0, .int .i64 0, .int .i64 0, .int .i64 0] 27)) = w0 at *
  obtain ⟨_, q0a, q0b, q0c, q0d, q0e, q0f, q0g, _⟩ := (KB.tail.tail.head).seven
  go_wp2_with fail
  clear q0a q0b q0c q0d q0e q0f q0g
  refine (RI.out _).mono ?_
  rintro e w1 ⟨rfl, k⟩
  replace KB := KB.below k
  clear k
  obtain ⟨_, ra, rb, rc, rd, re, rf, rg, fa, fb, fc, fd, fe, ff, fg⟩ := (KB.head).seven
  go_wp2
  obtain ⟨_, P0, P1, P2, P3, P4, P5, P6, _⟩ := ((KB.head).self7 (.int .i64 0) (.int .i64 0) (.int .i64 0) (.int .i64 0) (.int .i64 0) (.int .i64 0) (.int .i64 0)).seven
  have HB := (((((((KB.hb.setCell (p := ⟨w.heap.size + 1 + 1, 0, none⟩) (by show _ ≤ w.heap.size + 1 + 1; omega) (.int .i64 0)).setCell (p := ⟨w.heap.size + 1 + 1, 1, none⟩) (by show _ ≤ w.heap.size + 1 + 1; omega) (.int .i64 0)).setCell (p := ⟨w.heap.size + 1 + 1, 2, none⟩) (by show _ ≤ w.heap.size + 1 + 1; omega) (.int .i64 0)).setCell (p := ⟨w.heap.size + 1 + 1, 3, none⟩) (by show _ ≤ w.heap.size + 1 + 1; omega) (.int .i64 0)).setCell (p := ⟨w.heap.size + 1 + 1, 4, none⟩) (by show _ ≤ w.heap.size + 1 + 1; omega) (.int .i64 0)).setCell (p := ⟨w.heap.size + 1 + 1, 5, none⟩) (by show _ ≤ w.heap.size + 1 + 1; omega) (.int .i64 0)).setCell (p := ⟨w.heap.size + 1 + 1, 6, none⟩) (by show _ ≤ w.heap.size + 1 + 1; omega) (.int .i64 0))
  exact bodyPost_ret (v := .tuple #[.agg #[.int .i64 0, .int .i64 0, .int .i64 0, .int .i64 0, .int .i64 0, .int .i64 0, .int .i64 0], .int .i64 1]) (by simp [results, Tryd.results18, go_sem, P0, P1, P2, P3, P4, P5, P6]) rfl ⟨rfl, HB⟩
set_option maxRecDepth 100000 in
set_option maxHeartbeats 8000000 in
theorem addX_none (y m d h i s n a N G : Int) (RI : Hid (∀ W, Calls Tryd.prog 9 #[.agg #[.int .i64 (y), .int .i64 (m), .int .i64 (d), .int .i64 (h), .int .i64 (i), .int .i64 (s), .int .i64 (n)]] W (fun e w' => e = .returned (.bool true) ∧ Below W.heap.size W w'))) (NX : Hid (∀ W, Calls Tryd.prog 14 #[.agg #[.int .i64 (y), .int .i64 (m), .int .i64 (d), .int .i64 (h), .int .i64 (i), .int .i64 (s), .int .i64 (n)]] W (RetZ W (N)))) (sn : Hid ((N).natAbs < 65536 ^ 9)) (OA : Hid (∀ W, Calls Tryd.prog 12 #[.agg #[.int .i64 (hiW a), .int .u64 (loW a)]] W (RetZ W (a)))) (sa : Hid ((a).natAbs < 65536 ^ 9)) (AD : Hid (∀ (p q : Bool) (A B : Option Addr) (n m c d : Nat) (W : World), Zs W p A n c (N) → Zs W q B m d (a) → n ≤ 900000 → m ≤ 900000 → Calls Tryd.prog 39 #[.agg #[.bool p, .slice A n c], .agg #[.bool q, .slice B m d]] W (RetZ W (G)))) (sg : Hid ((G).natAbs < 65536 ^ 9)) (OX : Hid (∀ (p : Bool) (A : Option Addr) (n c : Nat) (W : World), Zs W p A n c (G) → n ≤ 3000 → Calls Tryd.prog 11 #[.agg #[.bool p, .slice A n c]] W (fun e w' => e = .returned (.tuple #[.agg #[.int .i64 0, .int .i64 0, .int .i64 0, .int .i64 0, .int .i64 0, .int .i64 0, .int .i64 0], .bool false]) ∧ Below W.heap.size W w'))) (w : World) :
    Calls Tryd.prog 18 #[.agg #[.int .i64 (y), .int .i64 (m), .int .i64 (d), .int .i64 (h), .int .i64 (i), .int .i64 (s), .int .i64 (n)], .agg #[.int .i64 (hiW a), .int .u64 (loW a)]] w (RetXE w 0 0 0 0 0 0 0 4) := by
  go_enter Tryd.func18, Tryd.ntmps18
  go_upto_region 1 with (fail)
  have KB := ((((BK.nil w).more7 (.int .i64 (y)) (.int .i64 (m)) (.int .i64 (d)) (.int .i64 (h)) (.int .i64 (i)) (.int .i64 (s)) (.int .i64 (n)) 27).more2 (.int .i64 (hiW a)) (.int .u64 (loW a)) 30).more7 (.int .i64 0) (.int .i64 0) (.int .i64 0) (.int .i64 0) (.int .i64 0) (.int .i64 0) (.int .i64 0) 27)
  simp only [World.size_alloc] at KB
  generalize (((w.alloc (.cells #[.int .i64 (y), .int .i64 (m), .int .i64 (d), .int .i64 (h), .int .i64 (i), .int .i64 (s), .int .i64 (n)] 27)).alloc (.cells #[.int .i64 (hiW a), .int .u64 (loW a)] 30)).alloc (.cells #[.int .i64 0, .int .i64 0, .int .i64 0, .int .i64 0, .int .i64 0, .int .i64 0, .int .i64 0] 27)) = w0 at *
  obtain ⟨_, q0a, q0b, q0c, q0d, q0e, q0f, q0g, _⟩ := (KB.tail.tail.head).seven
  go_wp2_with fail
  clear q0a q0b q0c q0d q0e q0f q0g
  refine (RI.out _).mono ?_
  rintro e w1 ⟨rfl, k⟩
  replace KB := KB.below k
  clear k
  go_upto_region 3 with (fail)
  obtain ⟨lo, st, hlo⟩ := KB.preB (KB.tail.tail.head).lt [.int .i64 0, .int .i64 0, .int .i64 0, .int .i64 0, .int .i64 0, .int .i64 0, .int .i64 0]
  have la0 : w.heap.size + 1 + 1 ≤ lo := hlo (w.heap.size + 1 + 1, [.int .i64 0, .int .i64 0, .int .i64 0, .int .i64 0, .int .i64 0, .int .i64 0, .int .i64 0]) (by simp)
  have la1 : w.heap.size + 1 ≤ lo := hlo (w.heap.size + 1, [.int .i64 (hiW a), .int .u64 (loW a)]) (by simp)
  have la2 : w.heap.size ≤ lo := hlo (w.heap.size, [.int .i64 (y), .int .i64 (m), .int .i64 (d), .int .i64 (h), .int .i64 (i), .int .i64 (s), .int .i64 (n)]) (by simp)
  clear hlo
  go_cut [6, 7] (fun v6 v7 wx => CutOneB lo (BK w [(w.heap.size + 1 + 1, [.int .i64 0, .int .i64 0, .int .i64 0, .int .i64 0, .int .i64 0, .int .i64 0, .int .i64 0]), (w.heap.size + 1, [.int .i64 (hiW a), .int .u64 (loW a)]), (w.heap.size, [.int .i64 (y), .int .i64 (m), .int .i64 (d), .int .i64 (h), .int .i64 (i), .int .i64 (s), .int .i64 (n)])]) [.int .i64 0, .int .i64 0, .int .i64 0, .int .i64 0, .int .i64 0, .int .i64 0, .int .i64 0] v6 wx ∧ v7 = .bool false)
  case first =>
    obtain ⟨_, j0a, j0b, j0c, j0d, j0e, j0f, j0g, _⟩ := (KB.tail.tail.head).seven
    obtain ⟨_, j1a, j1b, _⟩ := (KB.tail.head).two
    clear KB
    have ⟨gp0, gq0⟩ := behindB st.lt la2
    have ⟨gp1, gq1⟩ := behindB st.lt la1
    go_region_held3 (fun w' => w'.cell? ⟨w.heap.size, 0, none⟩ = some (.int .i64 (y)) ∧ w'.cell? ⟨w.heap.size, 1, none⟩ = some (.int .i64 (m)) ∧ w'.cell? ⟨w.heap.size, 2, none⟩ = some (.int .i64 (d)) ∧ w'.cell? ⟨w.heap.size, 3, none⟩ = some (.int .i64 (h)) ∧ w'.cell? ⟨w.heap.size, 4, none⟩ = some (.int .i64 (i)) ∧ w'.cell? ⟨w.heap.size, 5, none⟩ = some (.int .i64 (s)) ∧ w'.cell? ⟨w.heap.size, 6, none⟩ = some (.int .i64 (n)) ∧ w'.cell? ⟨w.heap.size + 1, 0, none⟩ = some (.int .i64 (hiW a)) ∧ w'.cell? ⟨w.heap.size + 1, 1, none⟩ = some (.int .u64 (loW a))) (first | (with_reducible exact ⟨(st.k.tail.tail.head).seven.2.1, (st.k.tail.tail.head).seven.2.2.1, (st.k.tail.tail.head).seven.2.2.2.1, (st.k.tail.tail.head).seven.2.2.2.2.1, (st.k.tail.tail.head).seven.2.2.2.2.2.1, (st.k.tail.tail.head).seven.2.2.2.2.2.2.1, (st.k.tail.tail.head).seven.2.2.2.2.2.2.2.1, (st.k.tail.head).two.2.1, (st.k.tail.head).two.2.2.1⟩) | (with_reducible exact ⟨((st.a7 _).k.tail.tail.head).seven.2.1, ((st.a7 _).k.tail.tail.head).seven.2.2.1, ((st.a7 _).k.tail.tail.head).seven.2.2.2.1, ((st.a7 _).k.tail.tail.head).seven.2.2.2.2.1, ((st.a7 _).k.tail.tail.head).seven.2.2.2.2.2.1, ((st.a7 _).k.tail.tail.head).seven.2.2.2.2.2.2.1, ((st.a7 _).k.tail.tail.head).seven.2.2.2.2.2.2.2.1, ((st.a7 _).k.tail.head).two.2.1, ((st.a7 _).k.tail.head).two.2.2.1⟩) | (with_reducible exact ⟨(st.drew.k.tail.tail.head).seven.2.1, (st.drew.k.tail.tail.head).seven.2.2.1, (st.drew.k.tail.tail.head).seven.2.2.2.1, (st.drew.k.tail.tail.head).seven.2.2.2.2.1, (st.drew.k.tail.tail.head).seven.2.2.2.2.2.1, (st.drew.k.tail.tail.head).seven.2.2.2.2.2.2.1, (st.drew.k.tail.tail.head).seven.2.2.2.2.2.2.2.1, (st.drew.k.tail.head).two.2.1, (st.drew.k.tail.head).two.2.2.1⟩) | (with_reducible exact ⟨((st.a7 _).drew.k.tail.tail.head).seven.2.1, ((st.a7 _).drew.k.tail.tail.head).seven.2.2.1, ((st.a7 _).drew.k.tail.tail.head).seven.2.2.2.1, ((st.a7 _).drew.k.tail.tail.head).seven.2.2.2.2.1, ((st.a7 _).drew.k.tail.tail.head).seven.2.2.2.2.2.1, ((st.a7 _).drew.k.tail.tail.head).seven.2.2.2.2.2.2.1, ((st.a7 _).drew.k.tail.tail.head).seven.2.2.2.2.2.2.2.1, ((st.a7 _).drew.k.tail.head).two.2.1, ((st.a7 _).drew.k.tail.head).two.2.2.1⟩) | go_keep)
      (first
        | (go_at_call 14; (with_reducible refine (NX.out _).mono ?_); rintro e x ⟨p5, A5, n5, c5, rfl, z5, k⟩
           have l5 := z5.small sn.out
           with_reducible (first | replace st := st.below k | replace st := (st.a7 _).below k | replace st := st.drew.below k | replace st := (st.a7 _).drew.below k)
           clear k
           obtain ⟨_, k0a, k0b, k0c, k0d, k0e, k0f, k0g, _⟩ := (st.k.tail.tail.head).seven
           obtain ⟨_, k1a, k1b, _⟩ := (st.k.tail.head).two
           obtain ⟨gp0, gq0⟩ := behindB st.lt la2
           try obtain ⟨gr0, gs0⟩ := behindB (st.ge _ (List.mem_cons_self ..)) la2
           obtain ⟨gp1, gq1⟩ := behindB st.lt la1
           try obtain ⟨gr1, gs1⟩ := behindB (st.ge _ (List.mem_cons_self ..)) la1
           try obtain ⟨_, ya, yb, yc, yd, ye, yf, yg, za, zb, zc, zd, ze, zf, zg⟩ := (st.al _ (List.mem_cons_self ..)).seven)
        | (go_at_call 12; (with_reducible refine (OA.out _).mono ?_); rintro e x ⟨p6, A6, n6, c6, rfl, z6, k⟩
           have l6 := z6.small sa.out
           with_reducible (first | replace z5 := z5.below k | replace z5 := (z5.below (below_box _ _)).below k | replace z5 := z5.drew.below k | replace z5 := (z5.below (below_box _ _)).drew.below k)
           with_reducible (first | replace st := st.below k | replace st := (st.a7 _).below k | replace st := st.drew.below k | replace st := (st.a7 _).drew.below k)
           clear k
           obtain ⟨_, k0a, k0b, k0c, k0d, k0e, k0f, k0g, _⟩ := (st.k.tail.tail.head).seven
           obtain ⟨_, k1a, k1b, _⟩ := (st.k.tail.head).two
           obtain ⟨gp0, gq0⟩ := behindB st.lt la2
           try obtain ⟨gr0, gs0⟩ := behindB (st.ge _ (List.mem_cons_self ..)) la2
           obtain ⟨gp1, gq1⟩ := behindB st.lt la1
           try obtain ⟨gr1, gs1⟩ := behindB (st.ge _ (List.mem_cons_self ..)) la1
           try obtain ⟨_, ya, yb, yc, yd, ye, yf, yg, za, zb, zc, zd, ze, zf, zg⟩ := (st.al _ (List.mem_cons_self ..)).seven)
        | (go_at_call 39; (with_reducible refine (AD.out p5 p6 A5 A6 n5 n6 c5 c6 _ (by with_reducible first | exact z5 | exact (z5.below (below_box _ _)) | exact z5.drew | exact (z5.below (below_box _ _)).drew) (by with_reducible first | exact z6 | exact (z6.below (below_box _ _)) | exact z6.drew | exact (z6.below (below_box _ _)).drew) (by omega) (by omega)).mono ?_); rintro e x ⟨p7, A7, n7, c7, rfl, z7, k⟩
           have l7 := z7.small sg.out
           with_reducible (first | replace st := st.below k | replace st := (st.a7 _).below k | replace st := st.drew.below k | replace st := (st.a7 _).drew.below k)
           clear k
           obtain ⟨_, k0a, k0b, k0c, k0d, k0e, k0f, k0g, _⟩ := (st.k.tail.tail.head).seven
           obtain ⟨_, k1a, k1b, _⟩ := (st.k.tail.head).two
           obtain ⟨gp0, gq0⟩ := behindB st.lt la2
           try obtain ⟨gr0, gs0⟩ := behindB (st.ge _ (List.mem_cons_self ..)) la2
           obtain ⟨gp1, gq1⟩ := behindB st.lt la1
           try obtain ⟨gr1, gs1⟩ := behindB (st.ge _ (List.mem_cons_self ..)) la1
           try obtain ⟨_, ya, yb, yc, yd, ye, yf, yg, za, zb, zc, zd, ze, zf, zg⟩ := (st.al _ (List.mem_cons_self ..)).seven)
        | (go_at_call 11; (with_reducible refine (OX.out _ _ _ _ _ (by with_reducible first | exact z7 | exact (z7.below (below_box _ _)) | exact z7.drew | exact (z7.below (below_box _ _)).drew) (by omega)).mono ?_); rintro e x ⟨rfl, k⟩
           with_reducible (first | replace st := st.below k | replace st := (st.a7 _).below k | replace st := st.drew.below k | replace st := (st.a7 _).drew.below k)
           clear k
           obtain ⟨_, k0a, k0b, k0c, k0d, k0e, k0f, k0g, _⟩ := (st.k.tail.tail.head).seven
           obtain ⟨_, k1a, k1b, _⟩ := (st.k.tail.head).two
           obtain ⟨gp0, gq0⟩ := behindB st.lt la2
           try obtain ⟨gr0, gs0⟩ := behindB (st.ge _ (List.mem_cons_self ..)) la2
           obtain ⟨gp1, gq1⟩ := behindB st.lt la1
           try obtain ⟨gr1, gs1⟩ := behindB (st.ge _ (List.mem_cons_self ..)) la1
           try obtain ⟨_, ya, yb, yc, yd, ye, yf, yg, za, zb, zc, zd, ze, zf, zg⟩ := (st.al _ (List.mem_cons_self ..)).seven))
    all_goals
      go_wp2_with fail
      go_meet
      refine ⟨⟨_, rfl, ?_⟩, rfl⟩
      with_reducible first | exact st.p7 _ _ _ _ _ _ _  | exact st.q7 _ _ _ _ _ _ _ _
  case rest =>
  obtain ⟨⟨g, rfl, s0⟩, rfl⟩ := hcut
  clear st
  have KB := s0.k.cons s0.bg
  have ggg := s0.gg
  have ig0 : g ≠ w.heap.size + 1 + 1 := by omega
  have og0 := Ne.symm ig0
  have ig1 : g ≠ w.heap.size + 1 := by omega
  have og1 := Ne.symm ig1
  have ig2 : g ≠ w.heap.size := by omega
  have og2 := Ne.symm ig2
  clear s0 la0 la1 la2 ggg
  clear lo
  obtain ⟨_, ra, rb, rc, rd, re, rf, rg, fa, fb, fc, fd, fe, ff, fg⟩ := (KB.tail.head).seven
  go_wp2
  obtain ⟨_, P0, P1, P2, P3, P4, P5, P6, _⟩ := ((KB.tail.head).self7 (.int .i64 0) (.int .i64 0) (.int .i64 0) (.int .i64 0) (.int .i64 0) (.int .i64 0) (.int .i64 0)).seven
  have HB := (((((((KB.hb.setCell (p := ⟨w.heap.size + 1 + 1, 0, none⟩) (by show _ ≤ w.heap.size + 1 + 1; omega) (.int .i64 0)).setCell (p := ⟨w.heap.size + 1 + 1, 1, none⟩) (by show _ ≤ w.heap.size + 1 + 1; omega) (.int .i64 0)).setCell (p := ⟨w.heap.size + 1 + 1, 2, none⟩) (by show _ ≤ w.heap.size + 1 + 1; omega) (.int .i64 0)).setCell (p := ⟨w.heap.size + 1 + 1, 3, none⟩) (by show _ ≤ w.heap.size + 1 + 1; omega) (.int .i64 0)).setCell (p := ⟨w.heap.size + 1 + 1, 4, none⟩) (by show _ ≤ w.heap.size + 1 + 1; omega) (.int .i64 0)).setCell (p := ⟨w.heap.size + 1 + 1, 5, none⟩) (by show _ ≤ w.heap.size + 1 + 1; omega) (.int .i64 0)).setCell (p := ⟨w.heap.size + 1 + 1, 6, none⟩) (by show _ ≤ w.heap.size + 1 + 1; omega) (.int .i64 0))
  exact bodyPost_ret (v := .tuple #[.agg #[.int .i64 0, .int .i64 0, .int .i64 0, .int .i64 0, .int .i64 0, .int .i64 0, .int .i64 0], .int .i64 4]) (by simp [results, Tryd.results18, go_sem, P0, P1, P2, P3, P4, P5, P6]) rfl ⟨rfl, HB⟩
set_option maxRecDepth 100000 in
set_option maxHeartbeats 8000000 in
theorem addX_yes (y m d h i s n a N G u0 u1 u2 u3 u4 u5 u6 : Int) (RI : Hid (∀ W, Calls Tryd.prog 9 #[.agg #[.int .i64 (y), .int .i64 (m), .int .i64 (d), .int .i64 (h), .int .i64 (i), .int .i64 (s), .int .i64 (n)]] W (fun e w' => e = .returned (.bool true) ∧ Below W.heap.size W w'))) (NX : Hid (∀ W, Calls Tryd.prog 14 #[.agg #[.int .i64 (y), .int .i64 (m), .int .i64 (d), .int .i64 (h), .int .i64 (i), .int .i64 (s), .int .i64 (n)]] W (RetZ W (N)))) (sn : Hid ((N).natAbs < 65536 ^ 9)) (OA : Hid (∀ W, Calls Tryd.prog 12 #[.agg #[.int .i64 (hiW a), .int .u64 (loW a)]] W (RetZ W (a)))) (sa : Hid ((a).natAbs < 65536 ^ 9)) (AD : Hid (∀ (p q : Bool) (A B : Option Addr) (n m c d : Nat) (W : World), Zs W p A n c (N) → Zs W q B m d (a) → n ≤ 900000 → m ≤ 900000 → Calls Tryd.prog 39 #[.agg #[.bool p, .slice A n c], .agg #[.bool q, .slice B m d]] W (RetZ W (G)))) (sg : Hid ((G).natAbs < 65536 ^ 9)) (OX : Hid (∀ (p : Bool) (A : Option Addr) (n c : Nat) (W : World), Zs W p A n c (G) → n ≤ 3000 → Calls Tryd.prog 11 #[.agg #[.bool p, .slice A n c]] W (fun e w' => e = .returned (.tuple #[.agg #[.int .i64 (u0), .int .i64 (u1), .int .i64 (u2), .int .i64 (u3), .int .i64 (u4), .int .i64 (u5), .int .i64 (u6)], .bool true]) ∧ Below W.heap.size W w'))) (w : World) :
    Calls Tryd.prog 18 #[.agg #[.int .i64 (y), .int .i64 (m), .int .i64 (d), .int .i64 (h), .int .i64 (i), .int .i64 (s), .int .i64 (n)], .agg #[.int .i64 (hiW a), .int .u64 (loW a)]] w (RetXE w u0 u1 u2 u3 u4 u5 u6 0) := by
  go_enter Tryd.func18, Tryd.ntmps18
  go_upto_region 1 with (fail)
  have KB := ((((BK.nil w).more7 (.int .i64 (y)) (.int .i64 (m)) (.int .i64 (d)) (.int .i64 (h)) (.int .i64 (i)) (.int .i64 (s)) (.int .i64 (n)) 27).more2 (.int .i64 (hiW a)) (.int .u64 (loW a)) 30).more7 (.int .i64 0) (.int .i64 0) (.int .i64 0) (.int .i64 0) (.int .i64 0) (.int .i64 0) (.int .i64 0) 27)
  simp only [World.size_alloc] at KB
  generalize (((w.alloc (.cells #[.int .i64 (y), .int .i64 (m), .int .i64 (d), .int .i64 (h), .int .i64 (i), .int .i64 (s), .int .i64 (n)] 27)).alloc (.cells #[.int .i64 (hiW a), .int .u64 (loW a)] 30)).alloc (.cells #[.int .i64 0, .int .i64 0, .int .i64 0, .int .i64 0, .int .i64 0, .int .i64 0, .int .i64 0] 27)) = w0 at *
  obtain ⟨_, q0a, q0b, q0c, q0d, q0e, q0f, q0g, _⟩ := (KB.tail.tail.head).seven
  go_wp2_with fail
  clear q0a q0b q0c q0d q0e q0f q0g
  refine (RI.out _).mono ?_
  rintro e w1 ⟨rfl, k⟩
  replace KB := KB.below k
  clear k
  go_upto_region 3 with (fail)
  obtain ⟨lo, st, hlo⟩ := KB.preB (KB.tail.tail.head).lt [.int .i64 0, .int .i64 0, .int .i64 0, .int .i64 0, .int .i64 0, .int .i64 0, .int .i64 0]
  have la0 : w.heap.size + 1 + 1 ≤ lo := hlo (w.heap.size + 1 + 1, [.int .i64 0, .int .i64 0, .int .i64 0, .int .i64 0, .int .i64 0, .int .i64 0, .int .i64 0]) (by simp)
  have la1 : w.heap.size + 1 ≤ lo := hlo (w.heap.size + 1, [.int .i64 (hiW a), .int .u64 (loW a)]) (by simp)
  have la2 : w.heap.size ≤ lo := hlo (w.heap.size, [.int .i64 (y), .int .i64 (m), .int .i64 (d), .int .i64 (h), .int .i64 (i), .int .i64 (s), .int .i64 (n)]) (by simp)
  clear hlo
  go_cut [6, 7] (fun v6 v7 wx => CutOneB lo (BK w [(w.heap.size + 1 + 1, [.int .i64 0, .int .i64 0, .int .i64 0, .int .i64 0, .int .i64 0, .int .i64 0, .int .i64 0]), (w.heap.size + 1, [.int .i64 (hiW a), .int .u64 (loW a)]), (w.heap.size, [.int .i64 (y), .int .i64 (m), .int .i64 (d), .int .i64 (h), .int .i64 (i), .int .i64 (s), .int .i64 (n)])]) [.int .i64 (u0), .int .i64 (u1), .int .i64 (u2), .int .i64 (u3), .int .i64 (u4), .int .i64 (u5), .int .i64 (u6)] v6 wx ∧ v7 = .bool true)
  case first =>
    obtain ⟨_, j0a, j0b, j0c, j0d, j0e, j0f, j0g, _⟩ := (KB.tail.tail.head).seven
    obtain ⟨_, j1a, j1b, _⟩ := (KB.tail.head).two
    clear KB
    have ⟨gp0, gq0⟩ := behindB st.lt la2
    have ⟨gp1, gq1⟩ := behindB st.lt la1
    go_region_held3 (fun w' => w'.cell? ⟨w.heap.size, 0, none⟩ = some (.int .i64 (y)) ∧ w'.cell? ⟨w.heap.size, 1, none⟩ = some (.int .i64 (m)) ∧ w'.cell? ⟨w.heap.size, 2, none⟩ = some (.int .i64 (d)) ∧ w'.cell? ⟨w.heap.size, 3, none⟩ = some (.int .i64 (h)) ∧ w'.cell? ⟨w.heap.size, 4, none⟩ = some (.int .i64 (i)) ∧ w'.cell? ⟨w.heap.size, 5, none⟩ = some (.int .i64 (s)) ∧ w'.cell? ⟨w.heap.size, 6, none⟩ = some (.int .i64 (n)) ∧ w'.cell? ⟨w.heap.size + 1, 0, none⟩ = some (.int .i64 (hiW a)) ∧ w'.cell? ⟨w.heap.size + 1, 1, none⟩ = some (.int .u64 (loW a))) (first | (with_reducible exact ⟨(st.k.tail.tail.head).seven.2.1, (st.k.tail.tail.head).seven.2.2.1, (st.k.tail.tail.head).seven.2.2.2.1, (st.k.tail.tail.head).seven.2.2.2.2.1, (st.k.tail.tail.head).seven.2.2.2.2.2.1, (st.k.tail.tail.head).seven.2.2.2.2.2.2.1, (st.k.tail.tail.head).seven.2.2.2.2.2.2.2.1, (st.k.tail.head).two.2.1, (st.k.tail.head).two.2.2.1⟩) | (with_reducible exact ⟨((st.a7 _).k.tail.tail.head).seven.2.1, ((st.a7 _).k.tail.tail.head).seven.2.2.1, ((st.a7 _).k.tail.tail.head).seven.2.2.2.1, ((st.a7 _).k.tail.tail.head).seven.2.2.2.2.1, ((st.a7 _).k.tail.tail.head).seven.2.2.2.2.2.1, ((st.a7 _).k.tail.tail.head).seven.2.2.2.2.2.2.1, ((st.a7 _).k.tail.tail.head).seven.2.2.2.2.2.2.2.1, ((st.a7 _).k.tail.head).two.2.1, ((st.a7 _).k.tail.head).two.2.2.1⟩) | (with_reducible exact ⟨(st.drew.k.tail.tail.head).seven.2.1, (st.drew.k.tail.tail.head).seven.2.2.1, (st.drew.k.tail.tail.head).seven.2.2.2.1, (st.drew.k.tail.tail.head).seven.2.2.2.2.1, (st.drew.k.tail.tail.head).seven.2.2.2.2.2.1, (st.drew.k.tail.tail.head).seven.2.2.2.2.2.2.1, (st.drew.k.tail.tail.head).seven.2.2.2.2.2.2.2.1, (st.drew.k.tail.head).two.2.1, (st.drew.k.tail.head).two.2.2.1⟩) | (with_reducible exact ⟨((st.a7 _).drew.k.tail.tail.head).seven.2.1, ((st.a7 _).drew.k.tail.tail.head).seven.2.2.1, ((st.a7 _).drew.k.tail.tail.head).seven.2.2.2.1, ((st.a7 _).drew.k.tail.tail.head).seven.2.2.2.2.1, ((st.a7 _).drew.k.tail.tail.head).seven.2.2.2.2.2.1, ((st.a7 _).drew.k.tail.tail.head).seven.2.2.2.2.2.2.1, ((st.a7 _).drew.k.tail.tail.head).seven.2.2.2.2.2.2.2.1, ((st.a7 _).drew.k.tail.head).two.2.1, ((st.a7 _).drew.k.tail.head).two.2.2.1⟩) | go_keep)
      (first
        | (go_at_call 14; (with_reducible refine (NX.out _).mono ?_); rintro e x ⟨p5, A5, n5, c5, rfl, z5, k⟩
           have l5 := z5.small sn.out
           with_reducible (first | replace st := st.below k | replace st := (st.a7 _).below k | replace st := st.drew.below k | replace st := (st.a7 _).drew.below k)
           clear k
           obtain ⟨_, k0a, k0b, k0c, k0d, k0e, k0f, k0g, _⟩ := (st.k.tail.tail.head).seven
           obtain ⟨_, k1a, k1b, _⟩ := (st.k.tail.head).two
           obtain ⟨gp0, gq0⟩ := behindB st.lt la2
           try obtain ⟨gr0, gs0⟩ := behindB (st.ge _ (List.mem_cons_self ..)) la2
           obtain ⟨gp1, gq1⟩ := behindB st.lt la1
           try obtain ⟨gr1, gs1⟩ := behindB (st.ge _ (List.mem_cons_self ..)) la1
           try obtain ⟨_, ya, yb, yc, yd, ye, yf, yg, za, zb, zc, zd, ze, zf, zg⟩ := (st.al _ (List.mem_cons_self ..)).seven)
        | (go_at_call 12; (with_reducible refine (OA.out _).mono ?_); rintro e x ⟨p6, A6, n6, c6, rfl, z6, k⟩
           have l6 := z6.small sa.out
           with_reducible (first | replace z5 := z5.below k | replace z5 := (z5.below (below_box _ _)).below k | replace z5 := z5.drew.below k | replace z5 := (z5.below (below_box _ _)).drew.below k)
           with_reducible (first | replace st := st.below k | replace st := (st.a7 _).below k | replace st := st.drew.below k | replace st := (st.a7 _).drew.below k)
           clear k
           obtain ⟨_, k0a, k0b, k0c, k0d, k0e, k0f, k0g, _⟩ := (st.k.tail.tail.head).seven
           obtain ⟨_, k1a, k1b, _⟩ := (st.k.tail.head).two
           obtain ⟨gp0, gq0⟩ := behindB st.lt la2
           try obtain ⟨gr0, gs0⟩ := behindB (st.ge _ (List.mem_cons_self ..)) la2
           obtain ⟨gp1, gq1⟩ := behindB st.lt la1
           try obtain ⟨gr1, gs1⟩ := behindB (st.ge _ (List.mem_cons_self ..)) la1
           try obtain ⟨_, ya, yb, yc, yd, ye, yf, yg, za, zb, zc, zd, ze, zf, zg⟩ := (st.al _ (List.mem_cons_self ..)).seven)
        | (go_at_call 39; (with_reducible refine (AD.out p5 p6 A5 A6 n5 n6 c5 c6 _ (by with_reducible first | exact z5 | exact (z5.below (below_box _ _)) | exact z5.drew | exact (z5.below (below_box _ _)).drew) (by with_reducible first | exact z6 | exact (z6.below (below_box _ _)) | exact z6.drew | exact (z6.below (below_box _ _)).drew) (by omega) (by omega)).mono ?_); rintro e x ⟨p7, A7, n7, c7, rfl, z7, k⟩
           have l7 := z7.small sg.out
           with_reducible (first | replace st := st.below k | replace st := (st.a7 _).below k | replace st := st.drew.below k | replace st := (st.a7 _).drew.below k)
           clear k
           obtain ⟨_, k0a, k0b, k0c, k0d, k0e, k0f, k0g, _⟩ := (st.k.tail.tail.head).seven
           obtain ⟨_, k1a, k1b, _⟩ := (st.k.tail.head).two
           obtain ⟨gp0, gq0⟩ := behindB st.lt la2
           try obtain ⟨gr0, gs0⟩ := behindB (st.ge _ (List.mem_cons_self ..)) la2
           obtain ⟨gp1, gq1⟩ := behindB st.lt la1
           try obtain ⟨gr1, gs1⟩ := behindB (st.ge _ (List.mem_cons_self ..)) la1
           try obtain ⟨_, ya, yb, yc, yd, ye, yf, yg, za, zb, zc, zd, ze, zf, zg⟩ := (st.al _ (List.mem_cons_self ..)).seven)
        | (go_at_call 11; (with_reducible refine (OX.out _ _ _ _ _ (by with_reducible first | exact z7 | exact (z7.below (below_box _ _)) | exact z7.drew | exact (z7.below (below_box _ _)).drew) (by omega)).mono ?_); rintro e x ⟨rfl, k⟩
           with_reducible (first | replace st := st.below k | replace st := (st.a7 _).below k | replace st := st.drew.below k | replace st := (st.a7 _).drew.below k)
           clear k
           obtain ⟨_, k0a, k0b, k0c, k0d, k0e, k0f, k0g, _⟩ := (st.k.tail.tail.head).seven
           obtain ⟨_, k1a, k1b, _⟩ := (st.k.tail.head).two
           obtain ⟨gp0, gq0⟩ := behindB st.lt la2
           try obtain ⟨gr0, gs0⟩ := behindB (st.ge _ (List.mem_cons_self ..)) la2
           obtain ⟨gp1, gq1⟩ := behindB st.lt la1
           try obtain ⟨gr1, gs1⟩ := behindB (st.ge _ (List.mem_cons_self ..)) la1
           try obtain ⟨_, ya, yb, yc, yd, ye, yf, yg, za, zb, zc, zd, ze, zf, zg⟩ := (st.al _ (List.mem_cons_self ..)).seven))
    all_goals
      go_wp2_with fail
      go_meet
      refine ⟨⟨_, rfl, ?_⟩, rfl⟩
      with_reducible first | exact st.p7 _ _ _ _ _ _ _  | exact st.q7 _ _ _ _ _ _ _ _
  case rest =>
  obtain ⟨⟨g, rfl, s0⟩, rfl⟩ := hcut
  clear st
  have KB := s0.k.cons s0.bg
  have ggg := s0.gg
  have ig0 : g ≠ w.heap.size + 1 + 1 := by omega
  have og0 := Ne.symm ig0
  have ig1 : g ≠ w.heap.size + 1 := by omega
  have og1 := Ne.symm ig1
  have ig2 : g ≠ w.heap.size := by omega
  have og2 := Ne.symm ig2
  clear s0 la0 la1 la2 ggg
  clear lo
  obtain ⟨_, q0a, q0b, q0c, q0d, q0e, q0f, q0g, _⟩ := (KB.head).seven
  obtain ⟨_, ra, rb, rc, rd, re, rf, rg, fa, fb, fc, fd, fe, ff, fg⟩ := (KB.tail.head).seven
  go_wp2
  obtain ⟨_, P0, P1, P2, P3, P4, P5, P6, _⟩ := ((KB.tail.head).self7 (.int .i64 (u0)) (.int .i64 (u1)) (.int .i64 (u2)) (.int .i64 (u3)) (.int .i64 (u4)) (.int .i64 (u5)) (.int .i64 (u6))).seven
  have HB := (((((((KB.hb.setCell (p := ⟨w.heap.size + 1 + 1, 0, none⟩) (by show _ ≤ w.heap.size + 1 + 1; omega) (.int .i64 (u0))).setCell (p := ⟨w.heap.size + 1 + 1, 1, none⟩) (by show _ ≤ w.heap.size + 1 + 1; omega) (.int .i64 (u1))).setCell (p := ⟨w.heap.size + 1 + 1, 2, none⟩) (by show _ ≤ w.heap.size + 1 + 1; omega) (.int .i64 (u2))).setCell (p := ⟨w.heap.size + 1 + 1, 3, none⟩) (by show _ ≤ w.heap.size + 1 + 1; omega) (.int .i64 (u3))).setCell (p := ⟨w.heap.size + 1 + 1, 4, none⟩) (by show _ ≤ w.heap.size + 1 + 1; omega) (.int .i64 (u4))).setCell (p := ⟨w.heap.size + 1 + 1, 5, none⟩) (by show _ ≤ w.heap.size + 1 + 1; omega) (.int .i64 (u5))).setCell (p := ⟨w.heap.size + 1 + 1, 6, none⟩) (by show _ ≤ w.heap.size + 1 + 1; omega) (.int .i64 (u6)))
  exact bodyPost_ret (v := .tuple #[.agg #[.int .i64 (u0), .int .i64 (u1), .int .i64 (u2), .int .i64 (u3), .int .i64 (u4), .int .i64 (u5), .int .i64 (u6)], .int .i64 0]) (by simp [results, Tryd.results18, go_sem, P0, P1, P2, P3, P4, P5, P6]) rfl ⟨rfl, HB⟩
set_option maxRecDepth 100000 in
set_option maxHeartbeats 8000000 in
theorem cmpX_y (y m d h i s n y' m' d' h' i' s' n' c : Int) (g : ¬ y = y') (CM : Hid (∀ W, Calls Tryd.prog 52 #[.agg #[.int .i64 (y), .int .i64 (m), .int .i64 (d)], .agg #[.int .i64 (y'), .int .i64 (m'), .int .i64 (d')]] W (fun e w' => e = .returned (.int .i64 (c)) ∧ Below W.heap.size W w'))) (w : World) :
    Calls Tryd.prog 21 #[.agg #[.int .i64 (y), .int .i64 (m), .int .i64 (d), .int .i64 (h), .int .i64 (i), .int .i64 (s), .int .i64 (n)], .agg #[.int .i64 (y'), .int .i64 (m'), .int .i64 (d'), .int .i64 (h'), .int .i64 (i'), .int .i64 (s'), .int .i64 (n')]] w (RetV w (.int .i64 c)) := by
  have g1 : (y == y') = false := by rw [beq_eq_false_iff_ne]; exact g
  clear g
  go_enter Tryd.func21, Tryd.ntmps21
  go_upto_region 1 with (fail)
  have KB := (((BK.nil w).more7 (.int .i64 (y)) (.int .i64 (m)) (.int .i64 (d)) (.int .i64 (h)) (.int .i64 (i)) (.int .i64 (s)) (.int .i64 (n)) 27).more7 (.int .i64 (y')) (.int .i64 (m')) (.int .i64 (d')) (.int .i64 (h')) (.int .i64 (i')) (.int .i64 (s')) (.int .i64 (n')) 27)
  simp only [World.size_alloc] at KB
  generalize ((w.alloc (.cells #[.int .i64 (y), .int .i64 (m), .int .i64 (d), .int .i64 (h), .int .i64 (i), .int .i64 (s), .int .i64 (n)] 27)).alloc (.cells #[.int .i64 (y'), .int .i64 (m'), .int .i64 (d'), .int .i64 (h'), .int .i64 (i'), .int .i64 (s'), .int .i64 (n')] 27)) = w0 at *
  obtain ⟨_, q0a, q0b, q0c, q0d, q0e, q0f, q0g, _⟩ := (KB.tail.head).seven
  obtain ⟨_, q1a, q1b, q1c, q1d, q1e, q1f, q1g, _⟩ := (KB.head).seven
  go_wp2_with fail
  clear q0a q0b q0c q0d q0e q0f q0g q1a q1b q1c q1d q1e q1f q1g
  refine (CM.out _).mono ?_
  rintro e w1 ⟨rfl, k⟩
  replace KB := KB.below k
  clear k
  have HB := KB.hb
  go_wp2
  go_ret
  exact ⟨rfl, HB⟩
set_option maxRecDepth 100000 in
set_option maxHeartbeats 8000000 in
theorem cmpX_m (y m d h i s n m' d' h' i' s' n' c : Int) (g : ¬ m = m') (CM : Hid (∀ W, Calls Tryd.prog 52 #[.agg #[.int .i64 (y), .int .i64 (m), .int .i64 (d)], .agg #[.int .i64 (y), .int .i64 (m'), .int .i64 (d')]] W (fun e w' => e = .returned (.int .i64 (c)) ∧ Below W.heap.size W w'))) (w : World) :
    Calls Tryd.prog 21 #[.agg #[.int .i64 (y), .int .i64 (m), .int .i64 (d), .int .i64 (h), .int .i64 (i), .int .i64 (s), .int .i64 (n)], .agg #[.int .i64 (y), .int .i64 (m'), .int .i64 (d'), .int .i64 (h'), .int .i64 (i'), .int .i64 (s'), .int .i64 (n')]] w (RetV w (.int .i64 c)) := by
  have g1 : (m == m') = false := by rw [beq_eq_false_iff_ne]; exact g
  clear g
  go_enter Tryd.func21, Tryd.ntmps21
  go_upto_region 1 with (fail)
  have KB := (((BK.nil w).more7 (.int .i64 (y)) (.int .i64 (m)) (.int .i64 (d)) (.int .i64 (h)) (.int .i64 (i)) (.int .i64 (s)) (.int .i64 (n)) 27).more7 (.int .i64 (y)) (.int .i64 (m')) (.int .i64 (d')) (.int .i64 (h')) (.int .i64 (i')) (.int .i64 (s')) (.int .i64 (n')) 27)
  simp only [World.size_alloc] at KB
  generalize ((w.alloc (.cells #[.int .i64 (y), .int .i64 (m), .int .i64 (d), .int .i64 (h), .int .i64 (i), .int .i64 (s), .int .i64 (n)] 27)).alloc (.cells #[.int .i64 (y), .int .i64 (m'), .int .i64 (d'), .int .i64 (h'), .int .i64 (i'), .int .i64 (s'), .int .i64 (n')] 27)) = w0 at *
  obtain ⟨_, q0a, q0b, q0c, q0d, q0e, q0f, q0g, _⟩ := (KB.tail.head).seven
  obtain ⟨_, q1a, q1b, q1c, q1d, q1e, q1f, q1g, _⟩ := (KB.head).seven
  go_wp2_with fail
  clear q0a q0b q0c q0d q0e q0f q0g q1a q1b q1c q1d q1e q1f q1g
  refine (CM.out _).mono ?_
  rintro e w1 ⟨rfl, k⟩
  replace KB := KB.below k
  clear k
  have HB := KB.hb
  go_wp2
  go_ret
  exact ⟨rfl, HB⟩
set_option maxRecDepth 100000 in
set_option maxHeartbeats 8000000 in
theorem cmpX_d (y m d h i s n d' h' i' s' n' c : Int) (g : ¬ d = d') (CM : Hid (∀ W, Calls Tryd.prog 52 #[.agg #[.int .i64 (y), .int .i64 (m), .int .i64 (d)], .agg #[.int .i64 (y), .int .i64 (m), .int .i64 (d')]] W (fun e w' => e = .returned (.int .i64 (c)) ∧ Below W.heap.size W w'))) (w : World) :
    Calls Tryd.prog 21 #[.agg #[.int .i64 (y), .int .i64 (m), .int .i64 (d), .int .i64 (h), .int .i64 (i), .int .i64 (s), .int .i64 (n)], .agg #[.int .i64 (y), .int .i64 (m), .int .i64 (d'), .int .i64 (h'), .int .i64 (i'), .int .i64 (s'), .int .i64 (n')]] w (RetV w (.int .i64 c)) := by
  have g1 : (d == d') = false := by rw [beq_eq_false_iff_ne]; exact g
  clear g
  go_enter Tryd.func21, Tryd.ntmps21
  go_upto_region 1 with (fail)
  have KB := (((BK.nil w).more7 (.int .i64 (y)) (.int .i64 (m)) (.int .i64 (d)) (.int .i64 (h)) (.int .i64 (i)) (.int .i64 (s)) (.int .i64 (n)) 27).more7 (.int .i64 (y)) (.int .i64 (m)) (.int .i64 (d')) (.int .i64 (h')) (.int .i64 (i')) (.int .i64 (s')) (.int .i64 (n')) 27)
  simp only [World.size_alloc] at KB
  generalize ((w.alloc (.cells #[.int .i64 (y), .int .i64 (m), .int .i64 (d), .int .i64 (h), .int .i64 (i), .int .i64 (s), .int .i64 (n)] 27)).alloc (.cells #[.int .i64 (y), .int .i64 (m), .int .i64 (d'), .int .i64 (h'), .int .i64 (i'), .int .i64 (s'), .int .i64 (n')] 27)) = w0 at *
  obtain ⟨_, q0a, q0b, q0c, q0d, q0e, q0f, q0g, _⟩ := (KB.tail.head).seven
  obtain ⟨_, q1a, q1b, q1c, q1d, q1e, q1f, q1g, _⟩ := (KB.head).seven
  go_wp2_with fail
  clear q0a q0b q0c q0d q0e q0f q0g q1a q1b q1c q1d q1e q1f q1g
  refine (CM.out _).mono ?_
  rintro e w1 ⟨rfl, k⟩
  replace KB := KB.below k
  clear k
  have HB := KB.hb
  go_wp2
  go_ret
  exact ⟨rfl, HB⟩
set_option maxRecDepth 100000 in
set_option maxHeartbeats 8000000 in
theorem cmpX_t (y m d h i s n h' i' s' n' c : Int)  (CM : Hid (∀ W, Calls Tryd.prog 53 #[.agg #[.int .i64 (h), .int .i64 (i), .int .i64 (s), .int .i64 (n)], .agg #[.int .i64 (h'), .int .i64 (i'), .int .i64 (s'), .int .i64 (n')]] W (fun e w' => e = .returned (.int .i64 (c)) ∧ Below W.heap.size W w'))) (w : World) :
    Calls Tryd.prog 21 #[.agg #[.int .i64 (y), .int .i64 (m), .int .i64 (d), .int .i64 (h), .int .i64 (i), .int .i64 (s), .int .i64 (n)], .agg #[.int .i64 (y), .int .i64 (m), .int .i64 (d), .int .i64 (h'), .int .i64 (i'), .int .i64 (s'), .int .i64 (n')]] w (RetV w (.int .i64 c)) := by
  go_enter Tryd.func21, Tryd.ntmps21
  go_upto_region 1 with (fail)
  have KB := (((BK.nil w).more7 (.int .i64 (y)) (.int .i64 (m)) (.int .i64 (d)) (.int .i64 (h)) (.int .i64 (i)) (.int .i64 (s)) (.int .i64 (n)) 27).more7 (.int .i64 (y)) (.int .i64 (m)) (.int .i64 (d)) (.int .i64 (h')) (.int .i64 (i')) (.int .i64 (s')) (.int .i64 (n')) 27)
  simp only [World.size_alloc] at KB
  generalize ((w.alloc (.cells #[.int .i64 (y), .int .i64 (m), .int .i64 (d), .int .i64 (h), .int .i64 (i), .int .i64 (s), .int .i64 (n)] 27)).alloc (.cells #[.int .i64 (y), .int .i64 (m), .int .i64 (d), .int .i64 (h'), .int .i64 (i'), .int .i64 (s'), .int .i64 (n')] 27)) = w0 at *
  obtain ⟨_, q0a, q0b, q0c, q0d, q0e, q0f, q0g, _⟩ := (KB.tail.head).seven
  obtain ⟨_, q1a, q1b, q1c, q1d, q1e, q1f, q1g, _⟩ := (KB.head).seven
  go_wp2_with fail
  clear q0a q0b q0c q0d q0e q0f q0g q1a q1b q1c q1d q1e q1f q1g
  refine (CM.out _).mono ?_
  rintro e w1 ⟨rfl, k⟩
  replace KB := KB.below k
  clear k
  have HB := KB.hb
  go_wp2
  go_ret
  exact ⟨rfl, HB⟩
end Go.Proofs.YtlidicnbmfkghaaDoor
