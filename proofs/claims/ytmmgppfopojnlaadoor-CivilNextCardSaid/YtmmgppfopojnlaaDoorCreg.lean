/- The document's answer of layer 5: dates made of fields, days added, dates held against one another. -/
import Derived.Test.YtmmgppfopojnlaaDoorCweek
namespace Go.Proofs.YtmmgppfopojnlaaDoor
open Go.RowKit

/-- What a call that answers a date and an error's number leaves. -/
def RetDE (w : World) (y m d n : Int) (e : Ending) (w' : World) : Prop := e = .returned (.tuple #[.agg #[.int .i64 y, .int .i64 m, .int .i64 d], .int .i64 n]) ∧ Below w.heap.size w w'
/-- the nearest month, the nearest day -/
def clM (m : Int) : Int := if m < 1 then 1 else if 12 < m then 12 else m
def clD (y m d : Int) : Int := if d < 1 then 1 else if lenM y m < d then lenM y m else d
set_option maxRecDepth 100000 in
set_option maxHeartbeats 4000000 in
theorem regR_arg (y m d o : Int) (h1 : ¬ o = 1) (h2 : ¬ o = 2) (w : World) :
    Calls Tryd.prog 27 #[.int .i64 y, .int .i64 m, .int .i64 d, .int .i64 o] w (RetDE w 0 0 0 1) := by
  have b1 : (o != 1) = true := by simp [h1]
  have b2 : (o != 2) = true := by simp [h2]
  have KB := (BK.nil w).more3 (.int .i64 0) (.int .i64 0) (.int .i64 0) 23
  go_enter Tryd.func27, Tryd.ntmps27
  go_upto_region 1 with (fail)
  generalize w.alloc (.cells #[.int .i64 0, .int .i64 0, .int .i64 0] 23) = w0 at *
  obtain ⟨_, r0, r1, r2, f0, f1, f2⟩ := (KB.head).three
  go_wp2
  obtain ⟨_, P0, P1, P2, _, _, _⟩ := ((KB.head).self3 (.int .i64 (0)) (.int .i64 (0)) (.int .i64 (0))).three
  have HB := ((KB.hb.setCell (p := ⟨w.heap.size, 0, none⟩) (by show _ ≤ w.heap.size; omega) (.int .i64 (0))).setCell (p := ⟨w.heap.size, 1, none⟩) (by show _ ≤ w.heap.size; omega) (.int .i64 (0))).setCell (p := ⟨w.heap.size, 2, none⟩) (by show _ ≤ w.heap.size; omega) (.int .i64 (0))
  exact bodyPost_ret (v := .tuple #[.agg #[.int .i64 (0), .int .i64 (0), .int .i64 (0)], .int .i64 1]) (by simp [results, Tryd.results27, go_sem, P0, P1, P2]) rfl ⟨rfl, HB⟩
set_option maxRecDepth 100000 in
set_option maxHeartbeats 4000000 in
theorem regR_rej0 (y m d : Int) (h1 : m < 1) (w : World) :
    Calls Tryd.prog 27 #[.int .i64 y, .int .i64 m, .int .i64 d, .int .i64 2] w (RetDE w 0 0 0 5) := by
  have KB := (BK.nil w).more3 (.int .i64 0) (.int .i64 0) (.int .i64 0) 23
  go_enter Tryd.func27, Tryd.ntmps27
  go_upto_region 1 with (fail)
  generalize w.alloc (.cells #[.int .i64 0, .int .i64 0, .int .i64 0] 23) = w0 at *
  obtain ⟨_, r0, r1, r2, f0, f1, f2⟩ := (KB.head).three
  go_wp2
  obtain ⟨_, P0, P1, P2, _, _, _⟩ := ((KB.head).self3 (.int .i64 (0)) (.int .i64 (0)) (.int .i64 (0))).three
  have HB := ((KB.hb.setCell (p := ⟨w.heap.size, 0, none⟩) (by show _ ≤ w.heap.size; omega) (.int .i64 (0))).setCell (p := ⟨w.heap.size, 1, none⟩) (by show _ ≤ w.heap.size; omega) (.int .i64 (0))).setCell (p := ⟨w.heap.size, 2, none⟩) (by show _ ≤ w.heap.size; omega) (.int .i64 (0))
  exact bodyPost_ret (v := .tuple #[.agg #[.int .i64 (0), .int .i64 (0), .int .i64 (0)], .int .i64 5]) (by simp [results, Tryd.results27, go_sem, P0, P1, P2]) rfl ⟨rfl, HB⟩
set_option maxRecDepth 100000 in
set_option maxHeartbeats 4000000 in
theorem regR_rej1 (y m d : Int) (h1 : ¬ m < 1) (h2 : 12 < m) (w : World) :
    Calls Tryd.prog 27 #[.int .i64 y, .int .i64 m, .int .i64 d, .int .i64 2] w (RetDE w 0 0 0 5) := by
  have KB := (BK.nil w).more3 (.int .i64 0) (.int .i64 0) (.int .i64 0) 23
  go_enter Tryd.func27, Tryd.ntmps27
  go_upto_region 1 with (fail)
  generalize w.alloc (.cells #[.int .i64 0, .int .i64 0, .int .i64 0] 23) = w0 at *
  obtain ⟨_, r0, r1, r2, f0, f1, f2⟩ := (KB.head).three
  go_wp2
  obtain ⟨_, P0, P1, P2, _, _, _⟩ := ((KB.head).self3 (.int .i64 (0)) (.int .i64 (0)) (.int .i64 (0))).three
  have HB := ((KB.hb.setCell (p := ⟨w.heap.size, 0, none⟩) (by show _ ≤ w.heap.size; omega) (.int .i64 (0))).setCell (p := ⟨w.heap.size, 1, none⟩) (by show _ ≤ w.heap.size; omega) (.int .i64 (0))).setCell (p := ⟨w.heap.size, 2, none⟩) (by show _ ≤ w.heap.size; omega) (.int .i64 (0))
  exact bodyPost_ret (v := .tuple #[.agg #[.int .i64 (0), .int .i64 (0), .int .i64 (0)], .int .i64 5]) (by simp [results, Tryd.results27, go_sem, P0, P1, P2]) rfl ⟨rfl, HB⟩
set_option maxRecDepth 100000 in
set_option maxHeartbeats 4000000 in
theorem regR_rej2 (y m d : Int) (h1 : ¬ m < 1) (h2 : ¬ 12 < m) (h3 : d < 1) (w : World) :
    Calls Tryd.prog 27 #[.int .i64 y, .int .i64 m, .int .i64 d, .int .i64 2] w (RetDE w 0 0 0 5) := by
  have KB := (BK.nil w).more3 (.int .i64 0) (.int .i64 0) (.int .i64 0) 23
  go_enter Tryd.func27, Tryd.ntmps27
  go_upto_region 1 with (fail)
  generalize w.alloc (.cells #[.int .i64 0, .int .i64 0, .int .i64 0] 23) = w0 at *
  obtain ⟨_, r0, r1, r2, f0, f1, f2⟩ := (KB.head).three
  go_wp2
  obtain ⟨_, P0, P1, P2, _, _, _⟩ := ((KB.head).self3 (.int .i64 (0)) (.int .i64 (0)) (.int .i64 (0))).three
  have HB := ((KB.hb.setCell (p := ⟨w.heap.size, 0, none⟩) (by show _ ≤ w.heap.size; omega) (.int .i64 (0))).setCell (p := ⟨w.heap.size, 1, none⟩) (by show _ ≤ w.heap.size; omega) (.int .i64 (0))).setCell (p := ⟨w.heap.size, 2, none⟩) (by show _ ≤ w.heap.size; omega) (.int .i64 (0))
  exact bodyPost_ret (v := .tuple #[.agg #[.int .i64 (0), .int .i64 (0), .int .i64 (0)], .int .i64 5]) (by simp [results, Tryd.results27, go_sem, P0, P1, P2]) rfl ⟨rfl, HB⟩
set_option maxRecDepth 100000 in
set_option maxHeartbeats 4000000 in
theorem regR_rej3 (y m d : Int) (h1 : ¬ m < 1) (h2 : ¬ 12 < m) (h3 : ¬ d < 1) (h4 : lenM y m < d) (w : World) :
    Calls Tryd.prog 27 #[.int .i64 y, .int .i64 m, .int .i64 d, .int .i64 2] w (RetDE w 0 0 0 5) := by
  have MR := Lib.hid (fun W => monthR y m W)
  have KB := (BK.nil w).more3 (.int .i64 0) (.int .i64 0) (.int .i64 0) 23
  go_enter Tryd.func27, Tryd.ntmps27
  go_upto_region 1 with (fail)
  generalize w.alloc (.cells #[.int .i64 0, .int .i64 0, .int .i64 0] 23) = w0 at *
  obtain ⟨_, r0, r1, r2, f0, f1, f2⟩ := (KB.head).three
  go_wp2_with (go_at_call 19; refine (MR.out _).mono ?_; rintro e w' ⟨rfl, rfl⟩)
  obtain ⟨_, P0, P1, P2, _, _, _⟩ := ((KB.head).self3 (.int .i64 (0)) (.int .i64 (0)) (.int .i64 (0))).three
  have HB := ((KB.hb.setCell (p := ⟨w.heap.size, 0, none⟩) (by show _ ≤ w.heap.size; omega) (.int .i64 (0))).setCell (p := ⟨w.heap.size, 1, none⟩) (by show _ ≤ w.heap.size; omega) (.int .i64 (0))).setCell (p := ⟨w.heap.size, 2, none⟩) (by show _ ≤ w.heap.size; omega) (.int .i64 (0))
  exact bodyPost_ret (v := .tuple #[.agg #[.int .i64 (0), .int .i64 (0), .int .i64 (0)], .int .i64 5]) (by simp [results, Tryd.results27, go_sem, P0, P1, P2]) rfl ⟨rfl, HB⟩
set_option maxRecDepth 100000 in
set_option maxHeartbeats 4000000 in
theorem regR_1aay (y m d l : Int) (_l1 : 28 ≤ l) (_l2 : l ≤ 31) (hm : m < 1) (hd : d < 1) (MR : Hid (∀ W, Calls Tryd.prog 19 #[.int .i64 y, .int .i64 1] W (fun e w' => e = .returned (.int .i64 l) ∧ W = w'))) (RI : Hid (∀ W, Calls Tryd.prog 40 #[.agg #[.int .i64 y, .int .i64 1, .int .i64 1]] W (RetV W (.bool true)))) (w : World) :
    Calls Tryd.prog 27 #[.int .i64 y, .int .i64 m, .int .i64 d, .int .i64 1] w (RetDE w y (1) (1) 0) := by
  have m2 : ¬ (12 : Int) < 1 := by decide
  have d2 : ¬ l < 1 := by omega
  have KB := (BK.nil w).more3 (.int .i64 0) (.int .i64 0) (.int .i64 0) 23
  go_enter Tryd.func27, Tryd.ntmps27
  go_upto_region 1 with (fail)
  generalize w.alloc (.cells #[.int .i64 0, .int .i64 0, .int .i64 0] 23) = w0 at *
  go_upto_region 14 with (go_at_call 19; refine (MR.out _).mono ?_; rintro e w' ⟨rfl, rfl⟩)
  have hg := KB.head.lt
  replace KB := KB.more3 (.int .i64 y) (.int .i64 1) (.int .i64 1) 23
  generalize w0.alloc (.cells #[.int .i64 y, .int .i64 1, .int .i64 1] 23) = w1 at *
  generalize w0.heap.size = g at *
  obtain ⟨_, a0, a1, a2, _⟩ := KB.head.three
  go_wp2_with fail
  clear a0 a1 a2
  refine (RI.out _).mono ?_
  rintro e w2 ⟨rfl, k⟩
  replace KB := KB.below k
  clear k
  obtain ⟨_, a0, a1, a2, _⟩ := KB.head.three
  obtain ⟨_, r0, r1, r2, f0, f1, f2⟩ := (KB.tail.head).three
  go_wp2
  obtain ⟨_, P0, P1, P2, _, _, _⟩ := ((KB.tail.head).self3 (.int .i64 (y)) (.int .i64 (1)) (.int .i64 (1))).three
  have HB := ((KB.hb.setCell (p := ⟨w.heap.size, 0, none⟩) (by show _ ≤ w.heap.size; omega) (.int .i64 (y))).setCell (p := ⟨w.heap.size, 1, none⟩) (by show _ ≤ w.heap.size; omega) (.int .i64 (1))).setCell (p := ⟨w.heap.size, 2, none⟩) (by show _ ≤ w.heap.size; omega) (.int .i64 (1))
  exact bodyPost_ret (v := .tuple #[.agg #[.int .i64 (y), .int .i64 (1), .int .i64 (1)], .int .i64 0]) (by simp [results, Tryd.results27, go_sem, P0, P1, P2]) rfl ⟨rfl, HB⟩
set_option maxRecDepth 100000 in
set_option maxHeartbeats 4000000 in
theorem regR_1aan (y m d l : Int) (_l1 : 28 ≤ l) (_l2 : l ≤ 31) (hm : m < 1) (hd : d < 1) (MR : Hid (∀ W, Calls Tryd.prog 19 #[.int .i64 y, .int .i64 1] W (fun e w' => e = .returned (.int .i64 l) ∧ W = w'))) (RI : Hid (∀ W, Calls Tryd.prog 40 #[.agg #[.int .i64 y, .int .i64 1, .int .i64 1]] W (RetV W (.bool false)))) (w : World) :
    Calls Tryd.prog 27 #[.int .i64 y, .int .i64 m, .int .i64 d, .int .i64 1] w (RetDE w 0 0 0 4) := by
  have m2 : ¬ (12 : Int) < 1 := by decide
  have d2 : ¬ l < 1 := by omega
  have KB := (BK.nil w).more3 (.int .i64 0) (.int .i64 0) (.int .i64 0) 23
  go_enter Tryd.func27, Tryd.ntmps27
  go_upto_region 1 with (fail)
  generalize w.alloc (.cells #[.int .i64 0, .int .i64 0, .int .i64 0] 23) = w0 at *
  go_upto_region 14 with (go_at_call 19; refine (MR.out _).mono ?_; rintro e w' ⟨rfl, rfl⟩)
  have hg := KB.head.lt
  replace KB := KB.more3 (.int .i64 y) (.int .i64 1) (.int .i64 1) 23
  generalize w0.alloc (.cells #[.int .i64 y, .int .i64 1, .int .i64 1] 23) = w1 at *
  generalize w0.heap.size = g at *
  obtain ⟨_, a0, a1, a2, _⟩ := KB.head.three
  go_wp2_with fail
  clear a0 a1 a2
  refine (RI.out _).mono ?_
  rintro e w2 ⟨rfl, k⟩
  replace KB := KB.below k
  clear k
  obtain ⟨_, a0, a1, a2, _⟩ := KB.head.three
  obtain ⟨_, r0, r1, r2, f0, f1, f2⟩ := (KB.tail.head).three
  go_wp2
  obtain ⟨_, P0, P1, P2, _, _, _⟩ := ((KB.tail.head).self3 (.int .i64 (0)) (.int .i64 (0)) (.int .i64 (0))).three
  have HB := ((KB.hb.setCell (p := ⟨w.heap.size, 0, none⟩) (by show _ ≤ w.heap.size; omega) (.int .i64 (0))).setCell (p := ⟨w.heap.size, 1, none⟩) (by show _ ≤ w.heap.size; omega) (.int .i64 (0))).setCell (p := ⟨w.heap.size, 2, none⟩) (by show _ ≤ w.heap.size; omega) (.int .i64 (0))
  exact bodyPost_ret (v := .tuple #[.agg #[.int .i64 (0), .int .i64 (0), .int .i64 (0)], .int .i64 4]) (by simp [results, Tryd.results27, go_sem, P0, P1, P2]) rfl ⟨rfl, HB⟩
set_option maxRecDepth 100000 in
set_option maxHeartbeats 4000000 in
theorem regR_1aby (y m d l : Int) (_l1 : 28 ≤ l) (_l2 : l ≤ 31) (hm : m < 1) (hd : ¬ d < 1) (he : l < d) (MR : Hid (∀ W, Calls Tryd.prog 19 #[.int .i64 y, .int .i64 1] W (fun e w' => e = .returned (.int .i64 l) ∧ W = w'))) (RI : Hid (∀ W, Calls Tryd.prog 40 #[.agg #[.int .i64 y, .int .i64 1, .int .i64 l]] W (RetV W (.bool true)))) (w : World) :
    Calls Tryd.prog 27 #[.int .i64 y, .int .i64 m, .int .i64 d, .int .i64 1] w (RetDE w y (1) (l) 0) := by
  have m2 : ¬ (12 : Int) < 1 := by decide
  have KB := (BK.nil w).more3 (.int .i64 0) (.int .i64 0) (.int .i64 0) 23
  go_enter Tryd.func27, Tryd.ntmps27
  go_upto_region 1 with (fail)
  generalize w.alloc (.cells #[.int .i64 0, .int .i64 0, .int .i64 0] 23) = w0 at *
  go_upto_region 14 with (go_at_call 19; refine (MR.out _).mono ?_; rintro e w' ⟨rfl, rfl⟩)
  have hg := KB.head.lt
  replace KB := KB.more3 (.int .i64 y) (.int .i64 1) (.int .i64 l) 23
  generalize w0.alloc (.cells #[.int .i64 y, .int .i64 1, .int .i64 l] 23) = w1 at *
  generalize w0.heap.size = g at *
  obtain ⟨_, a0, a1, a2, _⟩ := KB.head.three
  go_wp2_with fail
  clear a0 a1 a2
  refine (RI.out _).mono ?_
  rintro e w2 ⟨rfl, k⟩
  replace KB := KB.below k
  clear k
  obtain ⟨_, a0, a1, a2, _⟩ := KB.head.three
  obtain ⟨_, r0, r1, r2, f0, f1, f2⟩ := (KB.tail.head).three
  go_wp2
  obtain ⟨_, P0, P1, P2, _, _, _⟩ := ((KB.tail.head).self3 (.int .i64 (y)) (.int .i64 (1)) (.int .i64 (l))).three
  have HB := ((KB.hb.setCell (p := ⟨w.heap.size, 0, none⟩) (by show _ ≤ w.heap.size; omega) (.int .i64 (y))).setCell (p := ⟨w.heap.size, 1, none⟩) (by show _ ≤ w.heap.size; omega) (.int .i64 (1))).setCell (p := ⟨w.heap.size, 2, none⟩) (by show _ ≤ w.heap.size; omega) (.int .i64 (l))
  exact bodyPost_ret (v := .tuple #[.agg #[.int .i64 (y), .int .i64 (1), .int .i64 (l)], .int .i64 0]) (by simp [results, Tryd.results27, go_sem, P0, P1, P2]) rfl ⟨rfl, HB⟩
set_option maxRecDepth 100000 in
set_option maxHeartbeats 4000000 in
theorem regR_1abn (y m d l : Int) (_l1 : 28 ≤ l) (_l2 : l ≤ 31) (hm : m < 1) (hd : ¬ d < 1) (he : l < d) (MR : Hid (∀ W, Calls Tryd.prog 19 #[.int .i64 y, .int .i64 1] W (fun e w' => e = .returned (.int .i64 l) ∧ W = w'))) (RI : Hid (∀ W, Calls Tryd.prog 40 #[.agg #[.int .i64 y, .int .i64 1, .int .i64 l]] W (RetV W (.bool false)))) (w : World) :
    Calls Tryd.prog 27 #[.int .i64 y, .int .i64 m, .int .i64 d, .int .i64 1] w (RetDE w 0 0 0 4) := by
  have m2 : ¬ (12 : Int) < 1 := by decide
  have KB := (BK.nil w).more3 (.int .i64 0) (.int .i64 0) (.int .i64 0) 23
  go_enter Tryd.func27, Tryd.ntmps27
  go_upto_region 1 with (fail)
  generalize w.alloc (.cells #[.int .i64 0, .int .i64 0, .int .i64 0] 23) = w0 at *
  go_upto_region 14 with (go_at_call 19; refine (MR.out _).mono ?_; rintro e w' ⟨rfl, rfl⟩)
  have hg := KB.head.lt
  replace KB := KB.more3 (.int .i64 y) (.int .i64 1) (.int .i64 l) 23
  generalize w0.alloc (.cells #[.int .i64 y, .int .i64 1, .int .i64 l] 23) = w1 at *
  generalize w0.heap.size = g at *
  obtain ⟨_, a0, a1, a2, _⟩ := KB.head.three
  go_wp2_with fail
  clear a0 a1 a2
  refine (RI.out _).mono ?_
  rintro e w2 ⟨rfl, k⟩
  replace KB := KB.below k
  clear k
  obtain ⟨_, a0, a1, a2, _⟩ := KB.head.three
  obtain ⟨_, r0, r1, r2, f0, f1, f2⟩ := (KB.tail.head).three
  go_wp2
  obtain ⟨_, P0, P1, P2, _, _, _⟩ := ((KB.tail.head).self3 (.int .i64 (0)) (.int .i64 (0)) (.int .i64 (0))).three
  have HB := ((KB.hb.setCell (p := ⟨w.heap.size, 0, none⟩) (by show _ ≤ w.heap.size; omega) (.int .i64 (0))).setCell (p := ⟨w.heap.size, 1, none⟩) (by show _ ≤ w.heap.size; omega) (.int .i64 (0))).setCell (p := ⟨w.heap.size, 2, none⟩) (by show _ ≤ w.heap.size; omega) (.int .i64 (0))
  exact bodyPost_ret (v := .tuple #[.agg #[.int .i64 (0), .int .i64 (0), .int .i64 (0)], .int .i64 4]) (by simp [results, Tryd.results27, go_sem, P0, P1, P2]) rfl ⟨rfl, HB⟩
set_option maxRecDepth 100000 in
set_option maxHeartbeats 4000000 in
theorem regR_1acy (y m d l : Int) (_l1 : 28 ≤ l) (_l2 : l ≤ 31) (hm : m < 1) (hd : ¬ d < 1) (he : ¬ l < d) (MR : Hid (∀ W, Calls Tryd.prog 19 #[.int .i64 y, .int .i64 1] W (fun e w' => e = .returned (.int .i64 l) ∧ W = w'))) (RI : Hid (∀ W, Calls Tryd.prog 40 #[.agg #[.int .i64 y, .int .i64 1, .int .i64 d]] W (RetV W (.bool true)))) (w : World) :
    Calls Tryd.prog 27 #[.int .i64 y, .int .i64 m, .int .i64 d, .int .i64 1] w (RetDE w y (1) (d) 0) := by
  have m2 : ¬ (12 : Int) < 1 := by decide
  have KB := (BK.nil w).more3 (.int .i64 0) (.int .i64 0) (.int .i64 0) 23
  go_enter Tryd.func27, Tryd.ntmps27
  go_upto_region 1 with (fail)
  generalize w.alloc (.cells #[.int .i64 0, .int .i64 0, .int .i64 0] 23) = w0 at *
  go_upto_region 14 with (go_at_call 19; refine (MR.out _).mono ?_; rintro e w' ⟨rfl, rfl⟩)
  have hg := KB.head.lt
  replace KB := KB.more3 (.int .i64 y) (.int .i64 1) (.int .i64 d) 23
  generalize w0.alloc (.cells #[.int .i64 y, .int .i64 1, .int .i64 d] 23) = w1 at *
  generalize w0.heap.size = g at *
  obtain ⟨_, a0, a1, a2, _⟩ := KB.head.three
  go_wp2_with fail
  clear a0 a1 a2
  refine (RI.out _).mono ?_
  rintro e w2 ⟨rfl, k⟩
  replace KB := KB.below k
  clear k
  obtain ⟨_, a0, a1, a2, _⟩ := KB.head.three
  obtain ⟨_, r0, r1, r2, f0, f1, f2⟩ := (KB.tail.head).three
  go_wp2
  obtain ⟨_, P0, P1, P2, _, _, _⟩ := ((KB.tail.head).self3 (.int .i64 (y)) (.int .i64 (1)) (.int .i64 (d))).three
  have HB := ((KB.hb.setCell (p := ⟨w.heap.size, 0, none⟩) (by show _ ≤ w.heap.size; omega) (.int .i64 (y))).setCell (p := ⟨w.heap.size, 1, none⟩) (by show _ ≤ w.heap.size; omega) (.int .i64 (1))).setCell (p := ⟨w.heap.size, 2, none⟩) (by show _ ≤ w.heap.size; omega) (.int .i64 (d))
  exact bodyPost_ret (v := .tuple #[.agg #[.int .i64 (y), .int .i64 (1), .int .i64 (d)], .int .i64 0]) (by simp [results, Tryd.results27, go_sem, P0, P1, P2]) rfl ⟨rfl, HB⟩
set_option maxRecDepth 100000 in
set_option maxHeartbeats 4000000 in
theorem regR_1acn (y m d l : Int) (_l1 : 28 ≤ l) (_l2 : l ≤ 31) (hm : m < 1) (hd : ¬ d < 1) (he : ¬ l < d) (MR : Hid (∀ W, Calls Tryd.prog 19 #[.int .i64 y, .int .i64 1] W (fun e w' => e = .returned (.int .i64 l) ∧ W = w'))) (RI : Hid (∀ W, Calls Tryd.prog 40 #[.agg #[.int .i64 y, .int .i64 1, .int .i64 d]] W (RetV W (.bool false)))) (w : World) :
    Calls Tryd.prog 27 #[.int .i64 y, .int .i64 m, .int .i64 d, .int .i64 1] w (RetDE w 0 0 0 4) := by
  have m2 : ¬ (12 : Int) < 1 := by decide
  have KB := (BK.nil w).more3 (.int .i64 0) (.int .i64 0) (.int .i64 0) 23
  go_enter Tryd.func27, Tryd.ntmps27
  go_upto_region 1 with (fail)
  generalize w.alloc (.cells #[.int .i64 0, .int .i64 0, .int .i64 0] 23) = w0 at *
  go_upto_region 14 with (go_at_call 19; refine (MR.out _).mono ?_; rintro e w' ⟨rfl, rfl⟩)
  have hg := KB.head.lt
  replace KB := KB.more3 (.int .i64 y) (.int .i64 1) (.int .i64 d) 23
  generalize w0.alloc (.cells #[.int .i64 y, .int .i64 1, .int .i64 d] 23) = w1 at *
  generalize w0.heap.size = g at *
  obtain ⟨_, a0, a1, a2, _⟩ := KB.head.three
  go_wp2_with fail
  clear a0 a1 a2
  refine (RI.out _).mono ?_
  rintro e w2 ⟨rfl, k⟩
  replace KB := KB.below k
  clear k
  obtain ⟨_, a0, a1, a2, _⟩ := KB.head.three
  obtain ⟨_, r0, r1, r2, f0, f1, f2⟩ := (KB.tail.head).three
  go_wp2
  obtain ⟨_, P0, P1, P2, _, _, _⟩ := ((KB.tail.head).self3 (.int .i64 (0)) (.int .i64 (0)) (.int .i64 (0))).three
  have HB := ((KB.hb.setCell (p := ⟨w.heap.size, 0, none⟩) (by show _ ≤ w.heap.size; omega) (.int .i64 (0))).setCell (p := ⟨w.heap.size, 1, none⟩) (by show _ ≤ w.heap.size; omega) (.int .i64 (0))).setCell (p := ⟨w.heap.size, 2, none⟩) (by show _ ≤ w.heap.size; omega) (.int .i64 (0))
  exact bodyPost_ret (v := .tuple #[.agg #[.int .i64 (0), .int .i64 (0), .int .i64 (0)], .int .i64 4]) (by simp [results, Tryd.results27, go_sem, P0, P1, P2]) rfl ⟨rfl, HB⟩
set_option maxRecDepth 100000 in
set_option maxHeartbeats 4000000 in
theorem regR_1bay (y m d l : Int) (_l1 : 28 ≤ l) (_l2 : l ≤ 31) (hm : ¬ m < 1) (hn : 12 < m) (hd : d < 1) (MR : Hid (∀ W, Calls Tryd.prog 19 #[.int .i64 y, .int .i64 12] W (fun e w' => e = .returned (.int .i64 l) ∧ W = w'))) (RI : Hid (∀ W, Calls Tryd.prog 40 #[.agg #[.int .i64 y, .int .i64 12, .int .i64 1]] W (RetV W (.bool true)))) (w : World) :
    Calls Tryd.prog 27 #[.int .i64 y, .int .i64 m, .int .i64 d, .int .i64 1] w (RetDE w y (12) (1) 0) := by
  have d2 : ¬ l < 1 := by omega
  have KB := (BK.nil w).more3 (.int .i64 0) (.int .i64 0) (.int .i64 0) 23
  go_enter Tryd.func27, Tryd.ntmps27
  go_upto_region 1 with (fail)
  generalize w.alloc (.cells #[.int .i64 0, .int .i64 0, .int .i64 0] 23) = w0 at *
  go_upto_region 14 with (go_at_call 19; refine (MR.out _).mono ?_; rintro e w' ⟨rfl, rfl⟩)
  have hg := KB.head.lt
  replace KB := KB.more3 (.int .i64 y) (.int .i64 12) (.int .i64 1) 23
  generalize w0.alloc (.cells #[.int .i64 y, .int .i64 12, .int .i64 1] 23) = w1 at *
  generalize w0.heap.size = g at *
  obtain ⟨_, a0, a1, a2, _⟩ := KB.head.three
  go_wp2_with fail
  clear a0 a1 a2
  refine (RI.out _).mono ?_
  rintro e w2 ⟨rfl, k⟩
  replace KB := KB.below k
  clear k
  obtain ⟨_, a0, a1, a2, _⟩ := KB.head.three
  obtain ⟨_, r0, r1, r2, f0, f1, f2⟩ := (KB.tail.head).three
  go_wp2
  obtain ⟨_, P0, P1, P2, _, _, _⟩ := ((KB.tail.head).self3 (.int .i64 (y)) (.int .i64 (12)) (.int .i64 (1))).three
  have HB := ((KB.hb.setCell (p := ⟨w.heap.size, 0, none⟩) (by show _ ≤ w.heap.size; omega) (.int .i64 (y))).setCell (p := ⟨w.heap.size, 1, none⟩) (by show _ ≤ w.heap.size; omega) (.int .i64 (12))).setCell (p := ⟨w.heap.size, 2, none⟩) (by show _ ≤ w.heap.size; omega) (.int .i64 (1))
  exact bodyPost_ret (v := .tuple #[.agg #[.int .i64 (y), .int .i64 (12), .int .i64 (1)], .int .i64 0]) (by simp [results, Tryd.results27, go_sem, P0, P1, P2]) rfl ⟨rfl, HB⟩
set_option maxRecDepth 100000 in
set_option maxHeartbeats 4000000 in
theorem regR_1ban (y m d l : Int) (_l1 : 28 ≤ l) (_l2 : l ≤ 31) (hm : ¬ m < 1) (hn : 12 < m) (hd : d < 1) (MR : Hid (∀ W, Calls Tryd.prog 19 #[.int .i64 y, .int .i64 12] W (fun e w' => e = .returned (.int .i64 l) ∧ W = w'))) (RI : Hid (∀ W, Calls Tryd.prog 40 #[.agg #[.int .i64 y, .int .i64 12, .int .i64 1]] W (RetV W (.bool false)))) (w : World) :
    Calls Tryd.prog 27 #[.int .i64 y, .int .i64 m, .int .i64 d, .int .i64 1] w (RetDE w 0 0 0 4) := by
  have d2 : ¬ l < 1 := by omega
  have KB := (BK.nil w).more3 (.int .i64 0) (.int .i64 0) (.int .i64 0) 23
  go_enter Tryd.func27, Tryd.ntmps27
  go_upto_region 1 with (fail)
  generalize w.alloc (.cells #[.int .i64 0, .int .i64 0, .int .i64 0] 23) = w0 at *
  go_upto_region 14 with (go_at_call 19; refine (MR.out _).mono ?_; rintro e w' ⟨rfl, rfl⟩)
  have hg := KB.head.lt
  replace KB := KB.more3 (.int .i64 y) (.int .i64 12) (.int .i64 1) 23
  generalize w0.alloc (.cells #[.int .i64 y, .int .i64 12, .int .i64 1] 23) = w1 at *
  generalize w0.heap.size = g at *
  obtain ⟨_, a0, a1, a2, _⟩ := KB.head.three
  go_wp2_with fail
  clear a0 a1 a2
  refine (RI.out _).mono ?_
  rintro e w2 ⟨rfl, k⟩
  replace KB := KB.below k
  clear k
  obtain ⟨_, a0, a1, a2, _⟩ := KB.head.three
  obtain ⟨_, r0, r1, r2, f0, f1, f2⟩ := (KB.tail.head).three
  go_wp2
  obtain ⟨_, P0, P1, P2, _, _, _⟩ := ((KB.tail.head).self3 (.int .i64 (0)) (.int .i64 (0)) (.int .i64 (0))).three
  have HB := ((KB.hb.setCell (p := ⟨w.heap.size, 0, none⟩) (by show _ ≤ w.heap.size; omega) (.int .i64 (0))).setCell (p := ⟨w.heap.size, 1, none⟩) (by show _ ≤ w.heap.size; omega) (.int .i64 (0))).setCell (p := ⟨w.heap.size, 2, none⟩) (by show _ ≤ w.heap.size; omega) (.int .i64 (0))
  exact bodyPost_ret (v := .tuple #[.agg #[.int .i64 (0), .int .i64 (0), .int .i64 (0)], .int .i64 4]) (by simp [results, Tryd.results27, go_sem, P0, P1, P2]) rfl ⟨rfl, HB⟩
set_option maxRecDepth 100000 in
set_option maxHeartbeats 4000000 in
theorem regR_1bby (y m d l : Int) (_l1 : 28 ≤ l) (_l2 : l ≤ 31) (hm : ¬ m < 1) (hn : 12 < m) (hd : ¬ d < 1) (he : l < d) (MR : Hid (∀ W, Calls Tryd.prog 19 #[.int .i64 y, .int .i64 12] W (fun e w' => e = .returned (.int .i64 l) ∧ W = w'))) (RI : Hid (∀ W, Calls Tryd.prog 40 #[.agg #[.int .i64 y, .int .i64 12, .int .i64 l]] W (RetV W (.bool true)))) (w : World) :
    Calls Tryd.prog 27 #[.int .i64 y, .int .i64 m, .int .i64 d, .int .i64 1] w (RetDE w y (12) (l) 0) := by
  have KB := (BK.nil w).more3 (.int .i64 0) (.int .i64 0) (.int .i64 0) 23
  go_enter Tryd.func27, Tryd.ntmps27
  go_upto_region 1 with (fail)
  generalize w.alloc (.cells #[.int .i64 0, .int .i64 0, .int .i64 0] 23) = w0 at *
  go_upto_region 14 with (go_at_call 19; refine (MR.out _).mono ?_; rintro e w' ⟨rfl, rfl⟩)
  have hg := KB.head.lt
  replace KB := KB.more3 (.int .i64 y) (.int .i64 12) (.int .i64 l) 23
  generalize w0.alloc (.cells #[.int .i64 y, .int .i64 12, .int .i64 l] 23) = w1 at *
  generalize w0.heap.size = g at *
  obtain ⟨_, a0, a1, a2, _⟩ := KB.head.three
  go_wp2_with fail
  clear a0 a1 a2
  refine (RI.out _).mono ?_
  rintro e w2 ⟨rfl, k⟩
  replace KB := KB.below k
  clear k
  obtain ⟨_, a0, a1, a2, _⟩ := KB.head.three
  obtain ⟨_, r0, r1, r2, f0, f1, f2⟩ := (KB.tail.head).three
  go_wp2
  obtain ⟨_, P0, P1, P2, _, _, _⟩ := ((KB.tail.head).self3 (.int .i64 (y)) (.int .i64 (12)) (.int .i64 (l))).three
  have HB := ((KB.hb.setCell (p := ⟨w.heap.size, 0, none⟩) (by show _ ≤ w.heap.size; omega) (.int .i64 (y))).setCell (p := ⟨w.heap.size, 1, none⟩) (by show _ ≤ w.heap.size; omega) (.int .i64 (12))).setCell (p := ⟨w.heap.size, 2, none⟩) (by show _ ≤ w.heap.size; omega) (.int .i64 (l))
  exact bodyPost_ret (v := .tuple #[.agg #[.int .i64 (y), .int .i64 (12), .int .i64 (l)], .int .i64 0]) (by simp [results, Tryd.results27, go_sem, P0, P1, P2]) rfl ⟨rfl, HB⟩
set_option maxRecDepth 100000 in
set_option maxHeartbeats 4000000 in
theorem regR_1bbn (y m d l : Int) (_l1 : 28 ≤ l) (_l2 : l ≤ 31) (hm : ¬ m < 1) (hn : 12 < m) (hd : ¬ d < 1) (he : l < d) (MR : Hid (∀ W, Calls Tryd.prog 19 #[.int .i64 y, .int .i64 12] W (fun e w' => e = .returned (.int .i64 l) ∧ W = w'))) (RI : Hid (∀ W, Calls Tryd.prog 40 #[.agg #[.int .i64 y, .int .i64 12, .int .i64 l]] W (RetV W (.bool false)))) (w : World) :
    Calls Tryd.prog 27 #[.int .i64 y, .int .i64 m, .int .i64 d, .int .i64 1] w (RetDE w 0 0 0 4) := by
  have KB := (BK.nil w).more3 (.int .i64 0) (.int .i64 0) (.int .i64 0) 23
  go_enter Tryd.func27, Tryd.ntmps27
  go_upto_region 1 with (fail)
  generalize w.alloc (.cells #[.int .i64 0, .int .i64 0, .int .i64 0] 23) = w0 at *
  go_upto_region 14 with (go_at_call 19; refine (MR.out _).mono ?_; rintro e w' ⟨rfl, rfl⟩)
  have hg := KB.head.lt
  replace KB := KB.more3 (.int .i64 y) (.int .i64 12) (.int .i64 l) 23
  generalize w0.alloc (.cells #[.int .i64 y, .int .i64 12, .int .i64 l] 23) = w1 at *
  generalize w0.heap.size = g at *
  obtain ⟨_, a0, a1, a2, _⟩ := KB.head.three
  go_wp2_with fail
  clear a0 a1 a2
  refine (RI.out _).mono ?_
  rintro e w2 ⟨rfl, k⟩
  replace KB := KB.below k
  clear k
  obtain ⟨_, a0, a1, a2, _⟩ := KB.head.three
  obtain ⟨_, r0, r1, r2, f0, f1, f2⟩ := (KB.tail.head).three
  go_wp2
  obtain ⟨_, P0, P1, P2, _, _, _⟩ := ((KB.tail.head).self3 (.int .i64 (0)) (.int .i64 (0)) (.int .i64 (0))).three
  have HB := ((KB.hb.setCell (p := ⟨w.heap.size, 0, none⟩) (by show _ ≤ w.heap.size; omega) (.int .i64 (0))).setCell (p := ⟨w.heap.size, 1, none⟩) (by show _ ≤ w.heap.size; omega) (.int .i64 (0))).setCell (p := ⟨w.heap.size, 2, none⟩) (by show _ ≤ w.heap.size; omega) (.int .i64 (0))
  exact bodyPost_ret (v := .tuple #[.agg #[.int .i64 (0), .int .i64 (0), .int .i64 (0)], .int .i64 4]) (by simp [results, Tryd.results27, go_sem, P0, P1, P2]) rfl ⟨rfl, HB⟩
set_option maxRecDepth 100000 in
set_option maxHeartbeats 4000000 in
theorem regR_1bcy (y m d l : Int) (_l1 : 28 ≤ l) (_l2 : l ≤ 31) (hm : ¬ m < 1) (hn : 12 < m) (hd : ¬ d < 1) (he : ¬ l < d) (MR : Hid (∀ W, Calls Tryd.prog 19 #[.int .i64 y, .int .i64 12] W (fun e w' => e = .returned (.int .i64 l) ∧ W = w'))) (RI : Hid (∀ W, Calls Tryd.prog 40 #[.agg #[.int .i64 y, .int .i64 12, .int .i64 d]] W (RetV W (.bool true)))) (w : World) :
    Calls Tryd.prog 27 #[.int .i64 y, .int .i64 m, .int .i64 d, .int .i64 1] w (RetDE w y (12) (d) 0) := by
  have KB := (BK.nil w).more3 (.int .i64 0) (.int .i64 0) (.int .i64 0) 23
  go_enter Tryd.func27, Tryd.ntmps27
  go_upto_region 1 with (fail)
  generalize w.alloc (.cells #[.int .i64 0, .int .i64 0, .int .i64 0] 23) = w0 at *
  go_upto_region 14 with (go_at_call 19; refine (MR.out _).mono ?_; rintro e w' ⟨rfl, rfl⟩)
  have hg := KB.head.lt
  replace KB := KB.more3 (.int .i64 y) (.int .i64 12) (.int .i64 d) 23
  generalize w0.alloc (.cells #[.int .i64 y, .int .i64 12, .int .i64 d] 23) = w1 at *
  generalize w0.heap.size = g at *
  obtain ⟨_, a0, a1, a2, _⟩ := KB.head.three
  go_wp2_with fail
  clear a0 a1 a2
  refine (RI.out _).mono ?_
  rintro e w2 ⟨rfl, k⟩
  replace KB := KB.below k
  clear k
  obtain ⟨_, a0, a1, a2, _⟩ := KB.head.three
  obtain ⟨_, r0, r1, r2, f0, f1, f2⟩ := (KB.tail.head).three
  go_wp2
  obtain ⟨_, P0, P1, P2, _, _, _⟩ := ((KB.tail.head).self3 (.int .i64 (y)) (.int .i64 (12)) (.int .i64 (d))).three
  have HB := ((KB.hb.setCell (p := ⟨w.heap.size, 0, none⟩) (by show _ ≤ w.heap.size; omega) (.int .i64 (y))).setCell (p := ⟨w.heap.size, 1, none⟩) (by show _ ≤ w.heap.size; omega) (.int .i64 (12))).setCell (p := ⟨w.heap.size, 2, none⟩) (by show _ ≤ w.heap.size; omega) (.int .i64 (d))
  exact bodyPost_ret (v := .tuple #[.agg #[.int .i64 (y), .int .i64 (12), .int .i64 (d)], .int .i64 0]) (by simp [results, Tryd.results27, go_sem, P0, P1, P2]) rfl ⟨rfl, HB⟩
set_option maxRecDepth 100000 in
set_option maxHeartbeats 4000000 in
theorem regR_1bcn (y m d l : Int) (_l1 : 28 ≤ l) (_l2 : l ≤ 31) (hm : ¬ m < 1) (hn : 12 < m) (hd : ¬ d < 1) (he : ¬ l < d) (MR : Hid (∀ W, Calls Tryd.prog 19 #[.int .i64 y, .int .i64 12] W (fun e w' => e = .returned (.int .i64 l) ∧ W = w'))) (RI : Hid (∀ W, Calls Tryd.prog 40 #[.agg #[.int .i64 y, .int .i64 12, .int .i64 d]] W (RetV W (.bool false)))) (w : World) :
    Calls Tryd.prog 27 #[.int .i64 y, .int .i64 m, .int .i64 d, .int .i64 1] w (RetDE w 0 0 0 4) := by
  have KB := (BK.nil w).more3 (.int .i64 0) (.int .i64 0) (.int .i64 0) 23
  go_enter Tryd.func27, Tryd.ntmps27
  go_upto_region 1 with (fail)
  generalize w.alloc (.cells #[.int .i64 0, .int .i64 0, .int .i64 0] 23) = w0 at *
  go_upto_region 14 with (go_at_call 19; refine (MR.out _).mono ?_; rintro e w' ⟨rfl, rfl⟩)
  have hg := KB.head.lt
  replace KB := KB.more3 (.int .i64 y) (.int .i64 12) (.int .i64 d) 23
  generalize w0.alloc (.cells #[.int .i64 y, .int .i64 12, .int .i64 d] 23) = w1 at *
  generalize w0.heap.size = g at *
  obtain ⟨_, a0, a1, a2, _⟩ := KB.head.three
  go_wp2_with fail
  clear a0 a1 a2
  refine (RI.out _).mono ?_
  rintro e w2 ⟨rfl, k⟩
  replace KB := KB.below k
  clear k
  obtain ⟨_, a0, a1, a2, _⟩ := KB.head.three
  obtain ⟨_, r0, r1, r2, f0, f1, f2⟩ := (KB.tail.head).three
  go_wp2
  obtain ⟨_, P0, P1, P2, _, _, _⟩ := ((KB.tail.head).self3 (.int .i64 (0)) (.int .i64 (0)) (.int .i64 (0))).three
  have HB := ((KB.hb.setCell (p := ⟨w.heap.size, 0, none⟩) (by show _ ≤ w.heap.size; omega) (.int .i64 (0))).setCell (p := ⟨w.heap.size, 1, none⟩) (by show _ ≤ w.heap.size; omega) (.int .i64 (0))).setCell (p := ⟨w.heap.size, 2, none⟩) (by show _ ≤ w.heap.size; omega) (.int .i64 (0))
  exact bodyPost_ret (v := .tuple #[.agg #[.int .i64 (0), .int .i64 (0), .int .i64 (0)], .int .i64 4]) (by simp [results, Tryd.results27, go_sem, P0, P1, P2]) rfl ⟨rfl, HB⟩
set_option maxRecDepth 100000 in
set_option maxHeartbeats 4000000 in
theorem regR_1cay (y m d l : Int) (_l1 : 28 ≤ l) (_l2 : l ≤ 31) (hm : ¬ m < 1) (hn : ¬ 12 < m) (hd : d < 1) (MR : Hid (∀ W, Calls Tryd.prog 19 #[.int .i64 y, .int .i64 m] W (fun e w' => e = .returned (.int .i64 l) ∧ W = w'))) (RI : Hid (∀ W, Calls Tryd.prog 40 #[.agg #[.int .i64 y, .int .i64 m, .int .i64 1]] W (RetV W (.bool true)))) (w : World) :
    Calls Tryd.prog 27 #[.int .i64 y, .int .i64 m, .int .i64 d, .int .i64 1] w (RetDE w y (m) (1) 0) := by
  have d2 : ¬ l < 1 := by omega
  have KB := (BK.nil w).more3 (.int .i64 0) (.int .i64 0) (.int .i64 0) 23
  go_enter Tryd.func27, Tryd.ntmps27
  go_upto_region 1 with (fail)
  generalize w.alloc (.cells #[.int .i64 0, .int .i64 0, .int .i64 0] 23) = w0 at *
  go_upto_region 14 with (go_at_call 19; refine (MR.out _).mono ?_; rintro e w' ⟨rfl, rfl⟩)
  have hg := KB.head.lt
  replace KB := KB.more3 (.int .i64 y) (.int .i64 m) (.int .i64 1) 23
  generalize w0.alloc (.cells #[.int .i64 y, .int .i64 m, .int .i64 1] 23) = w1 at *
  generalize w0.heap.size = g at *
  obtain ⟨_, a0, a1, a2, _⟩ := KB.head.three
  go_wp2_with fail
  clear a0 a1 a2
  refine (RI.out _).mono ?_
  rintro e w2 ⟨rfl, k⟩
  replace KB := KB.below k
  clear k
  obtain ⟨_, a0, a1, a2, _⟩ := KB.head.three
  obtain ⟨_, r0, r1, r2, f0, f1, f2⟩ := (KB.tail.head).three
  go_wp2
  obtain ⟨_, P0, P1, P2, _, _, _⟩ := ((KB.tail.head).self3 (.int .i64 (y)) (.int .i64 (m)) (.int .i64 (1))).three
  have HB := ((KB.hb.setCell (p := ⟨w.heap.size, 0, none⟩) (by show _ ≤ w.heap.size; omega) (.int .i64 (y))).setCell (p := ⟨w.heap.size, 1, none⟩) (by show _ ≤ w.heap.size; omega) (.int .i64 (m))).setCell (p := ⟨w.heap.size, 2, none⟩) (by show _ ≤ w.heap.size; omega) (.int .i64 (1))
  exact bodyPost_ret (v := .tuple #[.agg #[.int .i64 (y), .int .i64 (m), .int .i64 (1)], .int .i64 0]) (by simp [results, Tryd.results27, go_sem, P0, P1, P2]) rfl ⟨rfl, HB⟩
set_option maxRecDepth 100000 in
set_option maxHeartbeats 4000000 in
theorem regR_1can (y m d l : Int) (_l1 : 28 ≤ l) (_l2 : l ≤ 31) (hm : ¬ m < 1) (hn : ¬ 12 < m) (hd : d < 1) (MR : Hid (∀ W, Calls Tryd.prog 19 #[.int .i64 y, .int .i64 m] W (fun e w' => e = .returned (.int .i64 l) ∧ W = w'))) (RI : Hid (∀ W, Calls Tryd.prog 40 #[.agg #[.int .i64 y, .int .i64 m, .int .i64 1]] W (RetV W (.bool false)))) (w : World) :
    Calls Tryd.prog 27 #[.int .i64 y, .int .i64 m, .int .i64 d, .int .i64 1] w (RetDE w 0 0 0 4) := by
  have d2 : ¬ l < 1 := by omega
  have KB := (BK.nil w).more3 (.int .i64 0) (.int .i64 0) (.int .i64 0) 23
  go_enter Tryd.func27, Tryd.ntmps27
  go_upto_region 1 with (fail)
  generalize w.alloc (.cells #[.int .i64 0, .int .i64 0, .int .i64 0] 23) = w0 at *
  go_upto_region 14 with (go_at_call 19; refine (MR.out _).mono ?_; rintro e w' ⟨rfl, rfl⟩)
  have hg := KB.head.lt
  replace KB := KB.more3 (.int .i64 y) (.int .i64 m) (.int .i64 1) 23
  generalize w0.alloc (.cells #[.int .i64 y, .int .i64 m, .int .i64 1] 23) = w1 at *
  generalize w0.heap.size = g at *
  obtain ⟨_, a0, a1, a2, _⟩ := KB.head.three
  go_wp2_with fail
  clear a0 a1 a2
  refine (RI.out _).mono ?_
  rintro e w2 ⟨rfl, k⟩
  replace KB := KB.below k
  clear k
  obtain ⟨_, a0, a1, a2, _⟩ := KB.head.three
  obtain ⟨_, r0, r1, r2, f0, f1, f2⟩ := (KB.tail.head).three
  go_wp2
  obtain ⟨_, P0, P1, P2, _, _, _⟩ := ((KB.tail.head).self3 (.int .i64 (0)) (.int .i64 (0)) (.int .i64 (0))).three
  have HB := ((KB.hb.setCell (p := ⟨w.heap.size, 0, none⟩) (by show _ ≤ w.heap.size; omega) (.int .i64 (0))).setCell (p := ⟨w.heap.size, 1, none⟩) (by show _ ≤ w.heap.size; omega) (.int .i64 (0))).setCell (p := ⟨w.heap.size, 2, none⟩) (by show _ ≤ w.heap.size; omega) (.int .i64 (0))
  exact bodyPost_ret (v := .tuple #[.agg #[.int .i64 (0), .int .i64 (0), .int .i64 (0)], .int .i64 4]) (by simp [results, Tryd.results27, go_sem, P0, P1, P2]) rfl ⟨rfl, HB⟩
set_option maxRecDepth 100000 in
set_option maxHeartbeats 4000000 in
theorem regR_1cby (y m d l : Int) (_l1 : 28 ≤ l) (_l2 : l ≤ 31) (hm : ¬ m < 1) (hn : ¬ 12 < m) (hd : ¬ d < 1) (he : l < d) (MR : Hid (∀ W, Calls Tryd.prog 19 #[.int .i64 y, .int .i64 m] W (fun e w' => e = .returned (.int .i64 l) ∧ W = w'))) (RI : Hid (∀ W, Calls Tryd.prog 40 #[.agg #[.int .i64 y, .int .i64 m, .int .i64 l]] W (RetV W (.bool true)))) (w : World) :
    Calls Tryd.prog 27 #[.int .i64 y, .int .i64 m, .int .i64 d, .int .i64 1] w (RetDE w y (m) (l) 0) := by
  have KB := (BK.nil w).more3 (.int .i64 0) (.int .i64 0) (.int .i64 0) 23
  go_enter Tryd.func27, Tryd.ntmps27
  go_upto_region 1 with (fail)
  generalize w.alloc (.cells #[.int .i64 0, .int .i64 0, .int .i64 0] 23) = w0 at *
  go_upto_region 14 with (go_at_call 19; refine (MR.out _).mono ?_; rintro e w' ⟨rfl, rfl⟩)
  have hg := KB.head.lt
  replace KB := KB.more3 (.int .i64 y) (.int .i64 m) (.int .i64 l) 23
  generalize w0.alloc (.cells #[.int .i64 y, .int .i64 m, .int .i64 l] 23) = w1 at *
  generalize w0.heap.size = g at *
  obtain ⟨_, a0, a1, a2, _⟩ := KB.head.three
  go_wp2_with fail
  clear a0 a1 a2
  refine (RI.out _).mono ?_
  rintro e w2 ⟨rfl, k⟩
  replace KB := KB.below k
  clear k
  obtain ⟨_, a0, a1, a2, _⟩ := KB.head.three
  obtain ⟨_, r0, r1, r2, f0, f1, f2⟩ := (KB.tail.head).three
  go_wp2
  obtain ⟨_, P0, P1, P2, _, _, _⟩ := ((KB.tail.head).self3 (.int .i64 (y)) (.int .i64 (m)) (.int .i64 (l))).three
  have HB := ((KB.hb.setCell (p := ⟨w.heap.size, 0, none⟩) (by show _ ≤ w.heap.size; omega) (.int .i64 (y))).setCell (p := ⟨w.heap.size, 1, none⟩) (by show _ ≤ w.heap.size; omega) (.int .i64 (m))).setCell (p := ⟨w.heap.size, 2, none⟩) (by show _ ≤ w.heap.size; omega) (.int .i64 (l))
  exact bodyPost_ret (v := .tuple #[.agg #[.int .i64 (y), .int .i64 (m), .int .i64 (l)], .int .i64 0]) (by simp [results, Tryd.results27, go_sem, P0, P1, P2]) rfl ⟨rfl, HB⟩
set_option maxRecDepth 100000 in
set_option maxHeartbeats 4000000 in
theorem regR_1cbn (y m d l : Int) (_l1 : 28 ≤ l) (_l2 : l ≤ 31) (hm : ¬ m < 1) (hn : ¬ 12 < m) (hd : ¬ d < 1) (he : l < d) (MR : Hid (∀ W, Calls Tryd.prog 19 #[.int .i64 y, .int .i64 m] W (fun e w' => e = .returned (.int .i64 l) ∧ W = w'))) (RI : Hid (∀ W, Calls Tryd.prog 40 #[.agg #[.int .i64 y, .int .i64 m, .int .i64 l]] W (RetV W (.bool false)))) (w : World) :
    Calls Tryd.prog 27 #[.int .i64 y, .int .i64 m, .int .i64 d, .int .i64 1] w (RetDE w 0 0 0 4) := by
  have KB := (BK.nil w).more3 (.int .i64 0) (.int .i64 0) (.int .i64 0) 23
  go_enter Tryd.func27, Tryd.ntmps27
  go_upto_region 1 with (fail)
  generalize w.alloc (.cells #[.int .i64 0, .int .i64 0, .int .i64 0] 23) = w0 at *
  go_upto_region 14 with (go_at_call 19; refine (MR.out _).mono ?_; rintro e w' ⟨rfl, rfl⟩)
  have hg := KB.head.lt
  replace KB := KB.more3 (.int .i64 y) (.int .i64 m) (.int .i64 l) 23
  generalize w0.alloc (.cells #[.int .i64 y, .int .i64 m, .int .i64 l] 23) = w1 at *
  generalize w0.heap.size = g at *
  obtain ⟨_, a0, a1, a2, _⟩ := KB.head.three
  go_wp2_with fail
  clear a0 a1 a2
  refine (RI.out _).mono ?_
  rintro e w2 ⟨rfl, k⟩
  replace KB := KB.below k
  clear k
  obtain ⟨_, a0, a1, a2, _⟩ := KB.head.three
  obtain ⟨_, r0, r1, r2, f0, f1, f2⟩ := (KB.tail.head).three
  go_wp2
  obtain ⟨_, P0, P1, P2, _, _, _⟩ := ((KB.tail.head).self3 (.int .i64 (0)) (.int .i64 (0)) (.int .i64 (0))).three
  have HB := ((KB.hb.setCell (p := ⟨w.heap.size, 0, none⟩) (by show _ ≤ w.heap.size; omega) (.int .i64 (0))).setCell (p := ⟨w.heap.size, 1, none⟩) (by show _ ≤ w.heap.size; omega) (.int .i64 (0))).setCell (p := ⟨w.heap.size, 2, none⟩) (by show _ ≤ w.heap.size; omega) (.int .i64 (0))
  exact bodyPost_ret (v := .tuple #[.agg #[.int .i64 (0), .int .i64 (0), .int .i64 (0)], .int .i64 4]) (by simp [results, Tryd.results27, go_sem, P0, P1, P2]) rfl ⟨rfl, HB⟩
set_option maxRecDepth 100000 in
set_option maxHeartbeats 4000000 in
theorem regR_1ccy (y m d l : Int) (_l1 : 28 ≤ l) (_l2 : l ≤ 31) (hm : ¬ m < 1) (hn : ¬ 12 < m) (hd : ¬ d < 1) (he : ¬ l < d) (MR : Hid (∀ W, Calls Tryd.prog 19 #[.int .i64 y, .int .i64 m] W (fun e w' => e = .returned (.int .i64 l) ∧ W = w'))) (RI : Hid (∀ W, Calls Tryd.prog 40 #[.agg #[.int .i64 y, .int .i64 m, .int .i64 d]] W (RetV W (.bool true)))) (w : World) :
    Calls Tryd.prog 27 #[.int .i64 y, .int .i64 m, .int .i64 d, .int .i64 1] w (RetDE w y (m) (d) 0) := by
  have KB := (BK.nil w).more3 (.int .i64 0) (.int .i64 0) (.int .i64 0) 23
  go_enter Tryd.func27, Tryd.ntmps27
  go_upto_region 1 with (fail)
  generalize w.alloc (.cells #[.int .i64 0, .int .i64 0, .int .i64 0] 23) = w0 at *
  go_upto_region 14 with (go_at_call 19; refine (MR.out _).mono ?_; rintro e w' ⟨rfl, rfl⟩)
  have hg := KB.head.lt
  replace KB := KB.more3 (.int .i64 y) (.int .i64 m) (.int .i64 d) 23
  generalize w0.alloc (.cells #[.int .i64 y, .int .i64 m, .int .i64 d] 23) = w1 at *
  generalize w0.heap.size = g at *
  obtain ⟨_, a0, a1, a2, _⟩ := KB.head.three
  go_wp2_with fail
  clear a0 a1 a2
  refine (RI.out _).mono ?_
  rintro e w2 ⟨rfl, k⟩
  replace KB := KB.below k
  clear k
  obtain ⟨_, a0, a1, a2, _⟩ := KB.head.three
  obtain ⟨_, r0, r1, r2, f0, f1, f2⟩ := (KB.tail.head).three
  go_wp2
  obtain ⟨_, P0, P1, P2, _, _, _⟩ := ((KB.tail.head).self3 (.int .i64 (y)) (.int .i64 (m)) (.int .i64 (d))).three
  have HB := ((KB.hb.setCell (p := ⟨w.heap.size, 0, none⟩) (by show _ ≤ w.heap.size; omega) (.int .i64 (y))).setCell (p := ⟨w.heap.size, 1, none⟩) (by show _ ≤ w.heap.size; omega) (.int .i64 (m))).setCell (p := ⟨w.heap.size, 2, none⟩) (by show _ ≤ w.heap.size; omega) (.int .i64 (d))
  exact bodyPost_ret (v := .tuple #[.agg #[.int .i64 (y), .int .i64 (m), .int .i64 (d)], .int .i64 0]) (by simp [results, Tryd.results27, go_sem, P0, P1, P2]) rfl ⟨rfl, HB⟩
set_option maxRecDepth 100000 in
set_option maxHeartbeats 4000000 in
theorem regR_1ccn (y m d l : Int) (_l1 : 28 ≤ l) (_l2 : l ≤ 31) (hm : ¬ m < 1) (hn : ¬ 12 < m) (hd : ¬ d < 1) (he : ¬ l < d) (MR : Hid (∀ W, Calls Tryd.prog 19 #[.int .i64 y, .int .i64 m] W (fun e w' => e = .returned (.int .i64 l) ∧ W = w'))) (RI : Hid (∀ W, Calls Tryd.prog 40 #[.agg #[.int .i64 y, .int .i64 m, .int .i64 d]] W (RetV W (.bool false)))) (w : World) :
    Calls Tryd.prog 27 #[.int .i64 y, .int .i64 m, .int .i64 d, .int .i64 1] w (RetDE w 0 0 0 4) := by
  have KB := (BK.nil w).more3 (.int .i64 0) (.int .i64 0) (.int .i64 0) 23
  go_enter Tryd.func27, Tryd.ntmps27
  go_upto_region 1 with (fail)
  generalize w.alloc (.cells #[.int .i64 0, .int .i64 0, .int .i64 0] 23) = w0 at *
  go_upto_region 14 with (go_at_call 19; refine (MR.out _).mono ?_; rintro e w' ⟨rfl, rfl⟩)
  have hg := KB.head.lt
  replace KB := KB.more3 (.int .i64 y) (.int .i64 m) (.int .i64 d) 23
  generalize w0.alloc (.cells #[.int .i64 y, .int .i64 m, .int .i64 d] 23) = w1 at *
  generalize w0.heap.size = g at *
  obtain ⟨_, a0, a1, a2, _⟩ := KB.head.three
  go_wp2_with fail
  clear a0 a1 a2
  refine (RI.out _).mono ?_
  rintro e w2 ⟨rfl, k⟩
  replace KB := KB.below k
  clear k
  obtain ⟨_, a0, a1, a2, _⟩ := KB.head.three
  obtain ⟨_, r0, r1, r2, f0, f1, f2⟩ := (KB.tail.head).three
  go_wp2
  obtain ⟨_, P0, P1, P2, _, _, _⟩ := ((KB.tail.head).self3 (.int .i64 (0)) (.int .i64 (0)) (.int .i64 (0))).three
  have HB := ((KB.hb.setCell (p := ⟨w.heap.size, 0, none⟩) (by show _ ≤ w.heap.size; omega) (.int .i64 (0))).setCell (p := ⟨w.heap.size, 1, none⟩) (by show _ ≤ w.heap.size; omega) (.int .i64 (0))).setCell (p := ⟨w.heap.size, 2, none⟩) (by show _ ≤ w.heap.size; omega) (.int .i64 (0))
  exact bodyPost_ret (v := .tuple #[.agg #[.int .i64 (0), .int .i64 (0), .int .i64 (0)], .int .i64 4]) (by simp [results, Tryd.results27, go_sem, P0, P1, P2]) rfl ⟨rfl, HB⟩
set_option maxRecDepth 100000 in
set_option maxHeartbeats 4000000 in
theorem regR_2ccy (y m d l : Int) (_l1 : 28 ≤ l) (_l2 : l ≤ 31) (hm : ¬ m < 1) (hn : ¬ 12 < m) (hd : ¬ d < 1) (he : ¬ l < d) (MR : Hid (∀ W, Calls Tryd.prog 19 #[.int .i64 y, .int .i64 m] W (fun e w' => e = .returned (.int .i64 l) ∧ W = w'))) (RI : Hid (∀ W, Calls Tryd.prog 40 #[.agg #[.int .i64 y, .int .i64 m, .int .i64 d]] W (RetV W (.bool true)))) (w : World) :
    Calls Tryd.prog 27 #[.int .i64 y, .int .i64 m, .int .i64 d, .int .i64 2] w (RetDE w y (m) (d) 0) := by
  have KB := (BK.nil w).more3 (.int .i64 0) (.int .i64 0) (.int .i64 0) 23
  go_enter Tryd.func27, Tryd.ntmps27
  go_upto_region 1 with (fail)
  generalize w.alloc (.cells #[.int .i64 0, .int .i64 0, .int .i64 0] 23) = w0 at *
  go_upto_region 14 with (go_at_call 19; refine (MR.out _).mono ?_; rintro e w' ⟨rfl, rfl⟩)
  have hg := KB.head.lt
  replace KB := KB.more3 (.int .i64 y) (.int .i64 m) (.int .i64 d) 23
  generalize w0.alloc (.cells #[.int .i64 y, .int .i64 m, .int .i64 d] 23) = w1 at *
  generalize w0.heap.size = g at *
  obtain ⟨_, a0, a1, a2, _⟩ := KB.head.three
  go_wp2_with fail
  clear a0 a1 a2
  refine (RI.out _).mono ?_
  rintro e w2 ⟨rfl, k⟩
  replace KB := KB.below k
  clear k
  obtain ⟨_, a0, a1, a2, _⟩ := KB.head.three
  obtain ⟨_, r0, r1, r2, f0, f1, f2⟩ := (KB.tail.head).three
  go_wp2
  obtain ⟨_, P0, P1, P2, _, _, _⟩ := ((KB.tail.head).self3 (.int .i64 (y)) (.int .i64 (m)) (.int .i64 (d))).three
  have HB := ((KB.hb.setCell (p := ⟨w.heap.size, 0, none⟩) (by show _ ≤ w.heap.size; omega) (.int .i64 (y))).setCell (p := ⟨w.heap.size, 1, none⟩) (by show _ ≤ w.heap.size; omega) (.int .i64 (m))).setCell (p := ⟨w.heap.size, 2, none⟩) (by show _ ≤ w.heap.size; omega) (.int .i64 (d))
  exact bodyPost_ret (v := .tuple #[.agg #[.int .i64 (y), .int .i64 (m), .int .i64 (d)], .int .i64 0]) (by simp [results, Tryd.results27, go_sem, P0, P1, P2]) rfl ⟨rfl, HB⟩
set_option maxRecDepth 100000 in
set_option maxHeartbeats 4000000 in
theorem regR_2ccn (y m d l : Int) (_l1 : 28 ≤ l) (_l2 : l ≤ 31) (hm : ¬ m < 1) (hn : ¬ 12 < m) (hd : ¬ d < 1) (he : ¬ l < d) (MR : Hid (∀ W, Calls Tryd.prog 19 #[.int .i64 y, .int .i64 m] W (fun e w' => e = .returned (.int .i64 l) ∧ W = w'))) (RI : Hid (∀ W, Calls Tryd.prog 40 #[.agg #[.int .i64 y, .int .i64 m, .int .i64 d]] W (RetV W (.bool false)))) (w : World) :
    Calls Tryd.prog 27 #[.int .i64 y, .int .i64 m, .int .i64 d, .int .i64 2] w (RetDE w 0 0 0 4) := by
  have KB := (BK.nil w).more3 (.int .i64 0) (.int .i64 0) (.int .i64 0) 23
  go_enter Tryd.func27, Tryd.ntmps27
  go_upto_region 1 with (fail)
  generalize w.alloc (.cells #[.int .i64 0, .int .i64 0, .int .i64 0] 23) = w0 at *
  go_upto_region 14 with (go_at_call 19; refine (MR.out _).mono ?_; rintro e w' ⟨rfl, rfl⟩)
  have hg := KB.head.lt
  replace KB := KB.more3 (.int .i64 y) (.int .i64 m) (.int .i64 d) 23
  generalize w0.alloc (.cells #[.int .i64 y, .int .i64 m, .int .i64 d] 23) = w1 at *
  generalize w0.heap.size = g at *
  obtain ⟨_, a0, a1, a2, _⟩ := KB.head.three
  go_wp2_with fail
  clear a0 a1 a2
  refine (RI.out _).mono ?_
  rintro e w2 ⟨rfl, k⟩
  replace KB := KB.below k
  clear k
  obtain ⟨_, a0, a1, a2, _⟩ := KB.head.three
  obtain ⟨_, r0, r1, r2, f0, f1, f2⟩ := (KB.tail.head).three
  go_wp2
  obtain ⟨_, P0, P1, P2, _, _, _⟩ := ((KB.tail.head).self3 (.int .i64 (0)) (.int .i64 (0)) (.int .i64 (0))).three
  have HB := ((KB.hb.setCell (p := ⟨w.heap.size, 0, none⟩) (by show _ ≤ w.heap.size; omega) (.int .i64 (0))).setCell (p := ⟨w.heap.size, 1, none⟩) (by show _ ≤ w.heap.size; omega) (.int .i64 (0))).setCell (p := ⟨w.heap.size, 2, none⟩) (by show _ ≤ w.heap.size; omega) (.int .i64 (0))
  exact bodyPost_ret (v := .tuple #[.agg #[.int .i64 (0), .int .i64 (0), .int .i64 (0)], .int .i64 4]) (by simp [results, Tryd.results27, go_sem, P0, P1, P2]) rfl ⟨rfl, HB⟩
theorem cl_ok (y m d : Int) : dayOk y (clM m) (clD y (clM m) d) := by
  have hm : 1 ≤ clM m ∧ clM m ≤ 12 := by unfold clM; split <;> (try split) <;> omega
  have l := lenM_range (y := y) hm.1 hm.2
  refine ⟨hm.1, hm.2, ?_, ?_⟩ <;> unfold clD <;> split <;> (try split) <;> omega
theorem cl_same {y m d : Int} (h : dayOk y m d) : clM m = m ∧ clD y m d = d := by
  obtain ⟨h1, h2, h3, h4⟩ := h
  exact ⟨by unfold clM; rw [if_neg (by omega), if_neg (by omega)], by unfold clD; rw [if_neg (by omega), if_neg (by omega)]⟩
theorem regR_bad (y m d o : Int) (h1 : o ≠ 1) (h2 : o ≠ 2) (w : World) : Calls Tryd.prog 27 #[.int .i64 y, .int .i64 m, .int .i64 d, .int .i64 o] w (RetDE w 0 0 0 1) := regR_arg y m d o h1 h2 w
theorem regR_field (y m d : Int) (h : ¬ dayOk y m d) (w : World) : Calls Tryd.prog 27 #[.int .i64 y, .int .i64 m, .int .i64 d, .int .i64 2] w (RetDE w 0 0 0 5) := by
  by_cases h1 : m < 1
  · exact regR_rej0 y m d h1 w
  by_cases h2 : 12 < m
  · exact regR_rej1 y m d h1 h2 w
  by_cases h3 : d < 1
  · exact regR_rej2 y m d h1 h2 h3 w
  exact regR_rej3 y m d h1 h2 h3 (by apply Classical.byContradiction; intro h4; exact h ⟨by omega, by omega, by omega, by omega⟩) w
theorem regR_con_y (y m d : Int) (hk : okD y (clM m) (clD y (clM m) d)) (w : World) : Calls Tryd.prog 27 #[.int .i64 y, .int .i64 m, .int .i64 d, .int .i64 1] w (RetDE w y (clM m) (clD y (clM m) d) 0) := by
  have RI := fun W => rightR y (clM m) (clD y (clM m) d) W
  rw [decide_eq_true hk] at RI
  clear hk
  have MR := Lib.hid (fun W => monthR y (clM m) W)
  have hmr : 1 ≤ clM m ∧ clM m ≤ 12 := ⟨(cl_ok y m d).1, (cl_ok y m d).2.1⟩
  obtain ⟨l1, l2⟩ := lenM_range (y := y) hmr.1 hmr.2
  clear hmr
  by_cases hm : m < 1
  · rw [show clM m = 1 by unfold clM; rw [if_pos hm]] at *
    by_cases hd : d < 1
    · rw [show clD y 1 d = 1 by unfold clD; rw [if_pos hd]] at *
      exact regR_1aay y m d _ l1 l2 hm hd MR (Lib.hid RI) w
    by_cases he : lenM y 1 < d
    · rw [show clD y 1 d = lenM y 1 by unfold clD; rw [if_neg hd, if_pos he]] at *
      exact regR_1aby y m d _ l1 l2 hm hd he MR (Lib.hid RI) w
    rw [show clD y 1 d = d by unfold clD; rw [if_neg hd, if_neg he]] at *
    exact regR_1acy y m d _ l1 l2 hm hd he MR (Lib.hid RI) w
  by_cases hn : 12 < m
  · rw [show clM m = 12 by unfold clM; rw [if_neg hm, if_pos hn]] at *
    by_cases hd : d < 1
    · rw [show clD y 12 d = 1 by unfold clD; rw [if_pos hd]] at *
      exact regR_1bay y m d _ l1 l2 hm hn hd MR (Lib.hid RI) w
    by_cases he : lenM y 12 < d
    · rw [show clD y 12 d = lenM y 12 by unfold clD; rw [if_neg hd, if_pos he]] at *
      exact regR_1bby y m d _ l1 l2 hm hn hd he MR (Lib.hid RI) w
    rw [show clD y 12 d = d by unfold clD; rw [if_neg hd, if_neg he]] at *
    exact regR_1bcy y m d _ l1 l2 hm hn hd he MR (Lib.hid RI) w
  rw [show clM m = m by unfold clM; rw [if_neg hm, if_neg hn]] at *
  by_cases hd : d < 1
  · rw [show clD y m d = 1 by unfold clD; rw [if_pos hd]] at *
    exact regR_1cay y m d _ l1 l2 hm hn hd MR (Lib.hid RI) w
  by_cases he : lenM y m < d
  · rw [show clD y m d = lenM y m by unfold clD; rw [if_neg hd, if_pos he]] at *
    exact regR_1cby y m d _ l1 l2 hm hn hd he MR (Lib.hid RI) w
  rw [show clD y m d = d by unfold clD; rw [if_neg hd, if_neg he]] at *
  exact regR_1ccy y m d _ l1 l2 hm hn hd he MR (Lib.hid RI) w
theorem regR_rej_y (y m d : Int) (hk : okD y m d) (w : World) : Calls Tryd.prog 27 #[.int .i64 y, .int .i64 m, .int .i64 d, .int .i64 2] w (RetDE w y m d 0) := by
  have RI := fun W => rightR y m d W
  rw [decide_eq_true hk] at RI
  have MR := Lib.hid (fun W => monthR y m W)
  have h := hk.1
  obtain ⟨l1, l2⟩ := lenM_range (y := y) h.1 h.2.1
  obtain ⟨h1, h2, h3, h4⟩ := h
  exact regR_2ccy y m d _ l1 l2 (by omega) (by omega) (by omega) (by omega) MR (Lib.hid RI) w
theorem regR_con_n (y m d : Int) (hk : ¬ okD y (clM m) (clD y (clM m) d)) (w : World) : Calls Tryd.prog 27 #[.int .i64 y, .int .i64 m, .int .i64 d, .int .i64 1] w (RetDE w 0 0 0 4) := by
  have RI := fun W => rightR y (clM m) (clD y (clM m) d) W
  rw [decide_eq_false hk] at RI
  clear hk
  have MR := Lib.hid (fun W => monthR y (clM m) W)
  have hmr : 1 ≤ clM m ∧ clM m ≤ 12 := ⟨(cl_ok y m d).1, (cl_ok y m d).2.1⟩
  obtain ⟨l1, l2⟩ := lenM_range (y := y) hmr.1 hmr.2
  clear hmr
  by_cases hm : m < 1
  · rw [show clM m = 1 by unfold clM; rw [if_pos hm]] at *
    by_cases hd : d < 1
    · rw [show clD y 1 d = 1 by unfold clD; rw [if_pos hd]] at *
      exact regR_1aan y m d _ l1 l2 hm hd MR (Lib.hid RI) w
    by_cases he : lenM y 1 < d
    · rw [show clD y 1 d = lenM y 1 by unfold clD; rw [if_neg hd, if_pos he]] at *
      exact regR_1abn y m d _ l1 l2 hm hd he MR (Lib.hid RI) w
    rw [show clD y 1 d = d by unfold clD; rw [if_neg hd, if_neg he]] at *
    exact regR_1acn y m d _ l1 l2 hm hd he MR (Lib.hid RI) w
  by_cases hn : 12 < m
  · rw [show clM m = 12 by unfold clM; rw [if_neg hm, if_pos hn]] at *
    by_cases hd : d < 1
    · rw [show clD y 12 d = 1 by unfold clD; rw [if_pos hd]] at *
      exact regR_1ban y m d _ l1 l2 hm hn hd MR (Lib.hid RI) w
    by_cases he : lenM y 12 < d
    · rw [show clD y 12 d = lenM y 12 by unfold clD; rw [if_neg hd, if_pos he]] at *
      exact regR_1bbn y m d _ l1 l2 hm hn hd he MR (Lib.hid RI) w
    rw [show clD y 12 d = d by unfold clD; rw [if_neg hd, if_neg he]] at *
    exact regR_1bcn y m d _ l1 l2 hm hn hd he MR (Lib.hid RI) w
  rw [show clM m = m by unfold clM; rw [if_neg hm, if_neg hn]] at *
  by_cases hd : d < 1
  · rw [show clD y m d = 1 by unfold clD; rw [if_pos hd]] at *
    exact regR_1can y m d _ l1 l2 hm hn hd MR (Lib.hid RI) w
  by_cases he : lenM y m < d
  · rw [show clD y m d = lenM y m by unfold clD; rw [if_neg hd, if_pos he]] at *
    exact regR_1cbn y m d _ l1 l2 hm hn hd he MR (Lib.hid RI) w
  rw [show clD y m d = d by unfold clD; rw [if_neg hd, if_neg he]] at *
  exact regR_1ccn y m d _ l1 l2 hm hn hd he MR (Lib.hid RI) w
theorem regR_rej_n (y m d : Int) (h : dayOk y m d) (hk : ¬ okD y m d) (w : World) : Calls Tryd.prog 27 #[.int .i64 y, .int .i64 m, .int .i64 d, .int .i64 2] w (RetDE w 0 0 0 4) := by
  have RI := fun W => rightR y m d W
  rw [decide_eq_false hk] at RI
  have MR := Lib.hid (fun W => monthR y m W)
  obtain ⟨l1, l2⟩ := lenM_range (y := y) h.1 h.2.1
  obtain ⟨h1, h2, h3, h4⟩ := h
  exact regR_2ccn y m d _ l1 l2 (by omega) (by omega) (by omega) (by omega) MR (Lib.hid RI) w
set_option maxRecDepth 100000 in
set_option maxHeartbeats 4000000 in
theorem addR_arg (y m d a : Int) (DA : Hid (∀ W, Calls Tryd.prog 11 #[.agg #[.int .i64 y, .int .i64 m, .int .i64 d]] W (RetNumB W 0 false))) (w : World) :
    Calls Tryd.prog 29 #[.agg #[.int .i64 y, .int .i64 m, .int .i64 d], .int .i64 a] w (RetDE w 0 0 0 1) := by
  have KB := ((BK.nil w).more3 (.int .i64 y) (.int .i64 m) (.int .i64 d) 23).more3 (.int .i64 0) (.int .i64 0) (.int .i64 0) 23
  rw [World.size_alloc] at KB
  go_enter Tryd.func29, Tryd.ntmps29
  go_wp2_with fail
  generalize (w.alloc (.cells #[.int .i64 y, .int .i64 m, .int .i64 d] 23)).alloc (.cells #[.int .i64 0, .int .i64 0, .int .i64 0] 23) = w0 at *
  refine (DA.out _).mono ?_
  rintro e w1 ⟨rfl, k⟩
  replace KB := KB.below k
  clear k
  obtain ⟨_, r0, r1, r2, f0, f1, f2⟩ := (KB.head).three
  go_wp2
  obtain ⟨_, P0, P1, P2, _, _, _⟩ := ((KB.head).self3 (.int .i64 (0)) (.int .i64 (0)) (.int .i64 (0))).three
  have HB := ((KB.hb.setCell (p := ⟨w.heap.size + 1, 0, none⟩) (by show _ ≤ w.heap.size + 1; omega) (.int .i64 (0))).setCell (p := ⟨w.heap.size + 1, 1, none⟩) (by show _ ≤ w.heap.size + 1; omega) (.int .i64 (0))).setCell (p := ⟨w.heap.size + 1, 2, none⟩) (by show _ ≤ w.heap.size + 1; omega) (.int .i64 (0))
  exact bodyPost_ret (v := .tuple #[.agg #[.int .i64 (0), .int .i64 (0), .int .i64 (0)], .int .i64 1]) (by simp [results, Tryd.results29, go_sem, P0, P1, P2]) rfl ⟨rfl, HB⟩
set_option maxRecDepth 100000 in
set_option maxHeartbeats 4000000 in
theorem addR_less (y m d a n : Int) (DA : Hid (∀ W, Calls Tryd.prog 11 #[.agg #[.int .i64 y, .int .i64 m, .int .i64 d]] W (RetNumB W n true))) (h : a < -300000000) (w : World) :
    Calls Tryd.prog 29 #[.agg #[.int .i64 y, .int .i64 m, .int .i64 d], .int .i64 a] w (RetDE w 0 0 0 4) := by
  have KB := ((BK.nil w).more3 (.int .i64 y) (.int .i64 m) (.int .i64 d) 23).more3 (.int .i64 0) (.int .i64 0) (.int .i64 0) 23
  rw [World.size_alloc] at KB
  go_enter Tryd.func29, Tryd.ntmps29
  go_wp2_with fail
  generalize (w.alloc (.cells #[.int .i64 y, .int .i64 m, .int .i64 d] 23)).alloc (.cells #[.int .i64 0, .int .i64 0, .int .i64 0] 23) = w0 at *
  refine (DA.out _).mono ?_
  rintro e w1 ⟨rfl, k⟩
  replace KB := KB.below k
  clear k
  obtain ⟨_, r0, r1, r2, f0, f1, f2⟩ := (KB.head).three
  go_wp2
  obtain ⟨_, P0, P1, P2, _, _, _⟩ := ((KB.head).self3 (.int .i64 (0)) (.int .i64 (0)) (.int .i64 (0))).three
  have HB := ((KB.hb.setCell (p := ⟨w.heap.size + 1, 0, none⟩) (by show _ ≤ w.heap.size + 1; omega) (.int .i64 (0))).setCell (p := ⟨w.heap.size + 1, 1, none⟩) (by show _ ≤ w.heap.size + 1; omega) (.int .i64 (0))).setCell (p := ⟨w.heap.size + 1, 2, none⟩) (by show _ ≤ w.heap.size + 1; omega) (.int .i64 (0))
  exact bodyPost_ret (v := .tuple #[.agg #[.int .i64 (0), .int .i64 (0), .int .i64 (0)], .int .i64 4]) (by simp [results, Tryd.results29, go_sem, P0, P1, P2]) rfl ⟨rfl, HB⟩
set_option maxRecDepth 100000 in
set_option maxHeartbeats 4000000 in
theorem addR_more (y m d a n : Int) (DA : Hid (∀ W, Calls Tryd.prog 11 #[.agg #[.int .i64 y, .int .i64 m, .int .i64 d]] W (RetNumB W n true))) (h1 : ¬ a < -300000000) (h : 300000000 < a) (w : World) :
    Calls Tryd.prog 29 #[.agg #[.int .i64 y, .int .i64 m, .int .i64 d], .int .i64 a] w (RetDE w 0 0 0 4) := by
  have KB := ((BK.nil w).more3 (.int .i64 y) (.int .i64 m) (.int .i64 d) 23).more3 (.int .i64 0) (.int .i64 0) (.int .i64 0) 23
  rw [World.size_alloc] at KB
  go_enter Tryd.func29, Tryd.ntmps29
  go_wp2_with fail
  generalize (w.alloc (.cells #[.int .i64 y, .int .i64 m, .int .i64 d] 23)).alloc (.cells #[.int .i64 0, .int .i64 0, .int .i64 0] 23) = w0 at *
  refine (DA.out _).mono ?_
  rintro e w1 ⟨rfl, k⟩
  replace KB := KB.below k
  clear k
  obtain ⟨_, r0, r1, r2, f0, f1, f2⟩ := (KB.head).three
  go_wp2
  obtain ⟨_, P0, P1, P2, _, _, _⟩ := ((KB.head).self3 (.int .i64 (0)) (.int .i64 (0)) (.int .i64 (0))).three
  have HB := ((KB.hb.setCell (p := ⟨w.heap.size + 1, 0, none⟩) (by show _ ≤ w.heap.size + 1; omega) (.int .i64 (0))).setCell (p := ⟨w.heap.size + 1, 1, none⟩) (by show _ ≤ w.heap.size + 1; omega) (.int .i64 (0))).setCell (p := ⟨w.heap.size + 1, 2, none⟩) (by show _ ≤ w.heap.size + 1; omega) (.int .i64 (0))
  exact bodyPost_ret (v := .tuple #[.agg #[.int .i64 (0), .int .i64 (0), .int .i64 (0)], .int .i64 4]) (by simp [results, Tryd.results29, go_sem, P0, P1, P2]) rfl ⟨rfl, HB⟩
set_option maxRecDepth 100000 in
set_option maxHeartbeats 4000000 in
theorem addR_yes (y m d a n x0 x1 x2 : Int) (DA : Hid (∀ W, Calls Tryd.prog 11 #[.agg #[.int .i64 y, .int .i64 m, .int .i64 d]] W (RetNumB W n true))) (h1 : ¬ a < -300000000) (h2 : ¬ 300000000 < a) (n1 : -100000001 ≤ n) (n2 : n ≤ 100000000) (OF : Hid (∀ W, Calls Tryd.prog 13 #[.int .i64 (n + a)] W (RetDateB W x0 x1 x2 true))) (w : World) :
    Calls Tryd.prog 29 #[.agg #[.int .i64 y, .int .i64 m, .int .i64 d], .int .i64 a] w (RetDE w x0 x1 x2 0) := by
  have KB := ((BK.nil w).more3 (.int .i64 y) (.int .i64 m) (.int .i64 d) 23).more3 (.int .i64 0) (.int .i64 0) (.int .i64 0) 23
  rw [World.size_alloc] at KB
  go_enter Tryd.func29, Tryd.ntmps29
  go_wp2_with fail
  generalize (w.alloc (.cells #[.int .i64 y, .int .i64 m, .int .i64 d] 23)).alloc (.cells #[.int .i64 0, .int .i64 0, .int .i64 0] 23) = w0 at *
  refine (DA.out _).mono ?_
  rintro e w1 ⟨rfl, k⟩
  replace KB := KB.below k
  clear k
  go_wp2_with fail
  refine (OF.out _).mono ?_
  rintro e w2 ⟨rfl, k⟩
  replace KB := KB.below k
  clear k
  go_upto_region 7 with (fail)
  have hg := KB.head.lt
  replace KB := KB.more3 (.int .i64 x0) (.int .i64 x1) (.int .i64 x2) 23
  generalize w2.alloc (.cells #[.int .i64 x0, .int .i64 x1, .int .i64 x2] 23) = w3 at *
  generalize w2.heap.size = g at *
  obtain ⟨_, a0, a1, a2, _⟩ := KB.head.three
  obtain ⟨_, r0, r1, r2, f0, f1, f2⟩ := (KB.tail.head).three
  go_wp2
  obtain ⟨_, P0, P1, P2, _, _, _⟩ := ((KB.tail.head).self3 (.int .i64 (x0)) (.int .i64 (x1)) (.int .i64 (x2))).three
  have HB := ((KB.hb.setCell (p := ⟨w.heap.size + 1, 0, none⟩) (by show _ ≤ w.heap.size + 1; omega) (.int .i64 (x0))).setCell (p := ⟨w.heap.size + 1, 1, none⟩) (by show _ ≤ w.heap.size + 1; omega) (.int .i64 (x1))).setCell (p := ⟨w.heap.size + 1, 2, none⟩) (by show _ ≤ w.heap.size + 1; omega) (.int .i64 (x2))
  exact bodyPost_ret (v := .tuple #[.agg #[.int .i64 (x0), .int .i64 (x1), .int .i64 (x2)], .int .i64 0]) (by simp [results, Tryd.results29, go_sem, P0, P1, P2]) rfl ⟨rfl, HB⟩
set_option maxRecDepth 100000 in
set_option maxHeartbeats 4000000 in
theorem addR_none (y m d a n x0 x1 x2 : Int) (DA : Hid (∀ W, Calls Tryd.prog 11 #[.agg #[.int .i64 y, .int .i64 m, .int .i64 d]] W (RetNumB W n true))) (h1 : ¬ a < -300000000) (h2 : ¬ 300000000 < a) (n1 : -100000001 ≤ n) (n2 : n ≤ 100000000) (OF : Hid (∀ W, Calls Tryd.prog 13 #[.int .i64 (n + a)] W (RetDateB W x0 x1 x2 false))) (w : World) :
    Calls Tryd.prog 29 #[.agg #[.int .i64 y, .int .i64 m, .int .i64 d], .int .i64 a] w (RetDE w 0 0 0 4) := by
  have KB := ((BK.nil w).more3 (.int .i64 y) (.int .i64 m) (.int .i64 d) 23).more3 (.int .i64 0) (.int .i64 0) (.int .i64 0) 23
  rw [World.size_alloc] at KB
  go_enter Tryd.func29, Tryd.ntmps29
  go_wp2_with fail
  generalize (w.alloc (.cells #[.int .i64 y, .int .i64 m, .int .i64 d] 23)).alloc (.cells #[.int .i64 0, .int .i64 0, .int .i64 0] 23) = w0 at *
  refine (DA.out _).mono ?_
  rintro e w1 ⟨rfl, k⟩
  replace KB := KB.below k
  clear k
  go_wp2_with fail
  refine (OF.out _).mono ?_
  rintro e w2 ⟨rfl, k⟩
  replace KB := KB.below k
  clear k
  go_upto_region 7 with (fail)
  have hg := KB.head.lt
  replace KB := KB.more3 (.int .i64 x0) (.int .i64 x1) (.int .i64 x2) 23
  generalize w2.alloc (.cells #[.int .i64 x0, .int .i64 x1, .int .i64 x2] 23) = w3 at *
  generalize w2.heap.size = g at *
  obtain ⟨_, a0, a1, a2, _⟩ := KB.head.three
  obtain ⟨_, r0, r1, r2, f0, f1, f2⟩ := (KB.tail.head).three
  go_wp2
  obtain ⟨_, P0, P1, P2, _, _, _⟩ := ((KB.tail.head).self3 (.int .i64 (0)) (.int .i64 (0)) (.int .i64 (0))).three
  have HB := ((KB.hb.setCell (p := ⟨w.heap.size + 1, 0, none⟩) (by show _ ≤ w.heap.size + 1; omega) (.int .i64 (0))).setCell (p := ⟨w.heap.size + 1, 1, none⟩) (by show _ ≤ w.heap.size + 1; omega) (.int .i64 (0))).setCell (p := ⟨w.heap.size + 1, 2, none⟩) (by show _ ≤ w.heap.size + 1; omega) (.int .i64 (0))
  exact bodyPost_ret (v := .tuple #[.agg #[.int .i64 (0), .int .i64 (0), .int .i64 (0)], .int .i64 4]) (by simp [results, Tryd.results29, go_sem, P0, P1, P2]) rfl ⟨rfl, HB⟩
theorem addR_bad {y m d : Int} (a : Int) (h : ¬ okD y m d) (w : World) : Calls Tryd.prog 29 #[.agg #[.int .i64 y, .int .i64 m, .int .i64 d], .int .i64 a] w (RetDE w 0 0 0 1) := addR_arg y m d a (Lib.hid fun W => daysR_none h W) w
theorem addR_over {y m d a : Int} (h : okD y m d) (ho : numD y m d + a < -100000001 ∨ 100000000 < numD y m d + a) (w : World) : Calls Tryd.prog 29 #[.agg #[.int .i64 y, .int .i64 m, .int .i64 d], .int .i64 a] w (RetDE w 0 0 0 4) := by
  have DA := Lib.hid (fun W => daysR_is h W)
  by_cases h1 : a < -300000000
  · exact addR_less y m d a _ DA h1 w
  by_cases h2 : 300000000 < a
  · exact addR_more y m d a _ DA h1 h2 w
  exact addR_none y m d a _ 0 0 0 DA h1 h2 h.2.1 h.2.2 (Lib.hid fun W => ofR_no _ ho W) w
theorem addR {y m d a x0 x1 x2 : Int} (h : okD y m d) (hx : okD x0 x1 x2) (e : numD x0 x1 x2 = numD y m d + a) (w : World) : Calls Tryd.prog 29 #[.agg #[.int .i64 y, .int .i64 m, .int .i64 d], .int .i64 a] w (RetDE w x0 x1 x2 0) := by
  have h1 := h.2
  have h2 := hx.2
  exact addR_yes y m d a _ _ _ _ (Lib.hid fun W => daysR_is h W) (by omega) (by omega) h.2.1 h.2.2 (Lib.hid fun W => ofR_yes _ _ _ _ hx e W) w
/-- which of two dates is ahead -/
def cmpD (y m d y' m' d' : Int) : Int := if y < y' then -1 else if y' < y then 1 else if m < m' then -1 else if m' < m then 1 else if d < d' then -1 else if d' < d then 1 else 0
set_option maxRecDepth 100000 in
set_option maxHeartbeats 4000000 in
theorem cmpR_eq (d m y : Int)  (w : World) :
    Calls Tryd.prog 31 #[.agg #[.int .i64 y, .int .i64 m, .int .i64 d], .agg #[.int .i64 y, .int .i64 m, .int .i64 d]] w (RetV w (.int .i64 0)) := by
  have KB := ((BK.nil w).more3 (.int .i64 y) (.int .i64 m) (.int .i64 d) 23).more3 (.int .i64 y) (.int .i64 m) (.int .i64 d) 23
  rw [World.size_alloc] at KB
  go_enter Tryd.func31, Tryd.ntmps31
  go_upto_region 1 with (fail)
  generalize (w.alloc (.cells #[.int .i64 y, .int .i64 m, .int .i64 d] 23)).alloc (.cells #[.int .i64 y, .int .i64 m, .int .i64 d] 23) = w0 at *
  obtain ⟨_, a0, a1, a2, _⟩ := KB.tail.head.three
  obtain ⟨_, b0, b1, b2, _⟩ := KB.head.three
  have HB := KB.hb
  go_wp2
  go_ret
  exact ⟨rfl, HB⟩
set_option maxRecDepth 100000 in
set_option maxHeartbeats 4000000 in
theorem cmpR_l1 (d d' m m' y y' : Int) (h : y < y') (w : World) :
    Calls Tryd.prog 31 #[.agg #[.int .i64 y, .int .i64 m, .int .i64 d], .agg #[.int .i64 y', .int .i64 m', .int .i64 d']] w (RetV w (.int .i64 (-1))) := by
  have ey : (y == y') = false := by rw [beq_eq_false_iff_ne]; omega
  have gy : ¬ y = y' := by omega
  have KB := ((BK.nil w).more3 (.int .i64 y) (.int .i64 m) (.int .i64 d) 23).more3 (.int .i64 y') (.int .i64 m') (.int .i64 d') 23
  rw [World.size_alloc] at KB
  go_enter Tryd.func31, Tryd.ntmps31
  go_upto_region 1 with (fail)
  generalize (w.alloc (.cells #[.int .i64 y, .int .i64 m, .int .i64 d] 23)).alloc (.cells #[.int .i64 y', .int .i64 m', .int .i64 d'] 23) = w0 at *
  obtain ⟨_, a0, a1, a2, _⟩ := KB.tail.head.three
  obtain ⟨_, b0, b1, b2, _⟩ := KB.head.three
  have HB := KB.hb
  go_wp2
  go_ret
  exact ⟨rfl, HB⟩
set_option maxRecDepth 100000 in
set_option maxHeartbeats 4000000 in
theorem cmpR_g1 (d d' m m' y y' : Int) (h : y' < y) (w : World) :
    Calls Tryd.prog 31 #[.agg #[.int .i64 y, .int .i64 m, .int .i64 d], .agg #[.int .i64 y', .int .i64 m', .int .i64 d']] w (RetV w (.int .i64 1)) := by
  have ey : (y == y') = false := by rw [beq_eq_false_iff_ne]; omega
  have gy : ¬ y = y' := by omega
  have n1 : ¬ y < y' := by omega
  have KB := ((BK.nil w).more3 (.int .i64 y) (.int .i64 m) (.int .i64 d) 23).more3 (.int .i64 y') (.int .i64 m') (.int .i64 d') 23
  rw [World.size_alloc] at KB
  go_enter Tryd.func31, Tryd.ntmps31
  go_upto_region 1 with (fail)
  generalize (w.alloc (.cells #[.int .i64 y, .int .i64 m, .int .i64 d] 23)).alloc (.cells #[.int .i64 y', .int .i64 m', .int .i64 d'] 23) = w0 at *
  obtain ⟨_, a0, a1, a2, _⟩ := KB.tail.head.three
  obtain ⟨_, b0, b1, b2, _⟩ := KB.head.three
  have HB := KB.hb
  go_wp2
  go_ret
  exact ⟨rfl, HB⟩
set_option maxRecDepth 100000 in
set_option maxHeartbeats 4000000 in
theorem cmpR_l2 (d d' m m' y : Int) (h : m < m') (w : World) :
    Calls Tryd.prog 31 #[.agg #[.int .i64 y, .int .i64 m, .int .i64 d], .agg #[.int .i64 y, .int .i64 m', .int .i64 d']] w (RetV w (.int .i64 (-1))) := by
  have em : (m == m') = false := by rw [beq_eq_false_iff_ne]; omega
  have gm : ¬ m = m' := by omega
  have KB := ((BK.nil w).more3 (.int .i64 y) (.int .i64 m) (.int .i64 d) 23).more3 (.int .i64 y) (.int .i64 m') (.int .i64 d') 23
  rw [World.size_alloc] at KB
  go_enter Tryd.func31, Tryd.ntmps31
  go_upto_region 1 with (fail)
  generalize (w.alloc (.cells #[.int .i64 y, .int .i64 m, .int .i64 d] 23)).alloc (.cells #[.int .i64 y, .int .i64 m', .int .i64 d'] 23) = w0 at *
  obtain ⟨_, a0, a1, a2, _⟩ := KB.tail.head.three
  obtain ⟨_, b0, b1, b2, _⟩ := KB.head.three
  have HB := KB.hb
  go_wp2
  go_ret
  exact ⟨rfl, HB⟩
set_option maxRecDepth 100000 in
set_option maxHeartbeats 4000000 in
theorem cmpR_g2 (d d' m m' y : Int) (h : m' < m) (w : World) :
    Calls Tryd.prog 31 #[.agg #[.int .i64 y, .int .i64 m, .int .i64 d], .agg #[.int .i64 y, .int .i64 m', .int .i64 d']] w (RetV w (.int .i64 1)) := by
  have em : (m == m') = false := by rw [beq_eq_false_iff_ne]; omega
  have gm : ¬ m = m' := by omega
  have n1 : ¬ m < m' := by omega
  have KB := ((BK.nil w).more3 (.int .i64 y) (.int .i64 m) (.int .i64 d) 23).more3 (.int .i64 y) (.int .i64 m') (.int .i64 d') 23
  rw [World.size_alloc] at KB
  go_enter Tryd.func31, Tryd.ntmps31
  go_upto_region 1 with (fail)
  generalize (w.alloc (.cells #[.int .i64 y, .int .i64 m, .int .i64 d] 23)).alloc (.cells #[.int .i64 y, .int .i64 m', .int .i64 d'] 23) = w0 at *
  obtain ⟨_, a0, a1, a2, _⟩ := KB.tail.head.three
  obtain ⟨_, b0, b1, b2, _⟩ := KB.head.three
  have HB := KB.hb
  go_wp2
  go_ret
  exact ⟨rfl, HB⟩
set_option maxRecDepth 100000 in
set_option maxHeartbeats 4000000 in
theorem cmpR_l3 (d d' m y : Int) (h : d < d') (w : World) :
    Calls Tryd.prog 31 #[.agg #[.int .i64 y, .int .i64 m, .int .i64 d], .agg #[.int .i64 y, .int .i64 m, .int .i64 d']] w (RetV w (.int .i64 (-1))) := by
  have ed : (d == d') = false := by rw [beq_eq_false_iff_ne]; omega
  have gd : ¬ d = d' := by omega
  have KB := ((BK.nil w).more3 (.int .i64 y) (.int .i64 m) (.int .i64 d) 23).more3 (.int .i64 y) (.int .i64 m) (.int .i64 d') 23
  rw [World.size_alloc] at KB
  go_enter Tryd.func31, Tryd.ntmps31
  go_upto_region 1 with (fail)
  generalize (w.alloc (.cells #[.int .i64 y, .int .i64 m, .int .i64 d] 23)).alloc (.cells #[.int .i64 y, .int .i64 m, .int .i64 d'] 23) = w0 at *
  obtain ⟨_, a0, a1, a2, _⟩ := KB.tail.head.three
  obtain ⟨_, b0, b1, b2, _⟩ := KB.head.three
  have HB := KB.hb
  go_wp2
  go_ret
  exact ⟨rfl, HB⟩
set_option maxRecDepth 100000 in
set_option maxHeartbeats 4000000 in
theorem cmpR_g3 (d d' m y : Int) (h : d' < d) (w : World) :
    Calls Tryd.prog 31 #[.agg #[.int .i64 y, .int .i64 m, .int .i64 d], .agg #[.int .i64 y, .int .i64 m, .int .i64 d']] w (RetV w (.int .i64 1)) := by
  have ed : (d == d') = false := by rw [beq_eq_false_iff_ne]; omega
  have gd : ¬ d = d' := by omega
  have n1 : ¬ d < d' := by omega
  have KB := ((BK.nil w).more3 (.int .i64 y) (.int .i64 m) (.int .i64 d) 23).more3 (.int .i64 y) (.int .i64 m) (.int .i64 d') 23
  rw [World.size_alloc] at KB
  go_enter Tryd.func31, Tryd.ntmps31
  go_upto_region 1 with (fail)
  generalize (w.alloc (.cells #[.int .i64 y, .int .i64 m, .int .i64 d] 23)).alloc (.cells #[.int .i64 y, .int .i64 m, .int .i64 d'] 23) = w0 at *
  obtain ⟨_, a0, a1, a2, _⟩ := KB.tail.head.three
  obtain ⟨_, b0, b1, b2, _⟩ := KB.head.three
  have HB := KB.hb
  go_wp2
  go_ret
  exact ⟨rfl, HB⟩
theorem cmpR (y m d y' m' d' : Int) (w : World) : Calls Tryd.prog 31 #[.agg #[.int .i64 y, .int .i64 m, .int .i64 d], .agg #[.int .i64 y', .int .i64 m', .int .i64 d']] w (RetV w (.int .i64 (cmpD y m d y' m' d'))) := by
  unfold cmpD
  by_cases h1 : y < y'
  · rw [if_pos h1]; exact cmpR_l1 d d' m m' y y' h1 w
  rw [if_neg h1]
  by_cases h2 : y' < y
  · rw [if_pos h2]; exact cmpR_g1 d d' m m' y y' h2 w
  rw [if_neg h2]
  obtain rfl : y = y' := by omega
  by_cases h1 : m < m'
  · rw [if_pos h1]; exact cmpR_l2 d d' m m' y h1 w
  rw [if_neg h1]
  by_cases h2 : m' < m
  · rw [if_pos h2]; exact cmpR_g2 d d' m m' y h2 w
  rw [if_neg h2]
  obtain rfl : m = m' := by omega
  by_cases h1 : d < d'
  · rw [if_pos h1]; exact cmpR_l3 d d' m y h1 w
  rw [if_neg h1]
  by_cases h2 : d' < d
  · rw [if_pos h2]; exact cmpR_g3 d d' m y h2 w
  rw [if_neg h2]
  obtain rfl : d = d' := by omega
  exact cmpR_eq d m y w
end Go.Proofs.YtmmgppfopojnlaaDoor
