/- Package civil: dates made of fields, days added. -/
import Derived.Test.YtmmgppfopojnlaaDoorEweek
import Derived.Test.YtmmgppfopojnlaaDoorCreg
namespace Go.Proofs.YtmmgppfopojnlaaDoor
open Go.RowKit

set_option maxRecDepth 100000 in
set_option maxHeartbeats 4000000 in
theorem regP_bad (y m d o : Int) (h1 : o ≠ 1) (h2 : o ≠ 2) (w : World) (L : Lens w) :
    Calls Tryd.prog 26 #[.int .i64 y, .int .i64 m, .int .i64 d, .int .i64 o] w (RetDE w 0 0 0 1) := by
  have b1 : (o == 1) = false := by simp [h1]
  have b2 : (o == 2) = false := by simp [h2]
  have KB := (BK.nil w).more3 (.int .i64 0) (.int .i64 0) (.int .i64 0) 23
  go_enter Tryd.func26, Tryd.ntmps26
  go_upto_region 1 with (fail)
  generalize w.alloc (.cells #[.int .i64 0, .int .i64 0, .int .i64 0] 23) = w0 at *
  have L0 := L.mono KB.hb
  obtain ⟨_, r0, r1, r2, f0, f1, f2⟩ := (KB.head).three
  go_wp2
  obtain ⟨_, P0, P1, P2, _, _, _⟩ := ((KB.head).self3 (.int .i64 (0)) (.int .i64 (0)) (.int .i64 (0))).three
  have HB := ((KB.hb.setCell (p := ⟨w.heap.size, 0, none⟩) (by show _ ≤ w.heap.size; omega) (.int .i64 (0))).setCell (p := ⟨w.heap.size, 1, none⟩) (by show _ ≤ w.heap.size; omega) (.int .i64 (0))).setCell (p := ⟨w.heap.size, 2, none⟩) (by show _ ≤ w.heap.size; omega) (.int .i64 (0))
  exact bodyPost_ret (v := .tuple #[.agg #[.int .i64 (0), .int .i64 (0), .int .i64 (0)], .int .i64 1]) (by simp [results, Tryd.results26, go_sem, P0, P1, P2]) rfl ⟨rfl, HB⟩
set_option maxRecDepth 100000 in
set_option maxHeartbeats 4000000 in
theorem regP_field (y m d : Int) (h : ¬ dayOk y m d) (w : World) (L : Lens w) :
    Calls Tryd.prog 26 #[.int .i64 y, .int .i64 m, .int .i64 d, .int .i64 2] w (RetDE w 0 0 0 5) := by
  have HA := Lib.hid (fun W l => hasP y m d W l)
  rw [hdB_no h] at HA
  clear h
  have KB := (BK.nil w).more3 (.int .i64 0) (.int .i64 0) (.int .i64 0) 23
  go_enter Tryd.func26, Tryd.ntmps26
  go_upto_region 1 with (fail)
  generalize w.alloc (.cells #[.int .i64 0, .int .i64 0, .int .i64 0] 23) = w0 at *
  have L0 := L.mono KB.hb
  obtain ⟨_, r0, r1, r2, f0, f1, f2⟩ := (KB.head).three
  go_wp2_with (go_at_call 32; (with_reducible refine (HA.out _ L0).mono ?_); rintro e w' ⟨rfl, rfl⟩)
  obtain ⟨_, P0, P1, P2, _, _, _⟩ := ((KB.head).self3 (.int .i64 (0)) (.int .i64 (0)) (.int .i64 (0))).three
  have HB := ((KB.hb.setCell (p := ⟨w.heap.size, 0, none⟩) (by show _ ≤ w.heap.size; omega) (.int .i64 (0))).setCell (p := ⟨w.heap.size, 1, none⟩) (by show _ ≤ w.heap.size; omega) (.int .i64 (0))).setCell (p := ⟨w.heap.size, 2, none⟩) (by show _ ≤ w.heap.size; omega) (.int .i64 (0))
  exact bodyPost_ret (v := .tuple #[.agg #[.int .i64 (0), .int .i64 (0), .int .i64 (0)], .int .i64 5]) (by simp [results, Tryd.results26, go_sem, P0, P1, P2]) rfl ⟨rfl, HB⟩
set_option maxRecDepth 100000 in
set_option maxHeartbeats 4000000 in
theorem regP_aay (y m d l : Int) (_l1 : 28 ≤ l) (_l2 : l ≤ 31) (hm : m < 1) (hd : d < 1) (MR : Hid (∀ W, Lens W → Calls Tryd.prog 18 #[.int .i64 y, .int .i64 1] W (fun e w' => e = .returned (.int .i64 l) ∧ W = w'))) (RI : Hid (∀ W, Lens W → Calls Tryd.prog 15 #[.agg #[.int .i64 y, .int .i64 1, .int .i64 1]] W (RetV W (.bool true)))) (w : World) (L : Lens w) :
    Calls Tryd.prog 26 #[.int .i64 y, .int .i64 m, .int .i64 d, .int .i64 1] w (RetDE w y (1) (1) 0) := by
  have KB := (BK.nil w).more3 (.int .i64 0) (.int .i64 0) (.int .i64 0) 23
  go_enter Tryd.func26, Tryd.ntmps26
  go_upto_region 1 with (fail)
  generalize w.alloc (.cells #[.int .i64 0, .int .i64 0, .int .i64 0] 23) = w0 at *
  have L0 := L.mono KB.hb
  go_upto_region 10 with (go_at_call 18; (with_reducible refine (MR.out _ L0).mono ?_); rintro e w' ⟨rfl, rfl⟩)
  have hg := KB.head.lt
  replace KB := KB.more3 (.int .i64 y) (.int .i64 1) (.int .i64 1) 23
  generalize w0.alloc (.cells #[.int .i64 y, .int .i64 1, .int .i64 1] 23) = w1 at *
  generalize w0.heap.size = g at *
  have L1 := L.mono KB.hb
  obtain ⟨_, a0, a1, a2, _⟩ := KB.head.three
  go_wp2_with fail
  clear a0 a1 a2
  refine (RI.out _ L1).mono ?_
  rintro e w2 ⟨rfl, k⟩
  replace KB := KB.below k
  clear k
  obtain ⟨_, a0, a1, a2, _⟩ := KB.head.three
  obtain ⟨_, r0, r1, r2, f0, f1, f2⟩ := (KB.tail.head).three
  go_wp2
  obtain ⟨_, P0, P1, P2, _, _, _⟩ := ((KB.tail.head).self3 (.int .i64 (y)) (.int .i64 (1)) (.int .i64 (1))).three
  have HB := ((KB.hb.setCell (p := ⟨w.heap.size, 0, none⟩) (by show _ ≤ w.heap.size; omega) (.int .i64 (y))).setCell (p := ⟨w.heap.size, 1, none⟩) (by show _ ≤ w.heap.size; omega) (.int .i64 (1))).setCell (p := ⟨w.heap.size, 2, none⟩) (by show _ ≤ w.heap.size; omega) (.int .i64 (1))
  exact bodyPost_ret (v := .tuple #[.agg #[.int .i64 (y), .int .i64 (1), .int .i64 (1)], .int .i64 0]) (by simp [results, Tryd.results26, go_sem, P0, P1, P2]) rfl ⟨rfl, HB⟩
set_option maxRecDepth 100000 in
set_option maxHeartbeats 4000000 in
theorem regP_aan (y m d l : Int) (_l1 : 28 ≤ l) (_l2 : l ≤ 31) (hm : m < 1) (hd : d < 1) (MR : Hid (∀ W, Lens W → Calls Tryd.prog 18 #[.int .i64 y, .int .i64 1] W (fun e w' => e = .returned (.int .i64 l) ∧ W = w'))) (RI : Hid (∀ W, Lens W → Calls Tryd.prog 15 #[.agg #[.int .i64 y, .int .i64 1, .int .i64 1]] W (RetV W (.bool false)))) (w : World) (L : Lens w) :
    Calls Tryd.prog 26 #[.int .i64 y, .int .i64 m, .int .i64 d, .int .i64 1] w (RetDE w 0 0 0 4) := by
  have KB := (BK.nil w).more3 (.int .i64 0) (.int .i64 0) (.int .i64 0) 23
  go_enter Tryd.func26, Tryd.ntmps26
  go_upto_region 1 with (fail)
  generalize w.alloc (.cells #[.int .i64 0, .int .i64 0, .int .i64 0] 23) = w0 at *
  have L0 := L.mono KB.hb
  go_upto_region 10 with (go_at_call 18; (with_reducible refine (MR.out _ L0).mono ?_); rintro e w' ⟨rfl, rfl⟩)
  have hg := KB.head.lt
  replace KB := KB.more3 (.int .i64 y) (.int .i64 1) (.int .i64 1) 23
  generalize w0.alloc (.cells #[.int .i64 y, .int .i64 1, .int .i64 1] 23) = w1 at *
  generalize w0.heap.size = g at *
  have L1 := L.mono KB.hb
  obtain ⟨_, a0, a1, a2, _⟩ := KB.head.three
  go_wp2_with fail
  clear a0 a1 a2
  refine (RI.out _ L1).mono ?_
  rintro e w2 ⟨rfl, k⟩
  replace KB := KB.below k
  clear k
  obtain ⟨_, a0, a1, a2, _⟩ := KB.head.three
  obtain ⟨_, r0, r1, r2, f0, f1, f2⟩ := (KB.tail.head).three
  go_wp2
  obtain ⟨_, P0, P1, P2, _, _, _⟩ := ((KB.tail.head).self3 (.int .i64 (0)) (.int .i64 (0)) (.int .i64 (0))).three
  have HB := ((KB.hb.setCell (p := ⟨w.heap.size, 0, none⟩) (by show _ ≤ w.heap.size; omega) (.int .i64 (0))).setCell (p := ⟨w.heap.size, 1, none⟩) (by show _ ≤ w.heap.size; omega) (.int .i64 (0))).setCell (p := ⟨w.heap.size, 2, none⟩) (by show _ ≤ w.heap.size; omega) (.int .i64 (0))
  exact bodyPost_ret (v := .tuple #[.agg #[.int .i64 (0), .int .i64 (0), .int .i64 (0)], .int .i64 4]) (by simp [results, Tryd.results26, go_sem, P0, P1, P2]) rfl ⟨rfl, HB⟩
set_option maxRecDepth 100000 in
set_option maxHeartbeats 4000000 in
theorem regP_aby (y m d l : Int) (_l1 : 28 ≤ l) (_l2 : l ≤ 31) (hm : m < 1) (hd : ¬ d < 1) (he : l < d) (MR : Hid (∀ W, Lens W → Calls Tryd.prog 18 #[.int .i64 y, .int .i64 1] W (fun e w' => e = .returned (.int .i64 l) ∧ W = w'))) (RI : Hid (∀ W, Lens W → Calls Tryd.prog 15 #[.agg #[.int .i64 y, .int .i64 1, .int .i64 l]] W (RetV W (.bool true)))) (w : World) (L : Lens w) :
    Calls Tryd.prog 26 #[.int .i64 y, .int .i64 m, .int .i64 d, .int .i64 1] w (RetDE w y (1) (l) 0) := by
  have KB := (BK.nil w).more3 (.int .i64 0) (.int .i64 0) (.int .i64 0) 23
  go_enter Tryd.func26, Tryd.ntmps26
  go_upto_region 1 with (fail)
  generalize w.alloc (.cells #[.int .i64 0, .int .i64 0, .int .i64 0] 23) = w0 at *
  have L0 := L.mono KB.hb
  go_upto_region 10 with (go_at_call 18; (with_reducible refine (MR.out _ L0).mono ?_); rintro e w' ⟨rfl, rfl⟩)
  have hg := KB.head.lt
  replace KB := KB.more3 (.int .i64 y) (.int .i64 1) (.int .i64 l) 23
  generalize w0.alloc (.cells #[.int .i64 y, .int .i64 1, .int .i64 l] 23) = w1 at *
  generalize w0.heap.size = g at *
  have L1 := L.mono KB.hb
  obtain ⟨_, a0, a1, a2, _⟩ := KB.head.three
  go_wp2_with fail
  clear a0 a1 a2
  refine (RI.out _ L1).mono ?_
  rintro e w2 ⟨rfl, k⟩
  replace KB := KB.below k
  clear k
  obtain ⟨_, a0, a1, a2, _⟩ := KB.head.three
  obtain ⟨_, r0, r1, r2, f0, f1, f2⟩ := (KB.tail.head).three
  go_wp2
  obtain ⟨_, P0, P1, P2, _, _, _⟩ := ((KB.tail.head).self3 (.int .i64 (y)) (.int .i64 (1)) (.int .i64 (l))).three
  have HB := ((KB.hb.setCell (p := ⟨w.heap.size, 0, none⟩) (by show _ ≤ w.heap.size; omega) (.int .i64 (y))).setCell (p := ⟨w.heap.size, 1, none⟩) (by show _ ≤ w.heap.size; omega) (.int .i64 (1))).setCell (p := ⟨w.heap.size, 2, none⟩) (by show _ ≤ w.heap.size; omega) (.int .i64 (l))
  exact bodyPost_ret (v := .tuple #[.agg #[.int .i64 (y), .int .i64 (1), .int .i64 (l)], .int .i64 0]) (by simp [results, Tryd.results26, go_sem, P0, P1, P2]) rfl ⟨rfl, HB⟩
set_option maxRecDepth 100000 in
set_option maxHeartbeats 4000000 in
theorem regP_abn (y m d l : Int) (_l1 : 28 ≤ l) (_l2 : l ≤ 31) (hm : m < 1) (hd : ¬ d < 1) (he : l < d) (MR : Hid (∀ W, Lens W → Calls Tryd.prog 18 #[.int .i64 y, .int .i64 1] W (fun e w' => e = .returned (.int .i64 l) ∧ W = w'))) (RI : Hid (∀ W, Lens W → Calls Tryd.prog 15 #[.agg #[.int .i64 y, .int .i64 1, .int .i64 l]] W (RetV W (.bool false)))) (w : World) (L : Lens w) :
    Calls Tryd.prog 26 #[.int .i64 y, .int .i64 m, .int .i64 d, .int .i64 1] w (RetDE w 0 0 0 4) := by
  have KB := (BK.nil w).more3 (.int .i64 0) (.int .i64 0) (.int .i64 0) 23
  go_enter Tryd.func26, Tryd.ntmps26
  go_upto_region 1 with (fail)
  generalize w.alloc (.cells #[.int .i64 0, .int .i64 0, .int .i64 0] 23) = w0 at *
  have L0 := L.mono KB.hb
  go_upto_region 10 with (go_at_call 18; (with_reducible refine (MR.out _ L0).mono ?_); rintro e w' ⟨rfl, rfl⟩)
  have hg := KB.head.lt
  replace KB := KB.more3 (.int .i64 y) (.int .i64 1) (.int .i64 l) 23
  generalize w0.alloc (.cells #[.int .i64 y, .int .i64 1, .int .i64 l] 23) = w1 at *
  generalize w0.heap.size = g at *
  have L1 := L.mono KB.hb
  obtain ⟨_, a0, a1, a2, _⟩ := KB.head.three
  go_wp2_with fail
  clear a0 a1 a2
  refine (RI.out _ L1).mono ?_
  rintro e w2 ⟨rfl, k⟩
  replace KB := KB.below k
  clear k
  obtain ⟨_, a0, a1, a2, _⟩ := KB.head.three
  obtain ⟨_, r0, r1, r2, f0, f1, f2⟩ := (KB.tail.head).three
  go_wp2
  obtain ⟨_, P0, P1, P2, _, _, _⟩ := ((KB.tail.head).self3 (.int .i64 (0)) (.int .i64 (0)) (.int .i64 (0))).three
  have HB := ((KB.hb.setCell (p := ⟨w.heap.size, 0, none⟩) (by show _ ≤ w.heap.size; omega) (.int .i64 (0))).setCell (p := ⟨w.heap.size, 1, none⟩) (by show _ ≤ w.heap.size; omega) (.int .i64 (0))).setCell (p := ⟨w.heap.size, 2, none⟩) (by show _ ≤ w.heap.size; omega) (.int .i64 (0))
  exact bodyPost_ret (v := .tuple #[.agg #[.int .i64 (0), .int .i64 (0), .int .i64 (0)], .int .i64 4]) (by simp [results, Tryd.results26, go_sem, P0, P1, P2]) rfl ⟨rfl, HB⟩
set_option maxRecDepth 100000 in
set_option maxHeartbeats 4000000 in
theorem regP_acy (y m d l : Int) (_l1 : 28 ≤ l) (_l2 : l ≤ 31) (hm : m < 1) (hd : ¬ d < 1) (he : ¬ l < d) (MR : Hid (∀ W, Lens W → Calls Tryd.prog 18 #[.int .i64 y, .int .i64 1] W (fun e w' => e = .returned (.int .i64 l) ∧ W = w'))) (RI : Hid (∀ W, Lens W → Calls Tryd.prog 15 #[.agg #[.int .i64 y, .int .i64 1, .int .i64 d]] W (RetV W (.bool true)))) (w : World) (L : Lens w) :
    Calls Tryd.prog 26 #[.int .i64 y, .int .i64 m, .int .i64 d, .int .i64 1] w (RetDE w y (1) (d) 0) := by
  have KB := (BK.nil w).more3 (.int .i64 0) (.int .i64 0) (.int .i64 0) 23
  go_enter Tryd.func26, Tryd.ntmps26
  go_upto_region 1 with (fail)
  generalize w.alloc (.cells #[.int .i64 0, .int .i64 0, .int .i64 0] 23) = w0 at *
  have L0 := L.mono KB.hb
  go_upto_region 10 with (go_at_call 18; (with_reducible refine (MR.out _ L0).mono ?_); rintro e w' ⟨rfl, rfl⟩)
  have hg := KB.head.lt
  replace KB := KB.more3 (.int .i64 y) (.int .i64 1) (.int .i64 d) 23
  generalize w0.alloc (.cells #[.int .i64 y, .int .i64 1, .int .i64 d] 23) = w1 at *
  generalize w0.heap.size = g at *
  have L1 := L.mono KB.hb
  obtain ⟨_, a0, a1, a2, _⟩ := KB.head.three
  go_wp2_with fail
  clear a0 a1 a2
  refine (RI.out _ L1).mono ?_
  rintro e w2 ⟨rfl, k⟩
  replace KB := KB.below k
  clear k
  obtain ⟨_, a0, a1, a2, _⟩ := KB.head.three
  obtain ⟨_, r0, r1, r2, f0, f1, f2⟩ := (KB.tail.head).three
  go_wp2
  obtain ⟨_, P0, P1, P2, _, _, _⟩ := ((KB.tail.head).self3 (.int .i64 (y)) (.int .i64 (1)) (.int .i64 (d))).three
  have HB := ((KB.hb.setCell (p := ⟨w.heap.size, 0, none⟩) (by show _ ≤ w.heap.size; omega) (.int .i64 (y))).setCell (p := ⟨w.heap.size, 1, none⟩) (by show _ ≤ w.heap.size; omega) (.int .i64 (1))).setCell (p := ⟨w.heap.size, 2, none⟩) (by show _ ≤ w.heap.size; omega) (.int .i64 (d))
  exact bodyPost_ret (v := .tuple #[.agg #[.int .i64 (y), .int .i64 (1), .int .i64 (d)], .int .i64 0]) (by simp [results, Tryd.results26, go_sem, P0, P1, P2]) rfl ⟨rfl, HB⟩
set_option maxRecDepth 100000 in
set_option maxHeartbeats 4000000 in
theorem regP_acn (y m d l : Int) (_l1 : 28 ≤ l) (_l2 : l ≤ 31) (hm : m < 1) (hd : ¬ d < 1) (he : ¬ l < d) (MR : Hid (∀ W, Lens W → Calls Tryd.prog 18 #[.int .i64 y, .int .i64 1] W (fun e w' => e = .returned (.int .i64 l) ∧ W = w'))) (RI : Hid (∀ W, Lens W → Calls Tryd.prog 15 #[.agg #[.int .i64 y, .int .i64 1, .int .i64 d]] W (RetV W (.bool false)))) (w : World) (L : Lens w) :
    Calls Tryd.prog 26 #[.int .i64 y, .int .i64 m, .int .i64 d, .int .i64 1] w (RetDE w 0 0 0 4) := by
  have KB := (BK.nil w).more3 (.int .i64 0) (.int .i64 0) (.int .i64 0) 23
  go_enter Tryd.func26, Tryd.ntmps26
  go_upto_region 1 with (fail)
  generalize w.alloc (.cells #[.int .i64 0, .int .i64 0, .int .i64 0] 23) = w0 at *
  have L0 := L.mono KB.hb
  go_upto_region 10 with (go_at_call 18; (with_reducible refine (MR.out _ L0).mono ?_); rintro e w' ⟨rfl, rfl⟩)
  have hg := KB.head.lt
  replace KB := KB.more3 (.int .i64 y) (.int .i64 1) (.int .i64 d) 23
  generalize w0.alloc (.cells #[.int .i64 y, .int .i64 1, .int .i64 d] 23) = w1 at *
  generalize w0.heap.size = g at *
  have L1 := L.mono KB.hb
  obtain ⟨_, a0, a1, a2, _⟩ := KB.head.three
  go_wp2_with fail
  clear a0 a1 a2
  refine (RI.out _ L1).mono ?_
  rintro e w2 ⟨rfl, k⟩
  replace KB := KB.below k
  clear k
  obtain ⟨_, a0, a1, a2, _⟩ := KB.head.three
  obtain ⟨_, r0, r1, r2, f0, f1, f2⟩ := (KB.tail.head).three
  go_wp2
  obtain ⟨_, P0, P1, P2, _, _, _⟩ := ((KB.tail.head).self3 (.int .i64 (0)) (.int .i64 (0)) (.int .i64 (0))).three
  have HB := ((KB.hb.setCell (p := ⟨w.heap.size, 0, none⟩) (by show _ ≤ w.heap.size; omega) (.int .i64 (0))).setCell (p := ⟨w.heap.size, 1, none⟩) (by show _ ≤ w.heap.size; omega) (.int .i64 (0))).setCell (p := ⟨w.heap.size, 2, none⟩) (by show _ ≤ w.heap.size; omega) (.int .i64 (0))
  exact bodyPost_ret (v := .tuple #[.agg #[.int .i64 (0), .int .i64 (0), .int .i64 (0)], .int .i64 4]) (by simp [results, Tryd.results26, go_sem, P0, P1, P2]) rfl ⟨rfl, HB⟩
set_option maxRecDepth 100000 in
set_option maxHeartbeats 4000000 in
theorem regP_bay (y m d l : Int) (_l1 : 28 ≤ l) (_l2 : l ≤ 31) (hm : ¬ m < 1) (hn : 12 < m) (hd : d < 1) (MR : Hid (∀ W, Lens W → Calls Tryd.prog 18 #[.int .i64 y, .int .i64 12] W (fun e w' => e = .returned (.int .i64 l) ∧ W = w'))) (RI : Hid (∀ W, Lens W → Calls Tryd.prog 15 #[.agg #[.int .i64 y, .int .i64 12, .int .i64 1]] W (RetV W (.bool true)))) (w : World) (L : Lens w) :
    Calls Tryd.prog 26 #[.int .i64 y, .int .i64 m, .int .i64 d, .int .i64 1] w (RetDE w y (12) (1) 0) := by
  have KB := (BK.nil w).more3 (.int .i64 0) (.int .i64 0) (.int .i64 0) 23
  go_enter Tryd.func26, Tryd.ntmps26
  go_upto_region 1 with (fail)
  generalize w.alloc (.cells #[.int .i64 0, .int .i64 0, .int .i64 0] 23) = w0 at *
  have L0 := L.mono KB.hb
  go_upto_region 10 with (go_at_call 18; (with_reducible refine (MR.out _ L0).mono ?_); rintro e w' ⟨rfl, rfl⟩)
  have hg := KB.head.lt
  replace KB := KB.more3 (.int .i64 y) (.int .i64 12) (.int .i64 1) 23
  generalize w0.alloc (.cells #[.int .i64 y, .int .i64 12, .int .i64 1] 23) = w1 at *
  generalize w0.heap.size = g at *
  have L1 := L.mono KB.hb
  obtain ⟨_, a0, a1, a2, _⟩ := KB.head.three
  go_wp2_with fail
  clear a0 a1 a2
  refine (RI.out _ L1).mono ?_
  rintro e w2 ⟨rfl, k⟩
  replace KB := KB.below k
  clear k
  obtain ⟨_, a0, a1, a2, _⟩ := KB.head.three
  obtain ⟨_, r0, r1, r2, f0, f1, f2⟩ := (KB.tail.head).three
  go_wp2
  obtain ⟨_, P0, P1, P2, _, _, _⟩ := ((KB.tail.head).self3 (.int .i64 (y)) (.int .i64 (12)) (.int .i64 (1))).three
  have HB := ((KB.hb.setCell (p := ⟨w.heap.size, 0, none⟩) (by show _ ≤ w.heap.size; omega) (.int .i64 (y))).setCell (p := ⟨w.heap.size, 1, none⟩) (by show _ ≤ w.heap.size; omega) (.int .i64 (12))).setCell (p := ⟨w.heap.size, 2, none⟩) (by show _ ≤ w.heap.size; omega) (.int .i64 (1))
  exact bodyPost_ret (v := .tuple #[.agg #[.int .i64 (y), .int .i64 (12), .int .i64 (1)], .int .i64 0]) (by simp [results, Tryd.results26, go_sem, P0, P1, P2]) rfl ⟨rfl, HB⟩
set_option maxRecDepth 100000 in
set_option maxHeartbeats 4000000 in
theorem regP_ban (y m d l : Int) (_l1 : 28 ≤ l) (_l2 : l ≤ 31) (hm : ¬ m < 1) (hn : 12 < m) (hd : d < 1) (MR : Hid (∀ W, Lens W → Calls Tryd.prog 18 #[.int .i64 y, .int .i64 12] W (fun e w' => e = .returned (.int .i64 l) ∧ W = w'))) (RI : Hid (∀ W, Lens W → Calls Tryd.prog 15 #[.agg #[.int .i64 y, .int .i64 12, .int .i64 1]] W (RetV W (.bool false)))) (w : World) (L : Lens w) :
    Calls Tryd.prog 26 #[.int .i64 y, .int .i64 m, .int .i64 d, .int .i64 1] w (RetDE w 0 0 0 4) := by
  have KB := (BK.nil w).more3 (.int .i64 0) (.int .i64 0) (.int .i64 0) 23
  go_enter Tryd.func26, Tryd.ntmps26
  go_upto_region 1 with (fail)
  generalize w.alloc (.cells #[.int .i64 0, .int .i64 0, .int .i64 0] 23) = w0 at *
  have L0 := L.mono KB.hb
  go_upto_region 10 with (go_at_call 18; (with_reducible refine (MR.out _ L0).mono ?_); rintro e w' ⟨rfl, rfl⟩)
  have hg := KB.head.lt
  replace KB := KB.more3 (.int .i64 y) (.int .i64 12) (.int .i64 1) 23
  generalize w0.alloc (.cells #[.int .i64 y, .int .i64 12, .int .i64 1] 23) = w1 at *
  generalize w0.heap.size = g at *
  have L1 := L.mono KB.hb
  obtain ⟨_, a0, a1, a2, _⟩ := KB.head.three
  go_wp2_with fail
  clear a0 a1 a2
  refine (RI.out _ L1).mono ?_
  rintro e w2 ⟨rfl, k⟩
  replace KB := KB.below k
  clear k
  obtain ⟨_, a0, a1, a2, _⟩ := KB.head.three
  obtain ⟨_, r0, r1, r2, f0, f1, f2⟩ := (KB.tail.head).three
  go_wp2
  obtain ⟨_, P0, P1, P2, _, _, _⟩ := ((KB.tail.head).self3 (.int .i64 (0)) (.int .i64 (0)) (.int .i64 (0))).three
  have HB := ((KB.hb.setCell (p := ⟨w.heap.size, 0, none⟩) (by show _ ≤ w.heap.size; omega) (.int .i64 (0))).setCell (p := ⟨w.heap.size, 1, none⟩) (by show _ ≤ w.heap.size; omega) (.int .i64 (0))).setCell (p := ⟨w.heap.size, 2, none⟩) (by show _ ≤ w.heap.size; omega) (.int .i64 (0))
  exact bodyPost_ret (v := .tuple #[.agg #[.int .i64 (0), .int .i64 (0), .int .i64 (0)], .int .i64 4]) (by simp [results, Tryd.results26, go_sem, P0, P1, P2]) rfl ⟨rfl, HB⟩
set_option maxRecDepth 100000 in
set_option maxHeartbeats 4000000 in
theorem regP_bby (y m d l : Int) (_l1 : 28 ≤ l) (_l2 : l ≤ 31) (hm : ¬ m < 1) (hn : 12 < m) (hd : ¬ d < 1) (he : l < d) (MR : Hid (∀ W, Lens W → Calls Tryd.prog 18 #[.int .i64 y, .int .i64 12] W (fun e w' => e = .returned (.int .i64 l) ∧ W = w'))) (RI : Hid (∀ W, Lens W → Calls Tryd.prog 15 #[.agg #[.int .i64 y, .int .i64 12, .int .i64 l]] W (RetV W (.bool true)))) (w : World) (L : Lens w) :
    Calls Tryd.prog 26 #[.int .i64 y, .int .i64 m, .int .i64 d, .int .i64 1] w (RetDE w y (12) (l) 0) := by
  have KB := (BK.nil w).more3 (.int .i64 0) (.int .i64 0) (.int .i64 0) 23
  go_enter Tryd.func26, Tryd.ntmps26
  go_upto_region 1 with (fail)
  generalize w.alloc (.cells #[.int .i64 0, .int .i64 0, .int .i64 0] 23) = w0 at *
  have L0 := L.mono KB.hb
  go_upto_region 10 with (go_at_call 18; (with_reducible refine (MR.out _ L0).mono ?_); rintro e w' ⟨rfl, rfl⟩)
  have hg := KB.head.lt
  replace KB := KB.more3 (.int .i64 y) (.int .i64 12) (.int .i64 l) 23
  generalize w0.alloc (.cells #[.int .i64 y, .int .i64 12, .int .i64 l] 23) = w1 at *
  generalize w0.heap.size = g at *
  have L1 := L.mono KB.hb
  obtain ⟨_, a0, a1, a2, _⟩ := KB.head.three
  go_wp2_with fail
  clear a0 a1 a2
  refine (RI.out _ L1).mono ?_
  rintro e w2 ⟨rfl, k⟩
  replace KB := KB.below k
  clear k
  obtain ⟨_, a0, a1, a2, _⟩ := KB.head.three
  obtain ⟨_, r0, r1, r2, f0, f1, f2⟩ := (KB.tail.head).three
  go_wp2
  obtain ⟨_, P0, P1, P2, _, _, _⟩ := ((KB.tail.head).self3 (.int .i64 (y)) (.int .i64 (12)) (.int .i64 (l))).three
  have HB := ((KB.hb.setCell (p := ⟨w.heap.size, 0, none⟩) (by show _ ≤ w.heap.size; omega) (.int .i64 (y))).setCell (p := ⟨w.heap.size, 1, none⟩) (by show _ ≤ w.heap.size; omega) (.int .i64 (12))).setCell (p := ⟨w.heap.size, 2, none⟩) (by show _ ≤ w.heap.size; omega) (.int .i64 (l))
  exact bodyPost_ret (v := .tuple #[.agg #[.int .i64 (y), .int .i64 (12), .int .i64 (l)], .int .i64 0]) (by simp [results, Tryd.results26, go_sem, P0, P1, P2]) rfl ⟨rfl, HB⟩
set_option maxRecDepth 100000 in
set_option maxHeartbeats 4000000 in
theorem regP_bbn (y m d l : Int) (_l1 : 28 ≤ l) (_l2 : l ≤ 31) (hm : ¬ m < 1) (hn : 12 < m) (hd : ¬ d < 1) (he : l < d) (MR : Hid (∀ W, Lens W → Calls Tryd.prog 18 #[.int .i64 y, .int .i64 12] W (fun e w' => e = .returned (.int .i64 l) ∧ W = w'))) (RI : Hid (∀ W, Lens W → Calls Tryd.prog 15 #[.agg #[.int .i64 y, .int .i64 12, .int .i64 l]] W (RetV W (.bool false)))) (w : World) (L : Lens w) :
    Calls Tryd.prog 26 #[.int .i64 y, .int .i64 m, .int .i64 d, .int .i64 1] w (RetDE w 0 0 0 4) := by
  have KB := (BK.nil w).more3 (.int .i64 0) (.int .i64 0) (.int .i64 0) 23
  go_enter Tryd.func26, Tryd.ntmps26
  go_upto_region 1 with (fail)
  generalize w.alloc (.cells #[.int .i64 0, .int .i64 0, .int .i64 0] 23) = w0 at *
  have L0 := L.mono KB.hb
  go_upto_region 10 with (go_at_call 18; (with_reducible refine (MR.out _ L0).mono ?_); rintro e w' ⟨rfl, rfl⟩)
  have hg := KB.head.lt
  replace KB := KB.more3 (.int .i64 y) (.int .i64 12) (.int .i64 l) 23
  generalize w0.alloc (.cells #[.int .i64 y, .int .i64 12, .int .i64 l] 23) = w1 at *
  generalize w0.heap.size = g at *
  have L1 := L.mono KB.hb
  obtain ⟨_, a0, a1, a2, _⟩ := KB.head.three
  go_wp2_with fail
  clear a0 a1 a2
  refine (RI.out _ L1).mono ?_
  rintro e w2 ⟨rfl, k⟩
  replace KB := KB.below k
  clear k
  obtain ⟨_, a0, a1, a2, _⟩ := KB.head.three
  obtain ⟨_, r0, r1, r2, f0, f1, f2⟩ := (KB.tail.head).three
  go_wp2
  obtain ⟨_, P0, P1, P2, _, _, _⟩ := ((KB.tail.head).self3 (.int .i64 (0)) (.int .i64 (0)) (.int .i64 (0))).three
  have HB := ((KB.hb.setCell (p := ⟨w.heap.size, 0, none⟩) (by show _ ≤ w.heap.size; omega) (.int .i64 (0))).setCell (p := ⟨w.heap.size, 1, none⟩) (by show _ ≤ w.heap.size; omega) (.int .i64 (0))).setCell (p := ⟨w.heap.size, 2, none⟩) (by show _ ≤ w.heap.size; omega) (.int .i64 (0))
  exact bodyPost_ret (v := .tuple #[.agg #[.int .i64 (0), .int .i64 (0), .int .i64 (0)], .int .i64 4]) (by simp [results, Tryd.results26, go_sem, P0, P1, P2]) rfl ⟨rfl, HB⟩
set_option maxRecDepth 100000 in
set_option maxHeartbeats 4000000 in
theorem regP_bcy (y m d l : Int) (_l1 : 28 ≤ l) (_l2 : l ≤ 31) (hm : ¬ m < 1) (hn : 12 < m) (hd : ¬ d < 1) (he : ¬ l < d) (MR : Hid (∀ W, Lens W → Calls Tryd.prog 18 #[.int .i64 y, .int .i64 12] W (fun e w' => e = .returned (.int .i64 l) ∧ W = w'))) (RI : Hid (∀ W, Lens W → Calls Tryd.prog 15 #[.agg #[.int .i64 y, .int .i64 12, .int .i64 d]] W (RetV W (.bool true)))) (w : World) (L : Lens w) :
    Calls Tryd.prog 26 #[.int .i64 y, .int .i64 m, .int .i64 d, .int .i64 1] w (RetDE w y (12) (d) 0) := by
  have KB := (BK.nil w).more3 (.int .i64 0) (.int .i64 0) (.int .i64 0) 23
  go_enter Tryd.func26, Tryd.ntmps26
  go_upto_region 1 with (fail)
  generalize w.alloc (.cells #[.int .i64 0, .int .i64 0, .int .i64 0] 23) = w0 at *
  have L0 := L.mono KB.hb
  go_upto_region 10 with (go_at_call 18; (with_reducible refine (MR.out _ L0).mono ?_); rintro e w' ⟨rfl, rfl⟩)
  have hg := KB.head.lt
  replace KB := KB.more3 (.int .i64 y) (.int .i64 12) (.int .i64 d) 23
  generalize w0.alloc (.cells #[.int .i64 y, .int .i64 12, .int .i64 d] 23) = w1 at *
  generalize w0.heap.size = g at *
  have L1 := L.mono KB.hb
  obtain ⟨_, a0, a1, a2, _⟩ := KB.head.three
  go_wp2_with fail
  clear a0 a1 a2
  refine (RI.out _ L1).mono ?_
  rintro e w2 ⟨rfl, k⟩
  replace KB := KB.below k
  clear k
  obtain ⟨_, a0, a1, a2, _⟩ := KB.head.three
  obtain ⟨_, r0, r1, r2, f0, f1, f2⟩ := (KB.tail.head).three
  go_wp2
  obtain ⟨_, P0, P1, P2, _, _, _⟩ := ((KB.tail.head).self3 (.int .i64 (y)) (.int .i64 (12)) (.int .i64 (d))).three
  have HB := ((KB.hb.setCell (p := ⟨w.heap.size, 0, none⟩) (by show _ ≤ w.heap.size; omega) (.int .i64 (y))).setCell (p := ⟨w.heap.size, 1, none⟩) (by show _ ≤ w.heap.size; omega) (.int .i64 (12))).setCell (p := ⟨w.heap.size, 2, none⟩) (by show _ ≤ w.heap.size; omega) (.int .i64 (d))
  exact bodyPost_ret (v := .tuple #[.agg #[.int .i64 (y), .int .i64 (12), .int .i64 (d)], .int .i64 0]) (by simp [results, Tryd.results26, go_sem, P0, P1, P2]) rfl ⟨rfl, HB⟩
set_option maxRecDepth 100000 in
set_option maxHeartbeats 4000000 in
theorem regP_bcn (y m d l : Int) (_l1 : 28 ≤ l) (_l2 : l ≤ 31) (hm : ¬ m < 1) (hn : 12 < m) (hd : ¬ d < 1) (he : ¬ l < d) (MR : Hid (∀ W, Lens W → Calls Tryd.prog 18 #[.int .i64 y, .int .i64 12] W (fun e w' => e = .returned (.int .i64 l) ∧ W = w'))) (RI : Hid (∀ W, Lens W → Calls Tryd.prog 15 #[.agg #[.int .i64 y, .int .i64 12, .int .i64 d]] W (RetV W (.bool false)))) (w : World) (L : Lens w) :
    Calls Tryd.prog 26 #[.int .i64 y, .int .i64 m, .int .i64 d, .int .i64 1] w (RetDE w 0 0 0 4) := by
  have KB := (BK.nil w).more3 (.int .i64 0) (.int .i64 0) (.int .i64 0) 23
  go_enter Tryd.func26, Tryd.ntmps26
  go_upto_region 1 with (fail)
  generalize w.alloc (.cells #[.int .i64 0, .int .i64 0, .int .i64 0] 23) = w0 at *
  have L0 := L.mono KB.hb
  go_upto_region 10 with (go_at_call 18; (with_reducible refine (MR.out _ L0).mono ?_); rintro e w' ⟨rfl, rfl⟩)
  have hg := KB.head.lt
  replace KB := KB.more3 (.int .i64 y) (.int .i64 12) (.int .i64 d) 23
  generalize w0.alloc (.cells #[.int .i64 y, .int .i64 12, .int .i64 d] 23) = w1 at *
  generalize w0.heap.size = g at *
  have L1 := L.mono KB.hb
  obtain ⟨_, a0, a1, a2, _⟩ := KB.head.three
  go_wp2_with fail
  clear a0 a1 a2
  refine (RI.out _ L1).mono ?_
  rintro e w2 ⟨rfl, k⟩
  replace KB := KB.below k
  clear k
  obtain ⟨_, a0, a1, a2, _⟩ := KB.head.three
  obtain ⟨_, r0, r1, r2, f0, f1, f2⟩ := (KB.tail.head).three
  go_wp2
  obtain ⟨_, P0, P1, P2, _, _, _⟩ := ((KB.tail.head).self3 (.int .i64 (0)) (.int .i64 (0)) (.int .i64 (0))).three
  have HB := ((KB.hb.setCell (p := ⟨w.heap.size, 0, none⟩) (by show _ ≤ w.heap.size; omega) (.int .i64 (0))).setCell (p := ⟨w.heap.size, 1, none⟩) (by show _ ≤ w.heap.size; omega) (.int .i64 (0))).setCell (p := ⟨w.heap.size, 2, none⟩) (by show _ ≤ w.heap.size; omega) (.int .i64 (0))
  exact bodyPost_ret (v := .tuple #[.agg #[.int .i64 (0), .int .i64 (0), .int .i64 (0)], .int .i64 4]) (by simp [results, Tryd.results26, go_sem, P0, P1, P2]) rfl ⟨rfl, HB⟩
set_option maxRecDepth 100000 in
set_option maxHeartbeats 4000000 in
theorem regP_cay (y m d l : Int) (_l1 : 28 ≤ l) (_l2 : l ≤ 31) (hm : ¬ m < 1) (hn : ¬ 12 < m) (hd : d < 1) (MR : Hid (∀ W, Lens W → Calls Tryd.prog 18 #[.int .i64 y, .int .i64 m] W (fun e w' => e = .returned (.int .i64 l) ∧ W = w'))) (RI : Hid (∀ W, Lens W → Calls Tryd.prog 15 #[.agg #[.int .i64 y, .int .i64 m, .int .i64 1]] W (RetV W (.bool true)))) (w : World) (L : Lens w) :
    Calls Tryd.prog 26 #[.int .i64 y, .int .i64 m, .int .i64 d, .int .i64 1] w (RetDE w y (m) (1) 0) := by
  have KB := (BK.nil w).more3 (.int .i64 0) (.int .i64 0) (.int .i64 0) 23
  go_enter Tryd.func26, Tryd.ntmps26
  go_upto_region 1 with (fail)
  generalize w.alloc (.cells #[.int .i64 0, .int .i64 0, .int .i64 0] 23) = w0 at *
  have L0 := L.mono KB.hb
  go_upto_region 10 with (go_at_call 18; (with_reducible refine (MR.out _ L0).mono ?_); rintro e w' ⟨rfl, rfl⟩)
  have hg := KB.head.lt
  replace KB := KB.more3 (.int .i64 y) (.int .i64 m) (.int .i64 1) 23
  generalize w0.alloc (.cells #[.int .i64 y, .int .i64 m, .int .i64 1] 23) = w1 at *
  generalize w0.heap.size = g at *
  have L1 := L.mono KB.hb
  obtain ⟨_, a0, a1, a2, _⟩ := KB.head.three
  go_wp2_with fail
  clear a0 a1 a2
  refine (RI.out _ L1).mono ?_
  rintro e w2 ⟨rfl, k⟩
  replace KB := KB.below k
  clear k
  obtain ⟨_, a0, a1, a2, _⟩ := KB.head.three
  obtain ⟨_, r0, r1, r2, f0, f1, f2⟩ := (KB.tail.head).three
  go_wp2
  obtain ⟨_, P0, P1, P2, _, _, _⟩ := ((KB.tail.head).self3 (.int .i64 (y)) (.int .i64 (m)) (.int .i64 (1))).three
  have HB := ((KB.hb.setCell (p := ⟨w.heap.size, 0, none⟩) (by show _ ≤ w.heap.size; omega) (.int .i64 (y))).setCell (p := ⟨w.heap.size, 1, none⟩) (by show _ ≤ w.heap.size; omega) (.int .i64 (m))).setCell (p := ⟨w.heap.size, 2, none⟩) (by show _ ≤ w.heap.size; omega) (.int .i64 (1))
  exact bodyPost_ret (v := .tuple #[.agg #[.int .i64 (y), .int .i64 (m), .int .i64 (1)], .int .i64 0]) (by simp [results, Tryd.results26, go_sem, P0, P1, P2]) rfl ⟨rfl, HB⟩
set_option maxRecDepth 100000 in
set_option maxHeartbeats 4000000 in
theorem regP_can (y m d l : Int) (_l1 : 28 ≤ l) (_l2 : l ≤ 31) (hm : ¬ m < 1) (hn : ¬ 12 < m) (hd : d < 1) (MR : Hid (∀ W, Lens W → Calls Tryd.prog 18 #[.int .i64 y, .int .i64 m] W (fun e w' => e = .returned (.int .i64 l) ∧ W = w'))) (RI : Hid (∀ W, Lens W → Calls Tryd.prog 15 #[.agg #[.int .i64 y, .int .i64 m, .int .i64 1]] W (RetV W (.bool false)))) (w : World) (L : Lens w) :
    Calls Tryd.prog 26 #[.int .i64 y, .int .i64 m, .int .i64 d, .int .i64 1] w (RetDE w 0 0 0 4) := by
  have KB := (BK.nil w).more3 (.int .i64 0) (.int .i64 0) (.int .i64 0) 23
  go_enter Tryd.func26, Tryd.ntmps26
  go_upto_region 1 with (fail)
  generalize w.alloc (.cells #[.int .i64 0, .int .i64 0, .int .i64 0] 23) = w0 at *
  have L0 := L.mono KB.hb
  go_upto_region 10 with (go_at_call 18; (with_reducible refine (MR.out _ L0).mono ?_); rintro e w' ⟨rfl, rfl⟩)
  have hg := KB.head.lt
  replace KB := KB.more3 (.int .i64 y) (.int .i64 m) (.int .i64 1) 23
  generalize w0.alloc (.cells #[.int .i64 y, .int .i64 m, .int .i64 1] 23) = w1 at *
  generalize w0.heap.size = g at *
  have L1 := L.mono KB.hb
  obtain ⟨_, a0, a1, a2, _⟩ := KB.head.three
  go_wp2_with fail
  clear a0 a1 a2
  refine (RI.out _ L1).mono ?_
  rintro e w2 ⟨rfl, k⟩
  replace KB := KB.below k
  clear k
  obtain ⟨_, a0, a1, a2, _⟩ := KB.head.three
  obtain ⟨_, r0, r1, r2, f0, f1, f2⟩ := (KB.tail.head).three
  go_wp2
  obtain ⟨_, P0, P1, P2, _, _, _⟩ := ((KB.tail.head).self3 (.int .i64 (0)) (.int .i64 (0)) (.int .i64 (0))).three
  have HB := ((KB.hb.setCell (p := ⟨w.heap.size, 0, none⟩) (by show _ ≤ w.heap.size; omega) (.int .i64 (0))).setCell (p := ⟨w.heap.size, 1, none⟩) (by show _ ≤ w.heap.size; omega) (.int .i64 (0))).setCell (p := ⟨w.heap.size, 2, none⟩) (by show _ ≤ w.heap.size; omega) (.int .i64 (0))
  exact bodyPost_ret (v := .tuple #[.agg #[.int .i64 (0), .int .i64 (0), .int .i64 (0)], .int .i64 4]) (by simp [results, Tryd.results26, go_sem, P0, P1, P2]) rfl ⟨rfl, HB⟩
set_option maxRecDepth 100000 in
set_option maxHeartbeats 4000000 in
theorem regP_cby (y m d l : Int) (_l1 : 28 ≤ l) (_l2 : l ≤ 31) (hm : ¬ m < 1) (hn : ¬ 12 < m) (hd : ¬ d < 1) (he : l < d) (MR : Hid (∀ W, Lens W → Calls Tryd.prog 18 #[.int .i64 y, .int .i64 m] W (fun e w' => e = .returned (.int .i64 l) ∧ W = w'))) (RI : Hid (∀ W, Lens W → Calls Tryd.prog 15 #[.agg #[.int .i64 y, .int .i64 m, .int .i64 l]] W (RetV W (.bool true)))) (w : World) (L : Lens w) :
    Calls Tryd.prog 26 #[.int .i64 y, .int .i64 m, .int .i64 d, .int .i64 1] w (RetDE w y (m) (l) 0) := by
  have KB := (BK.nil w).more3 (.int .i64 0) (.int .i64 0) (.int .i64 0) 23
  go_enter Tryd.func26, Tryd.ntmps26
  go_upto_region 1 with (fail)
  generalize w.alloc (.cells #[.int .i64 0, .int .i64 0, .int .i64 0] 23) = w0 at *
  have L0 := L.mono KB.hb
  go_upto_region 10 with (go_at_call 18; (with_reducible refine (MR.out _ L0).mono ?_); rintro e w' ⟨rfl, rfl⟩)
  have hg := KB.head.lt
  replace KB := KB.more3 (.int .i64 y) (.int .i64 m) (.int .i64 l) 23
  generalize w0.alloc (.cells #[.int .i64 y, .int .i64 m, .int .i64 l] 23) = w1 at *
  generalize w0.heap.size = g at *
  have L1 := L.mono KB.hb
  obtain ⟨_, a0, a1, a2, _⟩ := KB.head.three
  go_wp2_with fail
  clear a0 a1 a2
  refine (RI.out _ L1).mono ?_
  rintro e w2 ⟨rfl, k⟩
  replace KB := KB.below k
  clear k
  obtain ⟨_, a0, a1, a2, _⟩ := KB.head.three
  obtain ⟨_, r0, r1, r2, f0, f1, f2⟩ := (KB.tail.head).three
  go_wp2
  obtain ⟨_, P0, P1, P2, _, _, _⟩ := ((KB.tail.head).self3 (.int .i64 (y)) (.int .i64 (m)) (.int .i64 (l))).three
  have HB := ((KB.hb.setCell (p := ⟨w.heap.size, 0, none⟩) (by show _ ≤ w.heap.size; omega) (.int .i64 (y))).setCell (p := ⟨w.heap.size, 1, none⟩) (by show _ ≤ w.heap.size; omega) (.int .i64 (m))).setCell (p := ⟨w.heap.size, 2, none⟩) (by show _ ≤ w.heap.size; omega) (.int .i64 (l))
  exact bodyPost_ret (v := .tuple #[.agg #[.int .i64 (y), .int .i64 (m), .int .i64 (l)], .int .i64 0]) (by simp [results, Tryd.results26, go_sem, P0, P1, P2]) rfl ⟨rfl, HB⟩
set_option maxRecDepth 100000 in
set_option maxHeartbeats 4000000 in
theorem regP_cbn (y m d l : Int) (_l1 : 28 ≤ l) (_l2 : l ≤ 31) (hm : ¬ m < 1) (hn : ¬ 12 < m) (hd : ¬ d < 1) (he : l < d) (MR : Hid (∀ W, Lens W → Calls Tryd.prog 18 #[.int .i64 y, .int .i64 m] W (fun e w' => e = .returned (.int .i64 l) ∧ W = w'))) (RI : Hid (∀ W, Lens W → Calls Tryd.prog 15 #[.agg #[.int .i64 y, .int .i64 m, .int .i64 l]] W (RetV W (.bool false)))) (w : World) (L : Lens w) :
    Calls Tryd.prog 26 #[.int .i64 y, .int .i64 m, .int .i64 d, .int .i64 1] w (RetDE w 0 0 0 4) := by
  have KB := (BK.nil w).more3 (.int .i64 0) (.int .i64 0) (.int .i64 0) 23
  go_enter Tryd.func26, Tryd.ntmps26
  go_upto_region 1 with (fail)
  generalize w.alloc (.cells #[.int .i64 0, .int .i64 0, .int .i64 0] 23) = w0 at *
  have L0 := L.mono KB.hb
  go_upto_region 10 with (go_at_call 18; (with_reducible refine (MR.out _ L0).mono ?_); rintro e w' ⟨rfl, rfl⟩)
  have hg := KB.head.lt
  replace KB := KB.more3 (.int .i64 y) (.int .i64 m) (.int .i64 l) 23
  generalize w0.alloc (.cells #[.int .i64 y, .int .i64 m, .int .i64 l] 23) = w1 at *
  generalize w0.heap.size = g at *
  have L1 := L.mono KB.hb
  obtain ⟨_, a0, a1, a2, _⟩ := KB.head.three
  go_wp2_with fail
  clear a0 a1 a2
  refine (RI.out _ L1).mono ?_
  rintro e w2 ⟨rfl, k⟩
  replace KB := KB.below k
  clear k
  obtain ⟨_, a0, a1, a2, _⟩ := KB.head.three
  obtain ⟨_, r0, r1, r2, f0, f1, f2⟩ := (KB.tail.head).three
  go_wp2
  obtain ⟨_, P0, P1, P2, _, _, _⟩ := ((KB.tail.head).self3 (.int .i64 (0)) (.int .i64 (0)) (.int .i64 (0))).three
  have HB := ((KB.hb.setCell (p := ⟨w.heap.size, 0, none⟩) (by show _ ≤ w.heap.size; omega) (.int .i64 (0))).setCell (p := ⟨w.heap.size, 1, none⟩) (by show _ ≤ w.heap.size; omega) (.int .i64 (0))).setCell (p := ⟨w.heap.size, 2, none⟩) (by show _ ≤ w.heap.size; omega) (.int .i64 (0))
  exact bodyPost_ret (v := .tuple #[.agg #[.int .i64 (0), .int .i64 (0), .int .i64 (0)], .int .i64 4]) (by simp [results, Tryd.results26, go_sem, P0, P1, P2]) rfl ⟨rfl, HB⟩
set_option maxRecDepth 100000 in
set_option maxHeartbeats 4000000 in
theorem regP_ccy (y m d l : Int) (_l1 : 28 ≤ l) (_l2 : l ≤ 31) (hm : ¬ m < 1) (hn : ¬ 12 < m) (hd : ¬ d < 1) (he : ¬ l < d) (MR : Hid (∀ W, Lens W → Calls Tryd.prog 18 #[.int .i64 y, .int .i64 m] W (fun e w' => e = .returned (.int .i64 l) ∧ W = w'))) (RI : Hid (∀ W, Lens W → Calls Tryd.prog 15 #[.agg #[.int .i64 y, .int .i64 m, .int .i64 d]] W (RetV W (.bool true)))) (w : World) (L : Lens w) :
    Calls Tryd.prog 26 #[.int .i64 y, .int .i64 m, .int .i64 d, .int .i64 1] w (RetDE w y (m) (d) 0) := by
  have KB := (BK.nil w).more3 (.int .i64 0) (.int .i64 0) (.int .i64 0) 23
  go_enter Tryd.func26, Tryd.ntmps26
  go_upto_region 1 with (fail)
  generalize w.alloc (.cells #[.int .i64 0, .int .i64 0, .int .i64 0] 23) = w0 at *
  have L0 := L.mono KB.hb
  go_upto_region 10 with (go_at_call 18; (with_reducible refine (MR.out _ L0).mono ?_); rintro e w' ⟨rfl, rfl⟩)
  have hg := KB.head.lt
  replace KB := KB.more3 (.int .i64 y) (.int .i64 m) (.int .i64 d) 23
  generalize w0.alloc (.cells #[.int .i64 y, .int .i64 m, .int .i64 d] 23) = w1 at *
  generalize w0.heap.size = g at *
  have L1 := L.mono KB.hb
  obtain ⟨_, a0, a1, a2, _⟩ := KB.head.three
  go_wp2_with fail
  clear a0 a1 a2
  refine (RI.out _ L1).mono ?_
  rintro e w2 ⟨rfl, k⟩
  replace KB := KB.below k
  clear k
  obtain ⟨_, a0, a1, a2, _⟩ := KB.head.three
  obtain ⟨_, r0, r1, r2, f0, f1, f2⟩ := (KB.tail.head).three
  go_wp2
  obtain ⟨_, P0, P1, P2, _, _, _⟩ := ((KB.tail.head).self3 (.int .i64 (y)) (.int .i64 (m)) (.int .i64 (d))).three
  have HB := ((KB.hb.setCell (p := ⟨w.heap.size, 0, none⟩) (by show _ ≤ w.heap.size; omega) (.int .i64 (y))).setCell (p := ⟨w.heap.size, 1, none⟩) (by show _ ≤ w.heap.size; omega) (.int .i64 (m))).setCell (p := ⟨w.heap.size, 2, none⟩) (by show _ ≤ w.heap.size; omega) (.int .i64 (d))
  exact bodyPost_ret (v := .tuple #[.agg #[.int .i64 (y), .int .i64 (m), .int .i64 (d)], .int .i64 0]) (by simp [results, Tryd.results26, go_sem, P0, P1, P2]) rfl ⟨rfl, HB⟩
set_option maxRecDepth 100000 in
set_option maxHeartbeats 4000000 in
theorem regP_ccn (y m d l : Int) (_l1 : 28 ≤ l) (_l2 : l ≤ 31) (hm : ¬ m < 1) (hn : ¬ 12 < m) (hd : ¬ d < 1) (he : ¬ l < d) (MR : Hid (∀ W, Lens W → Calls Tryd.prog 18 #[.int .i64 y, .int .i64 m] W (fun e w' => e = .returned (.int .i64 l) ∧ W = w'))) (RI : Hid (∀ W, Lens W → Calls Tryd.prog 15 #[.agg #[.int .i64 y, .int .i64 m, .int .i64 d]] W (RetV W (.bool false)))) (w : World) (L : Lens w) :
    Calls Tryd.prog 26 #[.int .i64 y, .int .i64 m, .int .i64 d, .int .i64 1] w (RetDE w 0 0 0 4) := by
  have KB := (BK.nil w).more3 (.int .i64 0) (.int .i64 0) (.int .i64 0) 23
  go_enter Tryd.func26, Tryd.ntmps26
  go_upto_region 1 with (fail)
  generalize w.alloc (.cells #[.int .i64 0, .int .i64 0, .int .i64 0] 23) = w0 at *
  have L0 := L.mono KB.hb
  go_upto_region 10 with (go_at_call 18; (with_reducible refine (MR.out _ L0).mono ?_); rintro e w' ⟨rfl, rfl⟩)
  have hg := KB.head.lt
  replace KB := KB.more3 (.int .i64 y) (.int .i64 m) (.int .i64 d) 23
  generalize w0.alloc (.cells #[.int .i64 y, .int .i64 m, .int .i64 d] 23) = w1 at *
  generalize w0.heap.size = g at *
  have L1 := L.mono KB.hb
  obtain ⟨_, a0, a1, a2, _⟩ := KB.head.three
  go_wp2_with fail
  clear a0 a1 a2
  refine (RI.out _ L1).mono ?_
  rintro e w2 ⟨rfl, k⟩
  replace KB := KB.below k
  clear k
  obtain ⟨_, a0, a1, a2, _⟩ := KB.head.three
  obtain ⟨_, r0, r1, r2, f0, f1, f2⟩ := (KB.tail.head).three
  go_wp2
  obtain ⟨_, P0, P1, P2, _, _, _⟩ := ((KB.tail.head).self3 (.int .i64 (0)) (.int .i64 (0)) (.int .i64 (0))).three
  have HB := ((KB.hb.setCell (p := ⟨w.heap.size, 0, none⟩) (by show _ ≤ w.heap.size; omega) (.int .i64 (0))).setCell (p := ⟨w.heap.size, 1, none⟩) (by show _ ≤ w.heap.size; omega) (.int .i64 (0))).setCell (p := ⟨w.heap.size, 2, none⟩) (by show _ ≤ w.heap.size; omega) (.int .i64 (0))
  exact bodyPost_ret (v := .tuple #[.agg #[.int .i64 (0), .int .i64 (0), .int .i64 (0)], .int .i64 4]) (by simp [results, Tryd.results26, go_sem, P0, P1, P2]) rfl ⟨rfl, HB⟩
set_option maxRecDepth 100000 in
set_option maxHeartbeats 4000000 in
theorem regP_rejy (y m d : Int) (h : dayOk y m d) (RI : Hid (∀ W, Lens W → Calls Tryd.prog 15 #[.agg #[.int .i64 y, .int .i64 m, .int .i64 d]] W (RetV W (.bool true)))) (w : World) (L : Lens w) :
    Calls Tryd.prog 26 #[.int .i64 y, .int .i64 m, .int .i64 d, .int .i64 2] w (RetDE w y m d 0) := by
  have HA := Lib.hid (fun W l => hasP y m d W l)
  rw [hdB_yes h] at HA
  clear h
  have KB := (BK.nil w).more3 (.int .i64 0) (.int .i64 0) (.int .i64 0) 23
  go_enter Tryd.func26, Tryd.ntmps26
  go_upto_region 1 with (fail)
  generalize w.alloc (.cells #[.int .i64 0, .int .i64 0, .int .i64 0] 23) = w0 at *
  have L0 := L.mono KB.hb
  go_upto_region 10 with (go_at_call 32; (with_reducible refine (HA.out _ L0).mono ?_); rintro e w' ⟨rfl, rfl⟩)
  have hg := KB.head.lt
  replace KB := KB.more3 (.int .i64 y) (.int .i64 m) (.int .i64 d) 23
  generalize w0.alloc (.cells #[.int .i64 y, .int .i64 m, .int .i64 d] 23) = w1 at *
  generalize w0.heap.size = g at *
  have L1 := L.mono KB.hb
  obtain ⟨_, a0, a1, a2, _⟩ := KB.head.three
  go_wp2_with fail
  clear a0 a1 a2
  refine (RI.out _ L1).mono ?_
  rintro e w2 ⟨rfl, k⟩
  replace KB := KB.below k
  clear k
  obtain ⟨_, a0, a1, a2, _⟩ := KB.head.three
  obtain ⟨_, r0, r1, r2, f0, f1, f2⟩ := (KB.tail.head).three
  go_wp2
  obtain ⟨_, P0, P1, P2, _, _, _⟩ := ((KB.tail.head).self3 (.int .i64 (y)) (.int .i64 (m)) (.int .i64 (d))).three
  have HB := ((KB.hb.setCell (p := ⟨w.heap.size, 0, none⟩) (by show _ ≤ w.heap.size; omega) (.int .i64 (y))).setCell (p := ⟨w.heap.size, 1, none⟩) (by show _ ≤ w.heap.size; omega) (.int .i64 (m))).setCell (p := ⟨w.heap.size, 2, none⟩) (by show _ ≤ w.heap.size; omega) (.int .i64 (d))
  exact bodyPost_ret (v := .tuple #[.agg #[.int .i64 (y), .int .i64 (m), .int .i64 (d)], .int .i64 0]) (by simp [results, Tryd.results26, go_sem, P0, P1, P2]) rfl ⟨rfl, HB⟩
set_option maxRecDepth 100000 in
set_option maxHeartbeats 4000000 in
theorem regP_rejn (y m d : Int) (h : dayOk y m d) (RI : Hid (∀ W, Lens W → Calls Tryd.prog 15 #[.agg #[.int .i64 y, .int .i64 m, .int .i64 d]] W (RetV W (.bool false)))) (w : World) (L : Lens w) :
    Calls Tryd.prog 26 #[.int .i64 y, .int .i64 m, .int .i64 d, .int .i64 2] w (RetDE w 0 0 0 4) := by
  have HA := Lib.hid (fun W l => hasP y m d W l)
  rw [hdB_yes h] at HA
  clear h
  have KB := (BK.nil w).more3 (.int .i64 0) (.int .i64 0) (.int .i64 0) 23
  go_enter Tryd.func26, Tryd.ntmps26
  go_upto_region 1 with (fail)
  generalize w.alloc (.cells #[.int .i64 0, .int .i64 0, .int .i64 0] 23) = w0 at *
  have L0 := L.mono KB.hb
  go_upto_region 10 with (go_at_call 32; (with_reducible refine (HA.out _ L0).mono ?_); rintro e w' ⟨rfl, rfl⟩)
  have hg := KB.head.lt
  replace KB := KB.more3 (.int .i64 y) (.int .i64 m) (.int .i64 d) 23
  generalize w0.alloc (.cells #[.int .i64 y, .int .i64 m, .int .i64 d] 23) = w1 at *
  generalize w0.heap.size = g at *
  have L1 := L.mono KB.hb
  obtain ⟨_, a0, a1, a2, _⟩ := KB.head.three
  go_wp2_with fail
  clear a0 a1 a2
  refine (RI.out _ L1).mono ?_
  rintro e w2 ⟨rfl, k⟩
  replace KB := KB.below k
  clear k
  obtain ⟨_, a0, a1, a2, _⟩ := KB.head.three
  obtain ⟨_, r0, r1, r2, f0, f1, f2⟩ := (KB.tail.head).three
  go_wp2
  obtain ⟨_, P0, P1, P2, _, _, _⟩ := ((KB.tail.head).self3 (.int .i64 (0)) (.int .i64 (0)) (.int .i64 (0))).three
  have HB := ((KB.hb.setCell (p := ⟨w.heap.size, 0, none⟩) (by show _ ≤ w.heap.size; omega) (.int .i64 (0))).setCell (p := ⟨w.heap.size, 1, none⟩) (by show _ ≤ w.heap.size; omega) (.int .i64 (0))).setCell (p := ⟨w.heap.size, 2, none⟩) (by show _ ≤ w.heap.size; omega) (.int .i64 (0))
  exact bodyPost_ret (v := .tuple #[.agg #[.int .i64 (0), .int .i64 (0), .int .i64 (0)], .int .i64 4]) (by simp [results, Tryd.results26, go_sem, P0, P1, P2]) rfl ⟨rfl, HB⟩
theorem regP_cony (y m d : Int) (hk : okD y (clM m) (clD y (clM m) d)) (w : World) (L : Lens w) : Calls Tryd.prog 26 #[.int .i64 y, .int .i64 m, .int .i64 d, .int .i64 1] w (RetDE w y (clM m) (clD y (clM m) d) 0) := by
  have RI : ∀ W, Lens W → Calls Tryd.prog 15 #[.agg #[.int .i64 y, .int .i64 (clM m), .int .i64 (clD y (clM m) d)]] W (RetV W (.bool true)) := fun W l => by
    have c := rightP y (clM m) (clD y (clM m) d) W l
    rwa [decide_eq_true hk] at c
  have MR : ∀ W, Lens W → Calls Tryd.prog 18 #[.int .i64 y, .int .i64 (clM m)] W (fun e w' => e = .returned (.int .i64 (lenM y (clM m))) ∧ W = w') := fun W l => mlenP y (clM m) W l
  have cm : 1 ≤ clM m ∧ clM m ≤ 12 := by unfold clM; repeat' split <;> omega
  have lr := lenM_range (y := y) cm.1 cm.2
  clear cm hk
  generalize hl : lenM y (clM m) = l at *
  by_cases hm : m < 1
  · have e : clM m = 1 := by unfold clM; rw [if_pos hm]
    rw [e] at MR RI hl
    rw [e]
    by_cases hd : d < 1
    · rw [show clD y 1 d = 1 by unfold clD; rw [if_pos hd]] at *
      exact regP_aay y m d l lr.1 lr.2 hm hd (Lib.hid MR) (Lib.hid RI) w L
    by_cases he : l < d
    · rw [show clD y 1 d = l by unfold clD; rw [if_neg hd, hl, if_pos he]] at *
      exact regP_aby y m d l lr.1 lr.2 hm hd he (Lib.hid MR) (Lib.hid RI) w L
    · rw [show clD y 1 d = d by unfold clD; rw [if_neg hd, hl, if_neg he]] at *
      exact regP_acy y m d l lr.1 lr.2 hm hd he (Lib.hid MR) (Lib.hid RI) w L
  by_cases hn : 12 < m
  · have e : clM m = 12 := by unfold clM; rw [if_neg hm, if_pos hn]
    rw [e] at MR RI hl
    rw [e]
    by_cases hd : d < 1
    · rw [show clD y 12 d = 1 by unfold clD; rw [if_pos hd]] at *
      exact regP_bay y m d l lr.1 lr.2 hm hn hd (Lib.hid MR) (Lib.hid RI) w L
    by_cases he : l < d
    · rw [show clD y 12 d = l by unfold clD; rw [if_neg hd, hl, if_pos he]] at *
      exact regP_bby y m d l lr.1 lr.2 hm hn hd he (Lib.hid MR) (Lib.hid RI) w L
    · rw [show clD y 12 d = d by unfold clD; rw [if_neg hd, hl, if_neg he]] at *
      exact regP_bcy y m d l lr.1 lr.2 hm hn hd he (Lib.hid MR) (Lib.hid RI) w L
  · have e : clM m = m := by unfold clM; rw [if_neg hm, if_neg hn]
    rw [e] at MR RI hl
    rw [e]
    by_cases hd : d < 1
    · rw [show clD y m d = 1 by unfold clD; rw [if_pos hd]] at *
      exact regP_cay y m d l lr.1 lr.2 hm hn hd (Lib.hid MR) (Lib.hid RI) w L
    by_cases he : l < d
    · rw [show clD y m d = l by unfold clD; rw [if_neg hd, hl, if_pos he]] at *
      exact regP_cby y m d l lr.1 lr.2 hm hn hd he (Lib.hid MR) (Lib.hid RI) w L
    · rw [show clD y m d = d by unfold clD; rw [if_neg hd, hl, if_neg he]] at *
      exact regP_ccy y m d l lr.1 lr.2 hm hn hd he (Lib.hid MR) (Lib.hid RI) w L
theorem regP_conn (y m d : Int) (hk : ¬ okD y (clM m) (clD y (clM m) d)) (w : World) (L : Lens w) : Calls Tryd.prog 26 #[.int .i64 y, .int .i64 m, .int .i64 d, .int .i64 1] w (RetDE w 0 0 0 4) := by
  have RI : ∀ W, Lens W → Calls Tryd.prog 15 #[.agg #[.int .i64 y, .int .i64 (clM m), .int .i64 (clD y (clM m) d)]] W (RetV W (.bool false)) := fun W l => by
    have c := rightP y (clM m) (clD y (clM m) d) W l
    rwa [decide_eq_false hk] at c
  have MR : ∀ W, Lens W → Calls Tryd.prog 18 #[.int .i64 y, .int .i64 (clM m)] W (fun e w' => e = .returned (.int .i64 (lenM y (clM m))) ∧ W = w') := fun W l => mlenP y (clM m) W l
  have cm : 1 ≤ clM m ∧ clM m ≤ 12 := by unfold clM; repeat' split <;> omega
  have lr := lenM_range (y := y) cm.1 cm.2
  clear cm hk
  generalize hl : lenM y (clM m) = l at *
  by_cases hm : m < 1
  · have e : clM m = 1 := by unfold clM; rw [if_pos hm]
    rw [e] at MR RI hl
    by_cases hd : d < 1
    · rw [show clD y 1 d = 1 by unfold clD; rw [if_pos hd]] at *
      exact regP_aan y m d l lr.1 lr.2 hm hd (Lib.hid MR) (Lib.hid RI) w L
    by_cases he : l < d
    · rw [show clD y 1 d = l by unfold clD; rw [if_neg hd, hl, if_pos he]] at *
      exact regP_abn y m d l lr.1 lr.2 hm hd he (Lib.hid MR) (Lib.hid RI) w L
    · rw [show clD y 1 d = d by unfold clD; rw [if_neg hd, hl, if_neg he]] at *
      exact regP_acn y m d l lr.1 lr.2 hm hd he (Lib.hid MR) (Lib.hid RI) w L
  by_cases hn : 12 < m
  · have e : clM m = 12 := by unfold clM; rw [if_neg hm, if_pos hn]
    rw [e] at MR RI hl
    by_cases hd : d < 1
    · rw [show clD y 12 d = 1 by unfold clD; rw [if_pos hd]] at *
      exact regP_ban y m d l lr.1 lr.2 hm hn hd (Lib.hid MR) (Lib.hid RI) w L
    by_cases he : l < d
    · rw [show clD y 12 d = l by unfold clD; rw [if_neg hd, hl, if_pos he]] at *
      exact regP_bbn y m d l lr.1 lr.2 hm hn hd he (Lib.hid MR) (Lib.hid RI) w L
    · rw [show clD y 12 d = d by unfold clD; rw [if_neg hd, hl, if_neg he]] at *
      exact regP_bcn y m d l lr.1 lr.2 hm hn hd he (Lib.hid MR) (Lib.hid RI) w L
  · have e : clM m = m := by unfold clM; rw [if_neg hm, if_neg hn]
    rw [e] at MR RI hl
    by_cases hd : d < 1
    · rw [show clD y m d = 1 by unfold clD; rw [if_pos hd]] at *
      exact regP_can y m d l lr.1 lr.2 hm hn hd (Lib.hid MR) (Lib.hid RI) w L
    by_cases he : l < d
    · rw [show clD y m d = l by unfold clD; rw [if_neg hd, hl, if_pos he]] at *
      exact regP_cbn y m d l lr.1 lr.2 hm hn hd he (Lib.hid MR) (Lib.hid RI) w L
    · rw [show clD y m d = d by unfold clD; rw [if_neg hd, hl, if_neg he]] at *
      exact regP_ccn y m d l lr.1 lr.2 hm hn hd he (Lib.hid MR) (Lib.hid RI) w L
theorem regP_rej_y (y m d : Int) (hk : okD y m d) (w : World) (L : Lens w) : Calls Tryd.prog 26 #[.int .i64 y, .int .i64 m, .int .i64 d, .int .i64 2] w (RetDE w y m d 0) :=
  regP_rejy y m d hk.1 (Lib.hid fun W l => by have c := rightP y m d W l; rwa [decide_eq_true hk] at c) w L
theorem regP_rej_n (y m d : Int) (h : dayOk y m d) (hk : ¬ okD y m d) (w : World) (L : Lens w) : Calls Tryd.prog 26 #[.int .i64 y, .int .i64 m, .int .i64 d, .int .i64 2] w (RetDE w 0 0 0 4) :=
  regP_rejn y m d h (Lib.hid fun W l => by have c := rightP y m d W l; rwa [decide_eq_false hk] at c) w L
set_option maxRecDepth 100000 in
set_option maxHeartbeats 4000000 in
theorem addP_arg (y m d a : Int) (DA : Hid (∀ W, Lens W → Calls Tryd.prog 10 #[.agg #[.int .i64 y, .int .i64 m, .int .i64 d]] W (RetNumB W 0 false))) (w : World) (L : Lens w) :
    Calls Tryd.prog 28 #[.agg #[.int .i64 y, .int .i64 m, .int .i64 d], .int .i64 a] w (RetDE w 0 0 0 1) := by
  have KB := ((BK.nil w).more3 (.int .i64 y) (.int .i64 m) (.int .i64 d) 23).more3 (.int .i64 0) (.int .i64 0) (.int .i64 0) 23
  rw [World.size_alloc] at KB
  go_enter Tryd.func28, Tryd.ntmps28
  go_wp2_with fail
  generalize (w.alloc (.cells #[.int .i64 y, .int .i64 m, .int .i64 d] 23)).alloc (.cells #[.int .i64 0, .int .i64 0, .int .i64 0] 23) = w0 at *
  have L0 := L.mono KB.hb
  refine (DA.out _ L0).mono ?_
  rintro e w1 ⟨rfl, k⟩
  replace KB := KB.below k
  clear k
  have L1 := L.mono KB.hb
  obtain ⟨_, r0, r1, r2, f0, f1, f2⟩ := (KB.head).three
  go_wp2
  obtain ⟨_, P0, P1, P2, _, _, _⟩ := ((KB.head).self3 (.int .i64 (0)) (.int .i64 (0)) (.int .i64 (0))).three
  have HB := ((KB.hb.setCell (p := ⟨w.heap.size + 1, 0, none⟩) (by show _ ≤ w.heap.size + 1; omega) (.int .i64 (0))).setCell (p := ⟨w.heap.size + 1, 1, none⟩) (by show _ ≤ w.heap.size + 1; omega) (.int .i64 (0))).setCell (p := ⟨w.heap.size + 1, 2, none⟩) (by show _ ≤ w.heap.size + 1; omega) (.int .i64 (0))
  exact bodyPost_ret (v := .tuple #[.agg #[.int .i64 (0), .int .i64 (0), .int .i64 (0)], .int .i64 1]) (by simp [results, Tryd.results28, go_sem, P0, P1, P2]) rfl ⟨rfl, HB⟩
set_option maxRecDepth 100000 in
set_option maxHeartbeats 4000000 in
theorem addP_less (y m d a n : Int) (n1 : -100000001 ≤ n) (n2 : n ≤ 100000000) (DA : Hid (∀ W, Lens W → Calls Tryd.prog 10 #[.agg #[.int .i64 y, .int .i64 m, .int .i64 d]] W (RetNumB W n true))) (h : a < -100000001 - n) (w : World) (L : Lens w) :
    Calls Tryd.prog 28 #[.agg #[.int .i64 y, .int .i64 m, .int .i64 d], .int .i64 a] w (RetDE w 0 0 0 4) := by
  have g1 : decide (a < -100000001 - n) = true := decide_eq_true h
  have KB := ((BK.nil w).more3 (.int .i64 y) (.int .i64 m) (.int .i64 d) 23).more3 (.int .i64 0) (.int .i64 0) (.int .i64 0) 23
  rw [World.size_alloc] at KB
  go_enter Tryd.func28, Tryd.ntmps28
  go_wp2_with fail
  generalize (w.alloc (.cells #[.int .i64 y, .int .i64 m, .int .i64 d] 23)).alloc (.cells #[.int .i64 0, .int .i64 0, .int .i64 0] 23) = w0 at *
  have L0 := L.mono KB.hb
  refine (DA.out _ L0).mono ?_
  rintro e w1 ⟨rfl, k⟩
  replace KB := KB.below k
  clear k
  have L1 := L.mono KB.hb
  obtain ⟨_, r0, r1, r2, f0, f1, f2⟩ := (KB.head).three
  go_wp2
  obtain ⟨_, P0, P1, P2, _, _, _⟩ := ((KB.head).self3 (.int .i64 (0)) (.int .i64 (0)) (.int .i64 (0))).three
  have HB := ((KB.hb.setCell (p := ⟨w.heap.size + 1, 0, none⟩) (by show _ ≤ w.heap.size + 1; omega) (.int .i64 (0))).setCell (p := ⟨w.heap.size + 1, 1, none⟩) (by show _ ≤ w.heap.size + 1; omega) (.int .i64 (0))).setCell (p := ⟨w.heap.size + 1, 2, none⟩) (by show _ ≤ w.heap.size + 1; omega) (.int .i64 (0))
  exact bodyPost_ret (v := .tuple #[.agg #[.int .i64 (0), .int .i64 (0), .int .i64 (0)], .int .i64 4]) (by simp [results, Tryd.results28, go_sem, P0, P1, P2]) rfl ⟨rfl, HB⟩
set_option maxRecDepth 100000 in
set_option maxHeartbeats 4000000 in
theorem addP_more (y m d a n : Int) (n1 : -100000001 ≤ n) (n2 : n ≤ 100000000) (DA : Hid (∀ W, Lens W → Calls Tryd.prog 10 #[.agg #[.int .i64 y, .int .i64 m, .int .i64 d]] W (RetNumB W n true))) (h1 : ¬ a < -100000001 - n) (h : 100000000 - n < a) (w : World) (L : Lens w) :
    Calls Tryd.prog 28 #[.agg #[.int .i64 y, .int .i64 m, .int .i64 d], .int .i64 a] w (RetDE w 0 0 0 4) := by
  have g1 : decide (a < -100000001 - n) = false := decide_eq_false h1
  have g2 : decide (100000000 - n < a) = true := decide_eq_true h
  have KB := ((BK.nil w).more3 (.int .i64 y) (.int .i64 m) (.int .i64 d) 23).more3 (.int .i64 0) (.int .i64 0) (.int .i64 0) 23
  rw [World.size_alloc] at KB
  go_enter Tryd.func28, Tryd.ntmps28
  go_wp2_with fail
  generalize (w.alloc (.cells #[.int .i64 y, .int .i64 m, .int .i64 d] 23)).alloc (.cells #[.int .i64 0, .int .i64 0, .int .i64 0] 23) = w0 at *
  have L0 := L.mono KB.hb
  refine (DA.out _ L0).mono ?_
  rintro e w1 ⟨rfl, k⟩
  replace KB := KB.below k
  clear k
  have L1 := L.mono KB.hb
  obtain ⟨_, r0, r1, r2, f0, f1, f2⟩ := (KB.head).three
  go_wp2
  obtain ⟨_, P0, P1, P2, _, _, _⟩ := ((KB.head).self3 (.int .i64 (0)) (.int .i64 (0)) (.int .i64 (0))).three
  have HB := ((KB.hb.setCell (p := ⟨w.heap.size + 1, 0, none⟩) (by show _ ≤ w.heap.size + 1; omega) (.int .i64 (0))).setCell (p := ⟨w.heap.size + 1, 1, none⟩) (by show _ ≤ w.heap.size + 1; omega) (.int .i64 (0))).setCell (p := ⟨w.heap.size + 1, 2, none⟩) (by show _ ≤ w.heap.size + 1; omega) (.int .i64 (0))
  exact bodyPost_ret (v := .tuple #[.agg #[.int .i64 (0), .int .i64 (0), .int .i64 (0)], .int .i64 4]) (by simp [results, Tryd.results28, go_sem, P0, P1, P2]) rfl ⟨rfl, HB⟩
set_option maxRecDepth 100000 in
set_option maxHeartbeats 4000000 in
theorem addP_yes (y m d a n x0 x1 x2 : Int) (n1 : -100000001 ≤ n) (n2 : n ≤ 100000000) (DA : Hid (∀ W, Lens W → Calls Tryd.prog 10 #[.agg #[.int .i64 y, .int .i64 m, .int .i64 d]] W (RetNumB W n true))) (h1 : ¬ a < -100000001 - n) (h2 : ¬ 100000000 - n < a) (OF : Hid (∀ W, Lens W → Calls Tryd.prog 12 #[.int .i64 (n + a)] W (RetDateB W x0 x1 x2 true))) (w : World) (L : Lens w) :
    Calls Tryd.prog 28 #[.agg #[.int .i64 y, .int .i64 m, .int .i64 d], .int .i64 a] w (RetDE w x0 x1 x2 0) := by
  have g1 : decide (a < -100000001 - n) = false := decide_eq_false h1
  have g2 : decide (100000000 - n < a) = false := decide_eq_false h2
  have KB := ((BK.nil w).more3 (.int .i64 y) (.int .i64 m) (.int .i64 d) 23).more3 (.int .i64 0) (.int .i64 0) (.int .i64 0) 23
  rw [World.size_alloc] at KB
  go_enter Tryd.func28, Tryd.ntmps28
  go_wp2_with fail
  generalize (w.alloc (.cells #[.int .i64 y, .int .i64 m, .int .i64 d] 23)).alloc (.cells #[.int .i64 0, .int .i64 0, .int .i64 0] 23) = w0 at *
  have L0 := L.mono KB.hb
  refine (DA.out _ L0).mono ?_
  rintro e w1 ⟨rfl, k⟩
  replace KB := KB.below k
  clear k
  have L1 := L.mono KB.hb
  go_wp2_with fail
  refine (OF.out _ L1).mono ?_
  rintro e w2 ⟨rfl, k⟩
  replace KB := KB.below k
  clear k
  go_upto_region 7 with (fail)
  have hg := KB.head.lt
  replace KB := KB.more3 (.int .i64 x0) (.int .i64 x1) (.int .i64 x2) 23
  generalize w2.alloc (.cells #[.int .i64 x0, .int .i64 x1, .int .i64 x2] 23) = w3 at *
  generalize w2.heap.size = g at *
  obtain ⟨_, a0, a1, a2, _⟩ := KB.head.three
  obtain ⟨_, r0, r1, r2, f0, f1, f2⟩ := (KB.tail.head).three
  go_wp2
  obtain ⟨_, P0, P1, P2, _, _, _⟩ := ((KB.tail.head).self3 (.int .i64 (x0)) (.int .i64 (x1)) (.int .i64 (x2))).three
  have HB := ((KB.hb.setCell (p := ⟨w.heap.size + 1, 0, none⟩) (by show _ ≤ w.heap.size + 1; omega) (.int .i64 (x0))).setCell (p := ⟨w.heap.size + 1, 1, none⟩) (by show _ ≤ w.heap.size + 1; omega) (.int .i64 (x1))).setCell (p := ⟨w.heap.size + 1, 2, none⟩) (by show _ ≤ w.heap.size + 1; omega) (.int .i64 (x2))
  exact bodyPost_ret (v := .tuple #[.agg #[.int .i64 (x0), .int .i64 (x1), .int .i64 (x2)], .int .i64 0]) (by simp [results, Tryd.results28, go_sem, P0, P1, P2]) rfl ⟨rfl, HB⟩
theorem addP_bad {y m d : Int} (a : Int) (h : ¬ okD y m d) (w : World) (L : Lens w) : Calls Tryd.prog 28 #[.agg #[.int .i64 y, .int .i64 m, .int .i64 d], .int .i64 a] w (RetDE w 0 0 0 1) := addP_arg y m d a (Lib.hid fun W l => daysP_none h W l) w L
theorem addP_over {y m d a : Int} (h : okD y m d) (ho : numD y m d + a < -100000001 ∨ 100000000 < numD y m d + a) (w : World) (L : Lens w) : Calls Tryd.prog 28 #[.agg #[.int .i64 y, .int .i64 m, .int .i64 d], .int .i64 a] w (RetDE w 0 0 0 4) := by
  have DA := Lib.hid fun W l => daysP_is h W l
  obtain ⟨_, n1, n2⟩ := h
  by_cases h1 : a < -100000001 - numD y m d
  · exact addP_less y m d a _ n1 n2 DA h1 w L
  · exact addP_more y m d a _ n1 n2 DA h1 (by omega) w L
theorem addP {y m d a x0 x1 x2 : Int} (h : okD y m d) (hx : okD x0 x1 x2) (e : numD x0 x1 x2 = numD y m d + a) (w : World) (L : Lens w) : Calls Tryd.prog 28 #[.agg #[.int .i64 y, .int .i64 m, .int .i64 d], .int .i64 a] w (RetDE w x0 x1 x2 0) := by
  have DA := Lib.hid fun W l => daysP_is h W l
  have OF := Lib.hid fun W l => ofP_yes _ x0 x1 x2 hx e W l
  obtain ⟨_, n1, n2⟩ := h
  obtain ⟨_, b1, b2⟩ := hx
  exact addP_yes y m d a _ x0 x1 x2 n1 n2 DA (by omega) (by omega) OF w L
end Go.Proofs.YtmmgppfopojnlaaDoor
