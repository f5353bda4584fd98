/- The walk of CivilNext: at any number it returns true; what was there is as it was. -/
import Derived.Test.YtmmgppfopojnlaaDoorEalive
import Derived.Deep.RegionHeld3
import Derived.BigQuiet
import Derived.Deep.QuietTactic
namespace Go.Proofs.YtmmgppfopojnlaaDoor
open Go.RowKit

set_option maxRecDepth 100000 in
set_option maxHeartbeats 8000000 in
theorem next_no (n x0 x1 x2 : Int) (OF : Hid (∀ W, Lens W → Calls Tryd.prog 12 #[.int .i64 n] W (fun o w' => o = .returned (.tuple #[.agg #[.int .i64 x0, .int .i64 x1, .int .i64 x2], .bool false]) ∧ Below W.heap.size W w'))) (AL : Hid (∀ W, Lens W → Calls Tryd.prog 14 #[] W (fun o w' => o = .returned (.bool true) ∧ Below W.heap.size W w'))) (w : World) (L : Lens w) :
    Calls Tryd.prog 8 #[.int .i64 n] w (RetV w (.bool true)) := by
  have KB := BK.nil w
  go_enter Tryd.func8, Tryd.ntmps8
  go_wp2_with fail
  refine (OF.out _ (L.mono KB.hb)).mono ?_
  rintro e w1 ⟨rfl, k⟩
  replace KB := KB.below k
  clear k
  have hsz := KB.hb.size
  go_upto_region 2 with (fail)
  replace KB := KB.more3 (.int .i64 (x0)) (.int .i64 (x1)) (.int .i64 (x2)) 23
  generalize w1.alloc (.cells #[.int .i64 (x0), .int .i64 (x1), .int .i64 (x2)] 23) = w2 at *
  have hgg := KB.head.lt
  have hg0 : w.heap.size ≤ w1.heap.size := by have := KB.hb.size; first | exact hsz | omega
  generalize w1.heap.size = g at *
  go_wp2_with fail
  refine (AL.out _ (L.mono KB.hb)).mono ?_
  rintro e w3 ⟨rfl, k⟩
  replace KB := KB.below k
  clear k
  have HB := KB.hb
  go_wp2
  go_ret
  exact ⟨rfl, HB⟩
set_option maxRecDepth 100000 in
set_option maxHeartbeats 8000000 in
theorem next_last (n x0 x1 x2 : Int) (he : (n == 100000000) = true) (OF : Hid (∀ W, Lens W → Calls Tryd.prog 12 #[.int .i64 n] W (fun o w' => o = .returned (.tuple #[.agg #[.int .i64 x0, .int .i64 x1, .int .i64 x2], .bool true]) ∧ Below W.heap.size W w'))) (AL : Hid (∀ W, Lens W → Calls Tryd.prog 14 #[] W (fun o w' => o = .returned (.bool true) ∧ Below W.heap.size W w'))) (w : World) (L : Lens w) :
    Calls Tryd.prog 8 #[.int .i64 n] w (RetV w (.bool true)) := by
  have KB := BK.nil w
  go_enter Tryd.func8, Tryd.ntmps8
  go_wp2_with fail
  refine (OF.out _ (L.mono KB.hb)).mono ?_
  rintro e w1 ⟨rfl, k⟩
  replace KB := KB.below k
  clear k
  have hsz := KB.hb.size
  go_upto_region 2 with (fail)
  replace KB := KB.more3 (.int .i64 (x0)) (.int .i64 (x1)) (.int .i64 (x2)) 23
  generalize w1.alloc (.cells #[.int .i64 (x0), .int .i64 (x1), .int .i64 (x2)] 23) = w2 at *
  have hgg := KB.head.lt
  have hg0 : w.heap.size ≤ w1.heap.size := by have := KB.hb.size; first | exact hsz | omega
  generalize w1.heap.size = g at *
  go_wp2_with fail
  refine (AL.out _ (L.mono KB.hb)).mono ?_
  rintro e w3 ⟨rfl, k⟩
  replace KB := KB.below k
  clear k
  have HB := KB.hb
  go_wp2
  go_ret
  exact ⟨rfl, HB⟩
set_option maxRecDepth 100000 in
set_option maxHeartbeats 8000000 in
theorem next_same (n y m d l : Int) (_y1 : -280000 ≤ y) (_y2 : y ≤ 280000) (_m1 : 1 ≤ m) (_m2 : m ≤ 12) (_d1 : 1 ≤ d) (_d2 : d ≤ 31) (he : (n == 100000000) = false) (h1 : ¬ l < d + 1) (_h2 : ¬ 12 < m) (OF : Hid (∀ W, Lens W → Calls Tryd.prog 12 #[.int .i64 n] W (fun o w' => o = .returned (.tuple #[.agg #[.int .i64 y, .int .i64 m, .int .i64 d], .bool true]) ∧ Below W.heap.size W w'))) (ML : Hid (∀ W, Lens W → Calls Tryd.prog 18 #[.int .i64 y, .int .i64 m] W (fun o w' => o = .returned (.int .i64 l) ∧ W = w'))) (A1 : Hid (∀ W, Lens W → Calls Tryd.prog 28 #[.agg #[.int .i64 y, .int .i64 m, .int .i64 d], .int .i64 1] W (fun o w' => o = .returned (.tuple #[.agg #[.int .i64 (y), .int .i64 (m), .int .i64 (d + 1)], .int .i64 0]) ∧ Below W.heap.size W w'))) (DA : Hid (∀ W, Lens W → Calls Tryd.prog 10 #[.agg #[.int .i64 y, .int .i64 m, .int .i64 d]] W (fun o w' => o = .returned (.tuple #[.int .i64 n, .bool true]) ∧ Below W.heap.size W w'))) (A2 : Hid (∀ W, Lens W → Calls Tryd.prog 28 #[.agg #[.int .i64 (y), .int .i64 (m), .int .i64 (d + 1)], .int .i64 (-1)] W (fun o w' => o = .returned (.tuple #[.agg #[.int .i64 y, .int .i64 m, .int .i64 d], .int .i64 0]) ∧ Below W.heap.size W w'))) (CM : Hid (∀ W, Lens W → Calls Tryd.prog 30 #[.agg #[.int .i64 y, .int .i64 m, .int .i64 d], .agg #[.int .i64 (y), .int .i64 (m), .int .i64 (d + 1)]] W (fun o w' => o = .returned (.int .i64 (-1)) ∧ Below W.heap.size W w'))) (AL : Hid (∀ W, Lens W → Calls Tryd.prog 14 #[] W (fun o w' => o = .returned (.bool true) ∧ Below W.heap.size W w'))) (w : World) (L : Lens w) :
    Calls Tryd.prog 8 #[.int .i64 n] w (RetV w (.bool true)) := by
  have s1 : IntKind.i64.wrap (d + 1) = d + 1 := IntWalk.i64_in _ (by omega)
  have g1 : decide (l < d + 1) = false := decide_eq_false h1
  have KB := BK.nil w
  go_enter Tryd.func8, Tryd.ntmps8
  go_wp2_with fail
  refine (OF.out _ (L.mono KB.hb)).mono ?_
  rintro e w1 ⟨rfl, k⟩
  replace KB := KB.below k
  clear k
  have hsz := KB.hb.size
  go_upto_region 2 with (fail)
  replace KB := KB.more3 (.int .i64 (y)) (.int .i64 (m)) (.int .i64 (d)) 23
  generalize w1.alloc (.cells #[.int .i64 (y), .int .i64 (m), .int .i64 (d)] 23) = w2 at *
  have hgg := KB.head.lt
  have hg0 : w.heap.size ≤ w1.heap.size := by have := KB.hb.size; first | exact hsz | omega
  generalize w1.heap.size = g at *
  obtain ⟨_, a0, a1, a2, _⟩ := (KB.head).three
  go_upto_region 5 with (fail)
  clear a0 a1 a2
  have hw : w.heap.size ≤ w2.heap.size := by omega
  have hlh := KB.head.lt
  replace KB := KB.more3 (.int .i64 (y)) (.int .i64 (m)) (.int .i64 (d + 1)) 23
  generalize w2.alloc (.cells #[.int .i64 (y), .int .i64 (m), .int .i64 (d + 1)] 23) = w3 at *
  have ihg : w2.heap.size ≠ g := by omega
  have ogh := Ne.symm ihg
  generalize w2.heap.size = h at *
  obtain ⟨_, b0, b1, b2, _⟩ := (KB.head).three
  obtain ⟨_, a0, a1, a2, _⟩ := (KB.tail.head).three
  have L3 := L.mono KB.hb
  go_quiet ((first
    | (go_at_call 18; exact Calls.quiet_of_same ((ML.out _ (L3.drewN _)).mono fun _ _ ⟨h1, h2⟩ => ⟨h1, h2.symm⟩))))
  replace KB := KB.below (below_drewN (Below.refl _ _) nq)
  clear L3
  generalize w3.drewN nq = w4 at *
  clear a0 a1 a2 b0 b1 b2
  obtain ⟨_, b0, b1, b2, _⟩ := (KB.head).three
  go_upto_region 9 with (fail)
  clear b0 b1 b2
  obtain ⟨_, a0, a1, a2, _⟩ := (KB.tail.head).three
  go_wp2_with fail
  clear a0 a1 a2
  refine (A1.out _ (L.mono KB.hb)).mono ?_
  rintro e w7 ⟨rfl, k⟩
  replace KB := KB.below k
  clear k
  go_upto_region 10 with (fail)
  have hlp := KB.head.lt
  replace KB := KB.more3 (.int .i64 (y)) (.int .i64 (m)) (.int .i64 (d + 1)) 23
  generalize w7.alloc (.cells #[.int .i64 (y), .int .i64 (m), .int .i64 (d + 1)] 23) = w8 at *
  have ip0 : w7.heap.size ≠ h := by omega
  have op0 := Ne.symm ip0
  have ip1 : w7.heap.size ≠ g := by omega
  have op1 := Ne.symm ip1
  generalize w7.heap.size = p at *
  obtain ⟨_, a0, a1, a2, _⟩ := (KB.tail.tail.head).three
  go_wp2_with fail
  clear a0 a1 a2
  refine (DA.out _ (L.mono KB.hb)).mono ?_
  rintro e w9 ⟨rfl, k⟩
  replace KB := KB.below k
  clear k
  obtain ⟨_, b0, b1, b2, _⟩ := (KB.tail.head).three
  go_wp2_with fail
  clear b0 b1 b2
  refine (A2.out _ (L.mono KB.hb)).mono ?_
  rintro e w10 ⟨rfl, k⟩
  replace KB := KB.below k
  clear k
  go_upto_region 12 with (fail)
  have hlq := KB.head.lt
  replace KB := KB.more3 (.int .i64 (y)) (.int .i64 (m)) (.int .i64 (d)) 23
  generalize w10.alloc (.cells #[.int .i64 (y), .int .i64 (m), .int .i64 (d)] 23) = w11 at *
  have iq0 : w10.heap.size ≠ p := by omega
  have oq0 := Ne.symm iq0
  have iq1 : w10.heap.size ≠ h := by omega
  have oq1 := Ne.symm iq1
  have iq2 : w10.heap.size ≠ g := by omega
  have oq2 := Ne.symm iq2
  generalize w10.heap.size = q at *
  go_wp2_with fail
  refine (AL.out _ (L.mono KB.hb)).mono ?_
  rintro e w12 ⟨rfl, k⟩
  replace KB := KB.below k
  clear k
  obtain ⟨_, q0, q1, q2, _⟩ := (KB.head).three
  obtain ⟨_, p0, p1, p2, _⟩ := (KB.tail.head).three
  obtain ⟨_, b0, b1, b2, _⟩ := (KB.tail.tail.head).three
  obtain ⟨_, a0, a1, a2, _⟩ := (KB.tail.tail.tail.head).three
  go_wp2_with fail
  clear a0 a1 a2 b0 b1 b2 p0 p1 p2 q0 q1 q2
  refine (CM.out _ (L.mono KB.hb)).mono ?_
  rintro e w13 ⟨rfl, k⟩
  replace KB := KB.below k
  clear k
  have HB := KB.hb
  go_wp2
  go_ret
  exact ⟨rfl, HB⟩
set_option maxRecDepth 100000 in
set_option maxHeartbeats 8000000 in
theorem next_month (n y m d l : Int) (_y1 : -280000 ≤ y) (_y2 : y ≤ 280000) (_m1 : 1 ≤ m) (_m2 : m ≤ 12) (_d1 : 1 ≤ d) (_d2 : d ≤ 31) (he : (n == 100000000) = false) (h1 : l < d + 1) (h2 : ¬ 12 < m + 1) (OF : Hid (∀ W, Lens W → Calls Tryd.prog 12 #[.int .i64 n] W (fun o w' => o = .returned (.tuple #[.agg #[.int .i64 y, .int .i64 m, .int .i64 d], .bool true]) ∧ Below W.heap.size W w'))) (ML : Hid (∀ W, Lens W → Calls Tryd.prog 18 #[.int .i64 y, .int .i64 m] W (fun o w' => o = .returned (.int .i64 l) ∧ W = w'))) (A1 : Hid (∀ W, Lens W → Calls Tryd.prog 28 #[.agg #[.int .i64 y, .int .i64 m, .int .i64 d], .int .i64 1] W (fun o w' => o = .returned (.tuple #[.agg #[.int .i64 (y), .int .i64 (m + 1), .int .i64 (1)], .int .i64 0]) ∧ Below W.heap.size W w'))) (DA : Hid (∀ W, Lens W → Calls Tryd.prog 10 #[.agg #[.int .i64 y, .int .i64 m, .int .i64 d]] W (fun o w' => o = .returned (.tuple #[.int .i64 n, .bool true]) ∧ Below W.heap.size W w'))) (A2 : Hid (∀ W, Lens W → Calls Tryd.prog 28 #[.agg #[.int .i64 (y), .int .i64 (m + 1), .int .i64 (1)], .int .i64 (-1)] W (fun o w' => o = .returned (.tuple #[.agg #[.int .i64 y, .int .i64 m, .int .i64 d], .int .i64 0]) ∧ Below W.heap.size W w'))) (CM : Hid (∀ W, Lens W → Calls Tryd.prog 30 #[.agg #[.int .i64 y, .int .i64 m, .int .i64 d], .agg #[.int .i64 (y), .int .i64 (m + 1), .int .i64 (1)]] W (fun o w' => o = .returned (.int .i64 (-1)) ∧ Below W.heap.size W w'))) (AL : Hid (∀ W, Lens W → Calls Tryd.prog 14 #[] W (fun o w' => o = .returned (.bool true) ∧ Below W.heap.size W w'))) (w : World) (L : Lens w) :
    Calls Tryd.prog 8 #[.int .i64 n] w (RetV w (.bool true)) := by
  have s1 : IntKind.i64.wrap (d + 1) = d + 1 := IntWalk.i64_in _ (by omega)
  have g1 : decide (l < d + 1) = true := decide_eq_true h1
  have KB := BK.nil w
  go_enter Tryd.func8, Tryd.ntmps8
  go_wp2_with fail
  refine (OF.out _ (L.mono KB.hb)).mono ?_
  rintro e w1 ⟨rfl, k⟩
  replace KB := KB.below k
  clear k
  have hsz := KB.hb.size
  go_upto_region 2 with (fail)
  replace KB := KB.more3 (.int .i64 (y)) (.int .i64 (m)) (.int .i64 (d)) 23
  generalize w1.alloc (.cells #[.int .i64 (y), .int .i64 (m), .int .i64 (d)] 23) = w2 at *
  have hgg := KB.head.lt
  have hg0 : w.heap.size ≤ w1.heap.size := by have := KB.hb.size; first | exact hsz | omega
  generalize w1.heap.size = g at *
  obtain ⟨_, a0, a1, a2, _⟩ := (KB.head).three
  go_upto_region 5 with (fail)
  clear a0 a1 a2
  have hw : w.heap.size ≤ w2.heap.size := by omega
  have hlh := KB.head.lt
  replace KB := KB.more3 (.int .i64 (y)) (.int .i64 (m)) (.int .i64 (d + 1)) 23
  generalize w2.alloc (.cells #[.int .i64 (y), .int .i64 (m), .int .i64 (d + 1)] 23) = w3 at *
  have ihg : w2.heap.size ≠ g := by omega
  have ogh := Ne.symm ihg
  generalize w2.heap.size = h at *
  obtain ⟨_, b0, b1, b2, _⟩ := (KB.head).three
  obtain ⟨_, a0, a1, a2, _⟩ := (KB.tail.head).three
  have L3 := L.mono KB.hb
  go_quiet ((first
    | (go_at_call 18; exact Calls.quiet_of_same ((ML.out _ (L3.drewN _)).mono fun _ _ ⟨h1, h2⟩ => ⟨h1, h2.symm⟩))))
  replace KB := KB.below (below_drewN (Below.refl _ _) nq)
  clear L3
  generalize w3.drewN nq = w4 at *
  clear a0 a1 a2 b0 b1 b2
  obtain ⟨_, b0, b1, b2, f0, f1, f2⟩ := (KB.head).three
  obtain ⟨_, a0, a1, a2, _⟩ := (KB.tail.head).three
  go_upto_region 7 with (fail)
  clear a0 a1 a2 b0 b1 b2
  clear f0 f1 f2
  have KP := KB.put3 (.int .i64 (y)) (.int .i64 (m + 1)) (.int .i64 (1)) hw (by simp [ihg])
  clear KB
  generalize ((w4.setCell ⟨h, 0, none⟩ (.int .i64 (y))).setCell ⟨h, 1, none⟩ (.int .i64 (m + 1))).setCell ⟨h, 2, none⟩ (.int .i64 (1)) = w5 at *
  have KB := KP
  clear KP
  obtain ⟨_, b0, b1, b2, _⟩ := (KB.head).three
  go_upto_region 9 with (fail)
  clear b0 b1 b2
  obtain ⟨_, a0, a1, a2, _⟩ := (KB.tail.head).three
  go_wp2_with fail
  clear a0 a1 a2
  refine (A1.out _ (L.mono KB.hb)).mono ?_
  rintro e w7 ⟨rfl, k⟩
  replace KB := KB.below k
  clear k
  go_upto_region 10 with (fail)
  have hlp := KB.head.lt
  replace KB := KB.more3 (.int .i64 (y)) (.int .i64 (m + 1)) (.int .i64 (1)) 23
  generalize w7.alloc (.cells #[.int .i64 (y), .int .i64 (m + 1), .int .i64 (1)] 23) = w8 at *
  have ip0 : w7.heap.size ≠ h := by omega
  have op0 := Ne.symm ip0
  have ip1 : w7.heap.size ≠ g := by omega
  have op1 := Ne.symm ip1
  generalize w7.heap.size = p at *
  obtain ⟨_, a0, a1, a2, _⟩ := (KB.tail.tail.head).three
  go_wp2_with fail
  clear a0 a1 a2
  refine (DA.out _ (L.mono KB.hb)).mono ?_
  rintro e w9 ⟨rfl, k⟩
  replace KB := KB.below k
  clear k
  obtain ⟨_, b0, b1, b2, _⟩ := (KB.tail.head).three
  go_wp2_with fail
  clear b0 b1 b2
  refine (A2.out _ (L.mono KB.hb)).mono ?_
  rintro e w10 ⟨rfl, k⟩
  replace KB := KB.below k
  clear k
  go_upto_region 12 with (fail)
  have hlq := KB.head.lt
  replace KB := KB.more3 (.int .i64 (y)) (.int .i64 (m)) (.int .i64 (d)) 23
  generalize w10.alloc (.cells #[.int .i64 (y), .int .i64 (m), .int .i64 (d)] 23) = w11 at *
  have iq0 : w10.heap.size ≠ p := by omega
  have oq0 := Ne.symm iq0
  have iq1 : w10.heap.size ≠ h := by omega
  have oq1 := Ne.symm iq1
  have iq2 : w10.heap.size ≠ g := by omega
  have oq2 := Ne.symm iq2
  generalize w10.heap.size = q at *
  go_wp2_with fail
  refine (AL.out _ (L.mono KB.hb)).mono ?_
  rintro e w12 ⟨rfl, k⟩
  replace KB := KB.below k
  clear k
  obtain ⟨_, q0, q1, q2, _⟩ := (KB.head).three
  obtain ⟨_, p0, p1, p2, _⟩ := (KB.tail.head).three
  obtain ⟨_, b0, b1, b2, _⟩ := (KB.tail.tail.head).three
  obtain ⟨_, a0, a1, a2, _⟩ := (KB.tail.tail.tail.head).three
  go_wp2_with fail
  clear a0 a1 a2 b0 b1 b2 p0 p1 p2 q0 q1 q2
  refine (CM.out _ (L.mono KB.hb)).mono ?_
  rintro e w13 ⟨rfl, k⟩
  replace KB := KB.below k
  clear k
  have HB := KB.hb
  go_wp2
  go_ret
  exact ⟨rfl, HB⟩
set_option maxRecDepth 100000 in
set_option maxHeartbeats 8000000 in
theorem next_year (n y m d l : Int) (_y1 : -280000 ≤ y) (_y2 : y ≤ 280000) (_m1 : 1 ≤ m) (_m2 : m ≤ 12) (_d1 : 1 ≤ d) (_d2 : d ≤ 31) (he : (n == 100000000) = false) (h1 : l < d + 1) (h2 : 12 < m + 1) (OF : Hid (∀ W, Lens W → Calls Tryd.prog 12 #[.int .i64 n] W (fun o w' => o = .returned (.tuple #[.agg #[.int .i64 y, .int .i64 m, .int .i64 d], .bool true]) ∧ Below W.heap.size W w'))) (ML : Hid (∀ W, Lens W → Calls Tryd.prog 18 #[.int .i64 y, .int .i64 m] W (fun o w' => o = .returned (.int .i64 l) ∧ W = w'))) (A1 : Hid (∀ W, Lens W → Calls Tryd.prog 28 #[.agg #[.int .i64 y, .int .i64 m, .int .i64 d], .int .i64 1] W (fun o w' => o = .returned (.tuple #[.agg #[.int .i64 (y + 1), .int .i64 (1), .int .i64 (1)], .int .i64 0]) ∧ Below W.heap.size W w'))) (DA : Hid (∀ W, Lens W → Calls Tryd.prog 10 #[.agg #[.int .i64 y, .int .i64 m, .int .i64 d]] W (fun o w' => o = .returned (.tuple #[.int .i64 n, .bool true]) ∧ Below W.heap.size W w'))) (A2 : Hid (∀ W, Lens W → Calls Tryd.prog 28 #[.agg #[.int .i64 (y + 1), .int .i64 (1), .int .i64 (1)], .int .i64 (-1)] W (fun o w' => o = .returned (.tuple #[.agg #[.int .i64 y, .int .i64 m, .int .i64 d], .int .i64 0]) ∧ Below W.heap.size W w'))) (CM : Hid (∀ W, Lens W → Calls Tryd.prog 30 #[.agg #[.int .i64 y, .int .i64 m, .int .i64 d], .agg #[.int .i64 (y + 1), .int .i64 (1), .int .i64 (1)]] W (fun o w' => o = .returned (.int .i64 (-1)) ∧ Below W.heap.size W w'))) (AL : Hid (∀ W, Lens W → Calls Tryd.prog 14 #[] W (fun o w' => o = .returned (.bool true) ∧ Below W.heap.size W w'))) (w : World) (L : Lens w) :
    Calls Tryd.prog 8 #[.int .i64 n] w (RetV w (.bool true)) := by
  have s1 : IntKind.i64.wrap (d + 1) = d + 1 := IntWalk.i64_in _ (by omega)
  have g1 : decide (l < d + 1) = true := decide_eq_true h1
  have KB := BK.nil w
  go_enter Tryd.func8, Tryd.ntmps8
  go_wp2_with fail
  refine (OF.out _ (L.mono KB.hb)).mono ?_
  rintro e w1 ⟨rfl, k⟩
  replace KB := KB.below k
  clear k
  have hsz := KB.hb.size
  go_upto_region 2 with (fail)
  replace KB := KB.more3 (.int .i64 (y)) (.int .i64 (m)) (.int .i64 (d)) 23
  generalize w1.alloc (.cells #[.int .i64 (y), .int .i64 (m), .int .i64 (d)] 23) = w2 at *
  have hgg := KB.head.lt
  have hg0 : w.heap.size ≤ w1.heap.size := by have := KB.hb.size; first | exact hsz | omega
  generalize w1.heap.size = g at *
  obtain ⟨_, a0, a1, a2, _⟩ := (KB.head).three
  go_upto_region 5 with (fail)
  clear a0 a1 a2
  have hw : w.heap.size ≤ w2.heap.size := by omega
  have hlh := KB.head.lt
  replace KB := KB.more3 (.int .i64 (y)) (.int .i64 (m)) (.int .i64 (d + 1)) 23
  generalize w2.alloc (.cells #[.int .i64 (y), .int .i64 (m), .int .i64 (d + 1)] 23) = w3 at *
  have ihg : w2.heap.size ≠ g := by omega
  have ogh := Ne.symm ihg
  generalize w2.heap.size = h at *
  obtain ⟨_, b0, b1, b2, _⟩ := (KB.head).three
  obtain ⟨_, a0, a1, a2, _⟩ := (KB.tail.head).three
  have L3 := L.mono KB.hb
  go_quiet ((first
    | (go_at_call 18; exact Calls.quiet_of_same ((ML.out _ (L3.drewN _)).mono fun _ _ ⟨h1, h2⟩ => ⟨h1, h2.symm⟩))))
  replace KB := KB.below (below_drewN (Below.refl _ _) nq)
  clear L3
  generalize w3.drewN nq = w4 at *
  clear a0 a1 a2 b0 b1 b2
  obtain ⟨_, b0, b1, b2, f0, f1, f2⟩ := (KB.head).three
  obtain ⟨_, a0, a1, a2, _⟩ := (KB.tail.head).three
  go_upto_region 7 with (fail)
  clear a0 a1 a2 b0 b1 b2
  clear f0 f1 f2
  have KP := KB.put3 (.int .i64 (y)) (.int .i64 (m + 1)) (.int .i64 (1)) hw (by simp [ihg])
  clear KB
  generalize ((w4.setCell ⟨h, 0, none⟩ (.int .i64 (y))).setCell ⟨h, 1, none⟩ (.int .i64 (m + 1))).setCell ⟨h, 2, none⟩ (.int .i64 (1)) = w5 at *
  have KB := KP
  clear KP
  obtain ⟨_, b0, b1, b2, f0, f1, f2⟩ := (KB.head).three
  obtain ⟨_, a0, a1, a2, _⟩ := (KB.tail.head).three
  go_upto_region 9 with (fail)
  clear a0 a1 a2 b0 b1 b2
  clear f0 f1 f2
  have KP := KB.put3 (.int .i64 (y + 1)) (.int .i64 (1)) (.int .i64 (1)) hw (by simp [ihg])
  clear KB
  generalize ((w5.setCell ⟨h, 0, none⟩ (.int .i64 (y + 1))).setCell ⟨h, 1, none⟩ (.int .i64 (1))).setCell ⟨h, 2, none⟩ (.int .i64 (1)) = w6 at *
  have KB := KP
  clear KP
  obtain ⟨_, a0, a1, a2, _⟩ := (KB.tail.head).three
  go_wp2_with fail
  clear a0 a1 a2
  refine (A1.out _ (L.mono KB.hb)).mono ?_
  rintro e w7 ⟨rfl, k⟩
  replace KB := KB.below k
  clear k
  go_upto_region 10 with (fail)
  have hlp := KB.head.lt
  replace KB := KB.more3 (.int .i64 (y + 1)) (.int .i64 (1)) (.int .i64 (1)) 23
  generalize w7.alloc (.cells #[.int .i64 (y + 1), .int .i64 (1), .int .i64 (1)] 23) = w8 at *
  have ip0 : w7.heap.size ≠ h := by omega
  have op0 := Ne.symm ip0
  have ip1 : w7.heap.size ≠ g := by omega
  have op1 := Ne.symm ip1
  generalize w7.heap.size = p at *
  obtain ⟨_, a0, a1, a2, _⟩ := (KB.tail.tail.head).three
  go_wp2_with fail
  clear a0 a1 a2
  refine (DA.out _ (L.mono KB.hb)).mono ?_
  rintro e w9 ⟨rfl, k⟩
  replace KB := KB.below k
  clear k
  obtain ⟨_, b0, b1, b2, _⟩ := (KB.tail.head).three
  go_wp2_with fail
  clear b0 b1 b2
  refine (A2.out _ (L.mono KB.hb)).mono ?_
  rintro e w10 ⟨rfl, k⟩
  replace KB := KB.below k
  clear k
  go_upto_region 12 with (fail)
  have hlq := KB.head.lt
  replace KB := KB.more3 (.int .i64 (y)) (.int .i64 (m)) (.int .i64 (d)) 23
  generalize w10.alloc (.cells #[.int .i64 (y), .int .i64 (m), .int .i64 (d)] 23) = w11 at *
  have iq0 : w10.heap.size ≠ p := by omega
  have oq0 := Ne.symm iq0
  have iq1 : w10.heap.size ≠ h := by omega
  have oq1 := Ne.symm iq1
  have iq2 : w10.heap.size ≠ g := by omega
  have oq2 := Ne.symm iq2
  generalize w10.heap.size = q at *
  go_wp2_with fail
  refine (AL.out _ (L.mono KB.hb)).mono ?_
  rintro e w12 ⟨rfl, k⟩
  replace KB := KB.below k
  clear k
  obtain ⟨_, q0, q1, q2, _⟩ := (KB.head).three
  obtain ⟨_, p0, p1, p2, _⟩ := (KB.tail.head).three
  obtain ⟨_, b0, b1, b2, _⟩ := (KB.tail.tail.head).three
  obtain ⟨_, a0, a1, a2, _⟩ := (KB.tail.tail.tail.head).three
  go_wp2_with fail
  clear a0 a1 a2 b0 b1 b2 p0 p1 p2 q0 q1 q2
  refine (CM.out _ (L.mono KB.hb)).mono ?_
  rintro e w13 ⟨rfl, k⟩
  replace KB := KB.below k
  clear k
  have HB := KB.hb
  go_wp2
  go_ret
  exact ⟨rfl, HB⟩
/-- the day behind a date -/
theorem next_num {y m d : Int} (h : dayOk y m d) :
    (d + 1 ≤ lenM y m → dayOk y m (d + 1) ∧ numD y m (d + 1) = numD y m d + 1) ∧
    (lenM y m < d + 1 → m + 1 ≤ 12 → dayOk y (m + 1) 1 ∧ numD y (m + 1) 1 = numD y m d + 1) ∧
    (lenM y m < d + 1 → 12 < m + 1 → dayOk (y + 1) 1 1 ∧ numD (y + 1) 1 1 = numD y m d + 1) := by
  obtain ⟨h1, h2, h3, h4⟩ := h
  refine ⟨fun k => ⟨⟨h1, h2, by omega, k⟩, by unfold numD; omega⟩, fun k j => ?_, fun k j => ?_⟩
  · have := lenM_range (y := y) (m := m + 1) (by omega) j
    refine ⟨⟨by omega, j, by omega, by omega⟩, ?_⟩
    unfold numD
    rw [cum_succ h1 h2]
    omega
  · have e : m = 12 := by omega
    subst e
    have := lenM_range (y := y + 1) (m := 1) (by omega) (by omega)
    refine ⟨⟨by omega, by omega, by omega, by omega⟩, ?_⟩
    have e1 := cum_succ (y := y) h1 h2
    rw [show (12 : Int) + 1 = 13 by decide, cum_end] at e1
    unfold numD
    rw [jan_succ, cum_one]
    omega
theorem cmpD_less {y m d y' m' d' : Int} (h : y < y' ∨ y = y' ∧ (m < m' ∨ m = m' ∧ d < d')) : cmpD y m d y' m' d' = -1 := by
  unfold cmpD
  rcases h with h | ⟨rfl, h | ⟨rfl, h⟩⟩
  · rw [if_pos h]
  · rw [if_neg (by omega), if_neg (by omega), if_pos h]
  · rw [if_neg (by omega), if_neg (by omega), if_neg (by omega), if_neg (by omega), if_pos h]
theorem civilNext_walk (n : Int) (_ : In64 n) (w : World) (L : Lens w) : Calls Tryd.prog 8 #[.int .i64 n] w (RetV w (.bool true)) := by
  by_cases hn : n < -100000001 ∨ 100000000 < n
  · exact next_no n 0 0 0 (Lib.hid fun W l => ofP_no n hn W l) (Lib.hid alive5) w L
  obtain ⟨y, m, d, hd, e⟩ := day_of n
  have hk : okD y m d := ⟨hd, by omega, by omega⟩
  have OF := Lib.hid fun W l => ofP_yes n y m d hk e W l
  by_cases hl : n = 100000000
  · exact next_last n y m d (by simp [hl]) OF (Lib.hid alive5) w L
  have he : (n == 100000000) = false := by rw [beq_eq_false_iff_ne]; exact hl
  have oy := ok_year hk
  have DA := Lib.hid fun W l => (by have c := daysP_is hk W l; rw [e] at c; exact c : Calls Tryd.prog 10 #[.agg #[.int .i64 y, .int .i64 m, .int .i64 d]] W (RetNumB W n true))
  have ML := Lib.hid fun W l => mlenP y m W l
  obtain ⟨n1, n2, n3⟩ := next_num hd
  have lr := lenM_le y m
  have two : ∀ {a b c : Int}, dayOk a b c → numD a b c = numD y m d + 1 → okD a b c ∧ (∀ W, Lens W → Calls Tryd.prog 28 #[.agg #[.int .i64 y, .int .i64 m, .int .i64 d], .int .i64 1] W (RetDE W a b c 0)) ∧ (∀ W, Lens W → Calls Tryd.prog 28 #[.agg #[.int .i64 a, .int .i64 b, .int .i64 c], .int .i64 (-1)] W (RetDE W y m d 0)) := by
    intro a b c h1 h2
    have ok : okD a b c := ⟨h1, by omega, by omega⟩
    exact ⟨ok, fun W l => addP hk ok h2 W l, fun W l => addP ok hk (by omega) W l⟩
  have cm : ∀ {a b c : Int}, (y < a ∨ y = a ∧ (m < b ∨ m = b ∧ d < c)) → ∀ W, Lens W → Calls Tryd.prog 30 #[.agg #[.int .i64 y, .int .i64 m, .int .i64 d], .agg #[.int .i64 a, .int .i64 b, .int .i64 c]] W (fun o w' => o = .returned (.int .i64 (-1)) ∧ Below W.heap.size W w') := by
    intro a b c h W _
    have k := cmpP y m d a b c W
    rw [cmpD_less h] at k
    exact k.mono fun _ _ ⟨h1, h2⟩ => ⟨h1, h2⟩
  obtain ⟨m1, m2, d1, d2⟩ := hd
  by_cases h1 : lenM y m < d + 1
  · by_cases h2 : 12 < m + 1
    · obtain ⟨a, b⟩ := n3 h1 h2
      obtain ⟨_, t1, t2⟩ := two a b
      exact next_year n y m d _ (by omega) (by omega) m1 m2 d1 (by omega) he h1 h2 OF ML (Lib.hid t1) DA (Lib.hid t2) (Lib.hid (cm (.inl (by omega)))) (Lib.hid alive5) w L
    · obtain ⟨a, b⟩ := n2 h1 (by omega)
      obtain ⟨_, t1, t2⟩ := two a b
      exact next_month n y m d _ (by omega) (by omega) m1 m2 d1 (by omega) he h1 h2 OF ML (Lib.hid t1) DA (Lib.hid t2) (Lib.hid (cm (.inr ⟨rfl, .inl (by omega)⟩))) (Lib.hid alive5) w L
  · obtain ⟨a, b⟩ := n1 (by omega)
    obtain ⟨_, t1, t2⟩ := two a b
    exact next_same n y m d _ (by omega) (by omega) m1 m2 d1 (by omega) he h1 (by omega) OF ML (Lib.hid t1) DA (Lib.hid t2) (Lib.hid (cm (.inr ⟨rfl, .inr ⟨rfl, by omega⟩⟩))) (Lib.hid alive5) w L
end Go.Proofs.YtmmgppfopojnlaaDoor
