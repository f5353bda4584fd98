/- The walk of CivilCounts: at any date and any number it returns true; what was there is as it was. -/
import Derived.Test.YtmmgppfopojnlaaDoorEalive
import Derived.Deep.RegionHeld3
namespace Go.Proofs.YtmmgppfopojnlaaDoor
open Go.RowKit

set_option maxRecDepth 100000 in
set_option maxHeartbeats 8000000 in
theorem counts_core (y m d n v x0 x1 x2 : Int) (b f : Bool) (D1 : Hid (∀ W, Lens W → Calls Tryd.prog 10 #[.agg #[.int .i64 y, .int .i64 m, .int .i64 d]] W (fun o w' => o = .returned (.tuple #[.int .i64 v, .bool b]) ∧ Below W.heap.size W w'))) (D2 : Hid (∀ W, Lens W → Calls Tryd.prog 11 #[.agg #[.int .i64 y, .int .i64 m, .int .i64 d]] W (fun o w' => o = .returned (.tuple #[.int .i64 v, .bool b]) ∧ Below W.heap.size W w'))) (O1 : Hid (∀ W, Lens W → Calls Tryd.prog 12 #[.int .i64 n] W (fun o w' => o = .returned (.tuple #[.agg #[.int .i64 x0, .int .i64 x1, .int .i64 x2], .bool f]) ∧ Below W.heap.size W w'))) (O2 : Hid (∀ W, Lens W → Calls Tryd.prog 13 #[.int .i64 n] W (fun o w' => o = .returned (.tuple #[.agg #[.int .i64 x0, .int .i64 x1, .int .i64 x2], .bool f]) ∧ Below W.heap.size W w'))) (RI : Hid (∀ W, Lens W → Calls Tryd.prog 15 #[.agg #[.int .i64 y, .int .i64 m, .int .i64 d]] W (fun o w' => o = .returned (.bool b) ∧ Below W.heap.size W w'))) (AL : Hid (∀ W, Lens W → Calls Tryd.prog 14 #[] W (fun o w' => o = .returned (.bool true) ∧ Below W.heap.size W w'))) (w : World) (L : Lens w) :
    Calls Tryd.prog 3 #[.agg #[.int .i64 y, .int .i64 m, .int .i64 d], .int .i64 n] w (RetV w (.bool true)) := by
  go_enter Tryd.func3, Tryd.ntmps3
  go_wp2_with fail
  have KB := ((BK.nil w).more3 (.int .i64 y) (.int .i64 m) (.int .i64 d) 23)
  generalize (w.alloc (.cells #[.int .i64 y, .int .i64 m, .int .i64 d] 23)) = w0 at *
  refine (D1.out _ (L.mono KB.hb)).mono ?_
  rintro e w1 ⟨rfl, k⟩
  replace KB := KB.below k
  clear k
  obtain ⟨_, a0, a1, a2, _⟩ := (KB.head).three
  go_wp2_with fail
  clear a0 a1 a2
  refine (D2.out _ (L.mono KB.hb)).mono ?_
  rintro e w2 ⟨rfl, k⟩
  replace KB := KB.below k
  clear k
  go_wp2_with fail
  refine (O1.out _ (L.mono KB.hb)).mono ?_
  rintro e w3 ⟨rfl, k⟩
  replace KB := KB.below k
  clear k
  go_upto_region 4 with (fail)
  have hlg := KB.head.lt
  replace KB := KB.more3 (.int .i64 (x0)) (.int .i64 (x1)) (.int .i64 (x2)) 23
  generalize w3.alloc (.cells #[.int .i64 (x0), .int .i64 (x1), .int .i64 (x2)] 23) = w4 at *
  have ig0 : w3.heap.size ≠ w.heap.size := by omega
  have og0 := Ne.symm ig0
  generalize w3.heap.size = g at *
  go_wp2_with fail
  refine (O2.out _ (L.mono KB.hb)).mono ?_
  rintro e w5 ⟨rfl, k⟩
  replace KB := KB.below k
  clear k
  go_upto_region 5 with (fail)
  have hlh := KB.head.lt
  replace KB := KB.more3 (.int .i64 (x0)) (.int .i64 (x1)) (.int .i64 (x2)) 23
  generalize w5.alloc (.cells #[.int .i64 (x0), .int .i64 (x1), .int .i64 (x2)] 23) = w6 at *
  have ih0 : w5.heap.size ≠ g := by omega
  have oh0 := Ne.symm ih0
  have ih1 : w5.heap.size ≠ w.heap.size := by omega
  have oh1 := Ne.symm ih1
  generalize w5.heap.size = h at *
  go_wp2_with fail
  refine (AL.out _ (L.mono KB.hb)).mono ?_
  rintro e w7 ⟨rfl, k⟩
  replace KB := KB.below k
  clear k
  obtain ⟨_, a0, a1, a2, _⟩ := (KB.tail.tail.head).three
  obtain ⟨_, r0, r1, r2, _⟩ := (KB.tail.head).three
  obtain ⟨_, s0, s1, s2, _⟩ := (KB.head).three
  go_wp2_with fail
  clear a0 a1 a2 r0 r1 r2 s0 s1 s2
  refine (RI.out _ (L.mono KB.hb)).mono ?_
  rintro e w8 ⟨rfl, k⟩
  replace KB := KB.below k
  clear k
  have HB := KB.hb
  go_wp2
  go_ret
  exact ⟨rfl, HB⟩
theorem civilCounts_walk (y m d n : Int) (_ : In64 y) (_ : In64 m) (_ : In64 d) (_ : In64 n) (w : World) (L : Lens w) : Calls Tryd.prog 3 #[.agg #[.int .i64 y, .int .i64 m, .int .i64 d], .int .i64 n] w (RetV w (.bool true)) := by
  have h : ∃ (x0 x1 x2 : Int) (f : Bool), (∀ W, Lens W → Calls Tryd.prog 12 #[.int .i64 n] W (RetDateB W x0 x1 x2 f)) ∧ (∀ W, Lens W → Calls Tryd.prog 13 #[.int .i64 n] W (RetDateB W x0 x1 x2 f)) := by
    by_cases h : n < -100000001 ∨ 100000000 < n
    · exact ⟨0, 0, 0, false, fun W l => ofP_no n h W l, fun W _ => ofR_no n h W⟩
    · obtain ⟨y', m', d', hd, hn⟩ := day_of n
      exact ⟨y', m', d', true, fun W l => ofP_yes n y' m' d' ⟨hd, by omega, by omega⟩ hn W l, fun W _ => ofR_yes n y' m' d' ⟨hd, by omega, by omega⟩ hn W⟩
  obtain ⟨x0, x1, x2, f, o1, o2⟩ := h
  exact counts_core y m d n _ x0 x1 x2 _ f (Lib.hid fun W l => daysP y m d W l) (Lib.hid fun W _ => daysR y m d W) (Lib.hid o1) (Lib.hid o2) (Lib.hid fun W l => (rightP y m d W l).mono fun _ _ ⟨h1, h2⟩ => ⟨h1, h2⟩) (Lib.hid alive5) w L
end Go.Proofs.YtmmgppfopojnlaaDoor
