/- The walk of RoundRatios: at any two wide numbers and any mode it returns true; what was there is as it was. -/
import Derived.Test.YtnopgdheffnfdaaRalive
import Derived.Test.YtnopgdheffnfdaaRnums
import Derived.Deep.RegionHeld3
namespace Go.Proofs.Ytnopgdheffnfdaa
open Go.RowKit

set_option maxRecDepth 100000 in
set_option maxHeartbeats 8000000 in
theorem ratios_core (a b m x0 x1 e : Int) (TF : Hid (∀ W, Calls Try.prog 12 #[.agg #[.int .i64 (hiW a), .int .u64 (loW a)], .agg #[.int .i64 (hiW b), .int .u64 (loW b)], .int .i64 m] W (fun o w' => o = .returned (.tuple #[.agg #[.int .i64 x0, .int .u64 x1], .int .i64 e]) ∧ Below W.heap.size W w'))) (RF : Hid (∀ W, Calls Try.prog 13 #[.agg #[.int .i64 (hiW a), .int .u64 (loW a)], .agg #[.int .i64 (hiW b), .int .u64 (loW b)], .int .i64 m] W (fun o w' => o = .returned (.tuple #[.agg #[.int .i64 x0, .int .u64 x1], .int .i64 e]) ∧ Below W.heap.size W w'))) (AL : Hid (∀ W, Calls Try.prog 11 #[] W (fun o w' => o = .returned (.bool true) ∧ Below W.heap.size W w'))) (w : World) :
    Calls Try.prog 4 #[.agg #[.int .i64 (hiW a), .int .u64 (loW a)], .agg #[.int .i64 (hiW b), .int .u64 (loW b)], .int .i64 m] w (RetV w (.bool true)) := by
  go_enter Try.func4, Try.ntmps4
  go_wp2_with fail
  have KB := (((BK.nil w).more2 (.int .i64 (hiW a)) (.int .u64 (loW a)) 24).more2 (.int .i64 (hiW b)) (.int .u64 (loW b)) 24)
  try simp only [World.size_alloc] at KB
  generalize ((w.alloc (.cells #[.int .i64 (hiW a), .int .u64 (loW a)] 24)).alloc (.cells #[.int .i64 (hiW b), .int .u64 (loW b)] 24)) = w0 at *
  refine (TF.out _).mono ?_
  rintro e w1 ⟨rfl, k⟩
  replace KB := KB.below k
  clear k
  go_upto_region 2 with (fail)
  have hlg := KB.head.lt
  replace KB := KB.more2 (.int .i64 x0) (.int .u64 x1) 24
  generalize w1.alloc (.cells #[.int .i64 x0, .int .u64 x1] 24) = w2 at *
  have ig0 : w1.heap.size ≠ w.heap.size + 1 := by omega
  have og0 := Ne.symm ig0
  have ig1 : w1.heap.size ≠ w.heap.size := by omega
  have og1 := Ne.symm ig1
  generalize w1.heap.size = g at *
  obtain ⟨_, ba, bb, bc, bd⟩ := (KB.tail.head).two
  obtain ⟨_, aa, ab, ac, ad⟩ := (KB.tail.tail.head).two
  go_wp2_with fail
  clear ba bb bc bd aa ab ac ad
  refine (RF.out _).mono ?_
  rintro e w3 ⟨rfl, k⟩
  replace KB := KB.below k
  clear k
  go_upto_region 3 with (fail)
  have hlh := KB.head.lt
  replace KB := KB.more2 (.int .i64 x0) (.int .u64 x1) 24
  generalize w3.alloc (.cells #[.int .i64 x0, .int .u64 x1] 24) = w4 at *
  have ih0 : w3.heap.size ≠ g := by omega
  have oh0 := Ne.symm ih0
  have ih1 : w3.heap.size ≠ w.heap.size + 1 := by omega
  have oh1 := Ne.symm ih1
  have ih2 : w3.heap.size ≠ w.heap.size := by omega
  have oh2 := Ne.symm ih2
  generalize w3.heap.size = h at *
  go_wp2_with fail
  refine (AL.out _).mono ?_
  rintro e w5 ⟨rfl, k⟩
  replace KB := KB.below k
  clear k
  obtain ⟨_, ra, rb, rc, rd⟩ := (KB.head).two
  obtain ⟨_, sa, sb, sc, sd⟩ := (KB.tail.head).two
  have HB := KB.hb
  go_wp2
  go_ret
  exact ⟨rfl, HB⟩
/-- both answer the same -/
theorem ratios_same (a b m : Int) (ha : InW a) (hb : InW b) : ∃ x y e : Int, (∀ W, Calls Try.prog 12 #[.agg #[.int .i64 (hiW a), .int .u64 (loW a)], .agg #[.int .i64 (hiW b), .int .u64 (loW b)], .int .i64 m] W (fun o w' => o = .returned (.tuple #[.agg #[.int .i64 x, .int .u64 y], .int .i64 e]) ∧ Below W.heap.size W w')) ∧ (∀ W, Calls Try.prog 13 #[.agg #[.int .i64 (hiW a), .int .u64 (loW a)], .agg #[.int .i64 (hiW b), .int .u64 (loW b)], .int .i64 m] W (fun o w' => o = .returned (.tuple #[.agg #[.int .i64 x, .int .u64 y], .int .i64 e]) ∧ Below W.heap.size W w')) := by
  by_cases h : m < 1 ∨ 9 < m
  · exact ⟨0, 0, 1, fun W => ratio_arg a b m h W, fun W => ratioR_arg a b m ha hb h W⟩
  · by_cases h0 : b = 0
    · subst h0
      exact ⟨0, 0, 3, fun W => ratio_zero a m (by omega) (by omega) W, fun W => ratioR_no a m ha (by omega) (by omega) W⟩
    · exact ⟨_, _, _, fun W => ratio_any a b m ha hb h0 (by omega) (by omega) W, fun W => ratioR_yes a b m ha hb h0 (by omega) (by omega) W⟩
theorem roundRatios_walk (a b m : Int) (ha : InW a) (hb : InW b) (_ : In64 m) (w : World) :
    Calls Try.prog 4 #[.agg #[.int .i64 (hiW a), .int .u64 (loW a)], .agg #[.int .i64 (hiW b), .int .u64 (loW b)], .int .i64 m] w (RetV w (.bool true)) := by
  obtain ⟨x, y, e, h1, h2⟩ := ratios_same a b m ha hb
  exact ratios_core a b m x y e (Lib.hid h1) (Lib.hid h2) (Lib.hid alive_ret) w
end Go.Proofs.Ytnopgdheffnfdaa
