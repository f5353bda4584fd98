/- The walk of RoundRises: at any three wide numbers and any mode it returns true; what was there is as it was. -/
import Derived.Test.YtnopgdheffnfdaaRalive
import Derived.Deep.RegionHeld3
namespace Go.Proofs.Ytnopgdheffnfdaa
open Go.RowKit

set_option maxRecDepth 100000 in
set_option maxHeartbeats 8000000 in
theorem rises_e (v a b m x0 x1 y0 y1 e f : Int) (T1 : Hid (∀ W, Calls Try.prog 9 #[.agg #[.int .i64 (hiW v), .int .u64 (loW v)], .agg #[.int .i64 (hiW b), .int .u64 (loW b)], .int .i64 m] W (fun o w' => o = .returned (.tuple #[.agg #[.int .i64 x0, .int .u64 x1], .int .i64 e]) ∧ Below W.heap.size W w'))) (T2 : Hid (∀ W, Calls Try.prog 9 #[.agg #[.int .i64 (hiW a), .int .u64 (loW a)], .agg #[.int .i64 (hiW b), .int .u64 (loW b)], .int .i64 m] W (fun o w' => o = .returned (.tuple #[.agg #[.int .i64 y0, .int .u64 y1], .int .i64 f]) ∧ Below W.heap.size W w'))) (AL : Hid (∀ W, Calls Try.prog 11 #[] W (fun o w' => o = .returned (.bool true) ∧ Below W.heap.size W w'))) (he : ¬ e = 0) (w : World) :
    Calls Try.prog 8 #[.agg #[.int .i64 (hiW v), .int .u64 (loW v)], .agg #[.int .i64 (hiW a), .int .u64 (loW a)], .agg #[.int .i64 (hiW b), .int .u64 (loW b)], .int .i64 m] w (RetV w (.bool true)) := by
  have he' : (e == 0) = false := by rw [beq_eq_false_iff_ne]; exact he
  go_enter Try.func8, Try.ntmps8
  go_wp2_with fail
  have KB := ((((BK.nil w).more2 (.int .i64 (hiW v)) (.int .u64 (loW v)) 24).more2 (.int .i64 (hiW a)) (.int .u64 (loW a)) 24).more2 (.int .i64 (hiW b)) (.int .u64 (loW b)) 24)
  try simp only [World.size_alloc] at KB
  generalize (((w.alloc (.cells #[.int .i64 (hiW v), .int .u64 (loW v)] 24)).alloc (.cells #[.int .i64 (hiW a), .int .u64 (loW a)] 24)).alloc (.cells #[.int .i64 (hiW b), .int .u64 (loW b)] 24)) = w0 at *
  refine (T1.out _).mono ?_
  rintro e w1 ⟨rfl, k⟩
  replace KB := KB.below k
  clear k
  go_upto_region 2 with (fail)
  have hlg := KB.head.lt
  replace KB := KB.more2 (.int .i64 x0) (.int .u64 x1) 24
  generalize w1.alloc (.cells #[.int .i64 x0, .int .u64 x1] 24) = w2 at *
  have ig0 : w1.heap.size ≠ w.heap.size + 1 + 1 := by omega
  have og0 := Ne.symm ig0
  have ig1 : w1.heap.size ≠ w.heap.size + 1 := by omega
  have og1 := Ne.symm ig1
  have ig2 : w1.heap.size ≠ w.heap.size := by omega
  have og2 := Ne.symm ig2
  generalize w1.heap.size = g at *
  obtain ⟨_, ba, bb, bc, bd⟩ := (KB.tail.head).two
  obtain ⟨_, aa, ab, ac, ad⟩ := (KB.tail.tail.head).two
  go_wp2_with fail
  clear ba bb bc bd aa ab ac ad
  refine (T2.out _).mono ?_
  rintro e w3 ⟨rfl, k⟩
  replace KB := KB.below k
  clear k
  go_upto_region 3 with (fail)
  have hlh := KB.head.lt
  replace KB := KB.more2 (.int .i64 y0) (.int .u64 y1) 24
  generalize w3.alloc (.cells #[.int .i64 y0, .int .u64 y1] 24) = w4 at *
  have ih0 : w3.heap.size ≠ g := by omega
  have oh0 := Ne.symm ih0
  have ih1 : w3.heap.size ≠ w.heap.size + 1 + 1 := by omega
  have oh1 := Ne.symm ih1
  have ih2 : w3.heap.size ≠ w.heap.size + 1 := by omega
  have oh2 := Ne.symm ih2
  have ih3 : w3.heap.size ≠ w.heap.size := by omega
  have oh3 := Ne.symm ih3
  generalize w3.heap.size = h at *
  go_wp2_with fail
  refine (AL.out _).mono ?_
  rintro e w9 ⟨rfl, k⟩
  replace KB := KB.below k
  clear k
  have HB := KB.hb
  go_wp2
  go_ret
  exact ⟨rfl, HB⟩
set_option maxRecDepth 100000 in
set_option maxHeartbeats 8000000 in
theorem rises_f (v a b m x0 x1 y0 y1 f : Int) (T1 : Hid (∀ W, Calls Try.prog 9 #[.agg #[.int .i64 (hiW v), .int .u64 (loW v)], .agg #[.int .i64 (hiW b), .int .u64 (loW b)], .int .i64 m] W (fun o w' => o = .returned (.tuple #[.agg #[.int .i64 x0, .int .u64 x1], .int .i64 0]) ∧ Below W.heap.size W w'))) (T2 : Hid (∀ W, Calls Try.prog 9 #[.agg #[.int .i64 (hiW a), .int .u64 (loW a)], .agg #[.int .i64 (hiW b), .int .u64 (loW b)], .int .i64 m] W (fun o w' => o = .returned (.tuple #[.agg #[.int .i64 y0, .int .u64 y1], .int .i64 f]) ∧ Below W.heap.size W w'))) (AL : Hid (∀ W, Calls Try.prog 11 #[] W (fun o w' => o = .returned (.bool true) ∧ Below W.heap.size W w'))) (hf : ¬ f = 0) (w : World) :
    Calls Try.prog 8 #[.agg #[.int .i64 (hiW v), .int .u64 (loW v)], .agg #[.int .i64 (hiW a), .int .u64 (loW a)], .agg #[.int .i64 (hiW b), .int .u64 (loW b)], .int .i64 m] w (RetV w (.bool true)) := by
  have hf' : (f == 0) = false := by rw [beq_eq_false_iff_ne]; exact hf
  go_enter Try.func8, Try.ntmps8
  go_wp2_with fail
  have KB := ((((BK.nil w).more2 (.int .i64 (hiW v)) (.int .u64 (loW v)) 24).more2 (.int .i64 (hiW a)) (.int .u64 (loW a)) 24).more2 (.int .i64 (hiW b)) (.int .u64 (loW b)) 24)
  try simp only [World.size_alloc] at KB
  generalize (((w.alloc (.cells #[.int .i64 (hiW v), .int .u64 (loW v)] 24)).alloc (.cells #[.int .i64 (hiW a), .int .u64 (loW a)] 24)).alloc (.cells #[.int .i64 (hiW b), .int .u64 (loW b)] 24)) = w0 at *
  refine (T1.out _).mono ?_
  rintro e w1 ⟨rfl, k⟩
  replace KB := KB.below k
  clear k
  go_upto_region 2 with (fail)
  have hlg := KB.head.lt
  replace KB := KB.more2 (.int .i64 x0) (.int .u64 x1) 24
  generalize w1.alloc (.cells #[.int .i64 x0, .int .u64 x1] 24) = w2 at *
  have ig0 : w1.heap.size ≠ w.heap.size + 1 + 1 := by omega
  have og0 := Ne.symm ig0
  have ig1 : w1.heap.size ≠ w.heap.size + 1 := by omega
  have og1 := Ne.symm ig1
  have ig2 : w1.heap.size ≠ w.heap.size := by omega
  have og2 := Ne.symm ig2
  generalize w1.heap.size = g at *
  obtain ⟨_, ba, bb, bc, bd⟩ := (KB.tail.head).two
  obtain ⟨_, aa, ab, ac, ad⟩ := (KB.tail.tail.head).two
  go_wp2_with fail
  clear ba bb bc bd aa ab ac ad
  refine (T2.out _).mono ?_
  rintro e w3 ⟨rfl, k⟩
  replace KB := KB.below k
  clear k
  go_upto_region 3 with (fail)
  have hlh := KB.head.lt
  replace KB := KB.more2 (.int .i64 y0) (.int .u64 y1) 24
  generalize w3.alloc (.cells #[.int .i64 y0, .int .u64 y1] 24) = w4 at *
  have ih0 : w3.heap.size ≠ g := by omega
  have oh0 := Ne.symm ih0
  have ih1 : w3.heap.size ≠ w.heap.size + 1 + 1 := by omega
  have oh1 := Ne.symm ih1
  have ih2 : w3.heap.size ≠ w.heap.size + 1 := by omega
  have oh2 := Ne.symm ih2
  have ih3 : w3.heap.size ≠ w.heap.size := by omega
  have oh3 := Ne.symm ih3
  generalize w3.heap.size = h at *
  go_wp2_with fail
  refine (AL.out _).mono ?_
  rintro e w9 ⟨rfl, k⟩
  replace KB := KB.below k
  clear k
  have HB := KB.hb
  go_wp2
  go_ret
  exact ⟨rfl, HB⟩
set_option maxRecDepth 100000 in
set_option maxHeartbeats 8000000 in
theorem rises_eq (v a b m x0 x1 y0 y1 : Int) (T1 : Hid (∀ W, Calls Try.prog 9 #[.agg #[.int .i64 (hiW v), .int .u64 (loW v)], .agg #[.int .i64 (hiW b), .int .u64 (loW b)], .int .i64 m] W (fun o w' => o = .returned (.tuple #[.agg #[.int .i64 x0, .int .u64 x1], .int .i64 0]) ∧ Below W.heap.size W w'))) (T2 : Hid (∀ W, Calls Try.prog 9 #[.agg #[.int .i64 (hiW a), .int .u64 (loW a)], .agg #[.int .i64 (hiW b), .int .u64 (loW b)], .int .i64 m] W (fun o w' => o = .returned (.tuple #[.agg #[.int .i64 y0, .int .u64 y1], .int .i64 0]) ∧ Below W.heap.size W w'))) (AL : Hid (∀ W, Calls Try.prog 11 #[] W (fun o w' => o = .returned (.bool true) ∧ Below W.heap.size W w'))) (C1 : Hid (∀ W, Calls Try.prog 24 #[.agg #[.int .i64 (hiW v), .int .u64 (loW v)], .agg #[.int .i64 (hiW a), .int .u64 (loW a)]] W (fun o w' => o = .returned (.int .i64 (0)) ∧ Below W.heap.size W w'))) (C2 : Hid (∀ W, Calls Try.prog 24 #[.agg #[.int .i64 x0, .int .u64 x1], .agg #[.int .i64 y0, .int .u64 y1]] W (fun o w' => o = .returned (.int .i64 (0)) ∧ Below W.heap.size W w'))) (w : World) :
    Calls Try.prog 8 #[.agg #[.int .i64 (hiW v), .int .u64 (loW v)], .agg #[.int .i64 (hiW a), .int .u64 (loW a)], .agg #[.int .i64 (hiW b), .int .u64 (loW b)], .int .i64 m] w (RetV w (.bool true)) := by
  go_enter Try.func8, Try.ntmps8
  go_wp2_with fail
  have KB := ((((BK.nil w).more2 (.int .i64 (hiW v)) (.int .u64 (loW v)) 24).more2 (.int .i64 (hiW a)) (.int .u64 (loW a)) 24).more2 (.int .i64 (hiW b)) (.int .u64 (loW b)) 24)
  try simp only [World.size_alloc] at KB
  generalize (((w.alloc (.cells #[.int .i64 (hiW v), .int .u64 (loW v)] 24)).alloc (.cells #[.int .i64 (hiW a), .int .u64 (loW a)] 24)).alloc (.cells #[.int .i64 (hiW b), .int .u64 (loW b)] 24)) = w0 at *
  refine (T1.out _).mono ?_
  rintro e w1 ⟨rfl, k⟩
  replace KB := KB.below k
  clear k
  go_upto_region 2 with (fail)
  have hlg := KB.head.lt
  replace KB := KB.more2 (.int .i64 x0) (.int .u64 x1) 24
  generalize w1.alloc (.cells #[.int .i64 x0, .int .u64 x1] 24) = w2 at *
  have ig0 : w1.heap.size ≠ w.heap.size + 1 + 1 := by omega
  have og0 := Ne.symm ig0
  have ig1 : w1.heap.size ≠ w.heap.size + 1 := by omega
  have og1 := Ne.symm ig1
  have ig2 : w1.heap.size ≠ w.heap.size := by omega
  have og2 := Ne.symm ig2
  generalize w1.heap.size = g at *
  obtain ⟨_, ba, bb, bc, bd⟩ := (KB.tail.head).two
  obtain ⟨_, aa, ab, ac, ad⟩ := (KB.tail.tail.head).two
  go_wp2_with fail
  clear ba bb bc bd aa ab ac ad
  refine (T2.out _).mono ?_
  rintro e w3 ⟨rfl, k⟩
  replace KB := KB.below k
  clear k
  go_upto_region 3 with (fail)
  have hlh := KB.head.lt
  replace KB := KB.more2 (.int .i64 y0) (.int .u64 y1) 24
  generalize w3.alloc (.cells #[.int .i64 y0, .int .u64 y1] 24) = w4 at *
  have ih0 : w3.heap.size ≠ g := by omega
  have oh0 := Ne.symm ih0
  have ih1 : w3.heap.size ≠ w.heap.size + 1 + 1 := by omega
  have oh1 := Ne.symm ih1
  have ih2 : w3.heap.size ≠ w.heap.size + 1 := by omega
  have oh2 := Ne.symm ih2
  have ih3 : w3.heap.size ≠ w.heap.size := by omega
  have oh3 := Ne.symm ih3
  generalize w3.heap.size = h at *
  obtain ⟨_, aa, ab, ac, ad⟩ := (KB.tail.tail.tail.head).two
  obtain ⟨_, va, vb, vc, vd⟩ := (KB.tail.tail.tail.tail.head).two
  go_wp2_with fail
  clear aa ab ac ad va vb vc vd
  refine (C1.out _).mono ?_
  rintro e w5 ⟨rfl, k⟩
  replace KB := KB.below k
  clear k
  obtain ⟨_, ya, yb, yc, yd⟩ := (KB.head).two
  obtain ⟨_, xa, xb, xc, xd⟩ := (KB.tail.head).two
  go_wp2_with fail
  clear ya yb yc yd xa xb xc xd
  refine (C2.out _).mono ?_
  rintro e w6 ⟨rfl, k⟩
  replace KB := KB.below k
  clear k
  go_wp2_with fail
  refine (AL.out _).mono ?_
  rintro e w9 ⟨rfl, k⟩
  replace KB := KB.below k
  clear k
  have HB := KB.hb
  go_wp2
  go_ret
  exact ⟨rfl, HB⟩
set_option maxRecDepth 100000 in
set_option maxHeartbeats 8000000 in
theorem rises_ll (v a b m x0 x1 y0 y1 : Int) (T1 : Hid (∀ W, Calls Try.prog 9 #[.agg #[.int .i64 (hiW v), .int .u64 (loW v)], .agg #[.int .i64 (hiW b), .int .u64 (loW b)], .int .i64 m] W (fun o w' => o = .returned (.tuple #[.agg #[.int .i64 x0, .int .u64 x1], .int .i64 0]) ∧ Below W.heap.size W w'))) (T2 : Hid (∀ W, Calls Try.prog 9 #[.agg #[.int .i64 (hiW a), .int .u64 (loW a)], .agg #[.int .i64 (hiW b), .int .u64 (loW b)], .int .i64 m] W (fun o w' => o = .returned (.tuple #[.agg #[.int .i64 y0, .int .u64 y1], .int .i64 0]) ∧ Below W.heap.size W w'))) (AL : Hid (∀ W, Calls Try.prog 11 #[] W (fun o w' => o = .returned (.bool true) ∧ Below W.heap.size W w'))) (C1 : Hid (∀ W, Calls Try.prog 24 #[.agg #[.int .i64 (hiW v), .int .u64 (loW v)], .agg #[.int .i64 (hiW a), .int .u64 (loW a)]] W (fun o w' => o = .returned (.int .i64 (-1)) ∧ Below W.heap.size W w'))) (C2 : Hid (∀ W, Calls Try.prog 24 #[.agg #[.int .i64 x0, .int .u64 x1], .agg #[.int .i64 y0, .int .u64 y1]] W (fun o w' => o = .returned (.int .i64 (-1)) ∧ Below W.heap.size W w'))) (w : World) :
    Calls Try.prog 8 #[.agg #[.int .i64 (hiW v), .int .u64 (loW v)], .agg #[.int .i64 (hiW a), .int .u64 (loW a)], .agg #[.int .i64 (hiW b), .int .u64 (loW b)], .int .i64 m] w (RetV w (.bool true)) := by
  go_enter Try.func8, Try.ntmps8
  go_wp2_with fail
  have KB := ((((BK.nil w).more2 (.int .i64 (hiW v)) (.int .u64 (loW v)) 24).more2 (.int .i64 (hiW a)) (.int .u64 (loW a)) 24).more2 (.int .i64 (hiW b)) (.int .u64 (loW b)) 24)
  try simp only [World.size_alloc] at KB
  generalize (((w.alloc (.cells #[.int .i64 (hiW v), .int .u64 (loW v)] 24)).alloc (.cells #[.int .i64 (hiW a), .int .u64 (loW a)] 24)).alloc (.cells #[.int .i64 (hiW b), .int .u64 (loW b)] 24)) = w0 at *
  refine (T1.out _).mono ?_
  rintro e w1 ⟨rfl, k⟩
  replace KB := KB.below k
  clear k
  go_upto_region 2 with (fail)
  have hlg := KB.head.lt
  replace KB := KB.more2 (.int .i64 x0) (.int .u64 x1) 24
  generalize w1.alloc (.cells #[.int .i64 x0, .int .u64 x1] 24) = w2 at *
  have ig0 : w1.heap.size ≠ w.heap.size + 1 + 1 := by omega
  have og0 := Ne.symm ig0
  have ig1 : w1.heap.size ≠ w.heap.size + 1 := by omega
  have og1 := Ne.symm ig1
  have ig2 : w1.heap.size ≠ w.heap.size := by omega
  have og2 := Ne.symm ig2
  generalize w1.heap.size = g at *
  obtain ⟨_, ba, bb, bc, bd⟩ := (KB.tail.head).two
  obtain ⟨_, aa, ab, ac, ad⟩ := (KB.tail.tail.head).two
  go_wp2_with fail
  clear ba bb bc bd aa ab ac ad
  refine (T2.out _).mono ?_
  rintro e w3 ⟨rfl, k⟩
  replace KB := KB.below k
  clear k
  go_upto_region 3 with (fail)
  have hlh := KB.head.lt
  replace KB := KB.more2 (.int .i64 y0) (.int .u64 y1) 24
  generalize w3.alloc (.cells #[.int .i64 y0, .int .u64 y1] 24) = w4 at *
  have ih0 : w3.heap.size ≠ g := by omega
  have oh0 := Ne.symm ih0
  have ih1 : w3.heap.size ≠ w.heap.size + 1 + 1 := by omega
  have oh1 := Ne.symm ih1
  have ih2 : w3.heap.size ≠ w.heap.size + 1 := by omega
  have oh2 := Ne.symm ih2
  have ih3 : w3.heap.size ≠ w.heap.size := by omega
  have oh3 := Ne.symm ih3
  generalize w3.heap.size = h at *
  obtain ⟨_, aa, ab, ac, ad⟩ := (KB.tail.tail.tail.head).two
  obtain ⟨_, va, vb, vc, vd⟩ := (KB.tail.tail.tail.tail.head).two
  go_wp2_with fail
  clear aa ab ac ad va vb vc vd
  refine (C1.out _).mono ?_
  rintro e w5 ⟨rfl, k⟩
  replace KB := KB.below k
  clear k
  obtain ⟨_, ya, yb, yc, yd⟩ := (KB.head).two
  obtain ⟨_, xa, xb, xc, xd⟩ := (KB.tail.head).two
  go_wp2_with fail
  clear ya yb yc yd xa xb xc xd
  refine (C2.out _).mono ?_
  rintro e w6 ⟨rfl, k⟩
  replace KB := KB.below k
  clear k
  go_wp2_with fail
  refine (AL.out _).mono ?_
  rintro e w9 ⟨rfl, k⟩
  replace KB := KB.below k
  clear k
  have HB := KB.hb
  go_wp2
  go_ret
  exact ⟨rfl, HB⟩
set_option maxRecDepth 100000 in
set_option maxHeartbeats 8000000 in
theorem rises_le (v a b m x0 x1 y0 y1 : Int) (T1 : Hid (∀ W, Calls Try.prog 9 #[.agg #[.int .i64 (hiW v), .int .u64 (loW v)], .agg #[.int .i64 (hiW b), .int .u64 (loW b)], .int .i64 m] W (fun o w' => o = .returned (.tuple #[.agg #[.int .i64 x0, .int .u64 x1], .int .i64 0]) ∧ Below W.heap.size W w'))) (T2 : Hid (∀ W, Calls Try.prog 9 #[.agg #[.int .i64 (hiW a), .int .u64 (loW a)], .agg #[.int .i64 (hiW b), .int .u64 (loW b)], .int .i64 m] W (fun o w' => o = .returned (.tuple #[.agg #[.int .i64 y0, .int .u64 y1], .int .i64 0]) ∧ Below W.heap.size W w'))) (AL : Hid (∀ W, Calls Try.prog 11 #[] W (fun o w' => o = .returned (.bool true) ∧ Below W.heap.size W w'))) (C1 : Hid (∀ W, Calls Try.prog 24 #[.agg #[.int .i64 (hiW v), .int .u64 (loW v)], .agg #[.int .i64 (hiW a), .int .u64 (loW a)]] W (fun o w' => o = .returned (.int .i64 (-1)) ∧ Below W.heap.size W w'))) (C2 : Hid (∀ W, Calls Try.prog 24 #[.agg #[.int .i64 x0, .int .u64 x1], .agg #[.int .i64 y0, .int .u64 y1]] W (fun o w' => o = .returned (.int .i64 (0)) ∧ Below W.heap.size W w'))) (w : World) :
    Calls Try.prog 8 #[.agg #[.int .i64 (hiW v), .int .u64 (loW v)], .agg #[.int .i64 (hiW a), .int .u64 (loW a)], .agg #[.int .i64 (hiW b), .int .u64 (loW b)], .int .i64 m] w (RetV w (.bool true)) := by
  go_enter Try.func8, Try.ntmps8
  go_wp2_with fail
  have KB := ((((BK.nil w).more2 (.int .i64 (hiW v)) (.int .u64 (loW v)) 24).more2 (.int .i64 (hiW a)) (.int .u64 (loW a)) 24).more2 (.int .i64 (hiW b)) (.int .u64 (loW b)) 24)
  try simp only [World.size_alloc] at KB
  generalize (((w.alloc (.cells #[.int .i64 (hiW v), .int .u64 (loW v)] 24)).alloc (.cells #[.int .i64 (hiW a), .int .u64 (loW a)] 24)).alloc (.cells #[.int .i64 (hiW b), .int .u64 (loW b)] 24)) = w0 at *
  refine (T1.out _).mono ?_
  rintro e w1 ⟨rfl, k⟩
  replace KB := KB.below k
  clear k
  go_upto_region 2 with (fail)
  have hlg := KB.head.lt
  replace KB := KB.more2 (.int .i64 x0) (.int .u64 x1) 24
  generalize w1.alloc (.cells #[.int .i64 x0, .int .u64 x1] 24) = w2 at *
  have ig0 : w1.heap.size ≠ w.heap.size + 1 + 1 := by omega
  have og0 := Ne.symm ig0
  have ig1 : w1.heap.size ≠ w.heap.size + 1 := by omega
  have og1 := Ne.symm ig1
  have ig2 : w1.heap.size ≠ w.heap.size := by omega
  have og2 := Ne.symm ig2
  generalize w1.heap.size = g at *
  obtain ⟨_, ba, bb, bc, bd⟩ := (KB.tail.head).two
  obtain ⟨_, aa, ab, ac, ad⟩ := (KB.tail.tail.head).two
  go_wp2_with fail
  clear ba bb bc bd aa ab ac ad
  refine (T2.out _).mono ?_
  rintro e w3 ⟨rfl, k⟩
  replace KB := KB.below k
  clear k
  go_upto_region 3 with (fail)
  have hlh := KB.head.lt
  replace KB := KB.more2 (.int .i64 y0) (.int .u64 y1) 24
  generalize w3.alloc (.cells #[.int .i64 y0, .int .u64 y1] 24) = w4 at *
  have ih0 : w3.heap.size ≠ g := by omega
  have oh0 := Ne.symm ih0
  have ih1 : w3.heap.size ≠ w.heap.size + 1 + 1 := by omega
  have oh1 := Ne.symm ih1
  have ih2 : w3.heap.size ≠ w.heap.size + 1 := by omega
  have oh2 := Ne.symm ih2
  have ih3 : w3.heap.size ≠ w.heap.size := by omega
  have oh3 := Ne.symm ih3
  generalize w3.heap.size = h at *
  obtain ⟨_, aa, ab, ac, ad⟩ := (KB.tail.tail.tail.head).two
  obtain ⟨_, va, vb, vc, vd⟩ := (KB.tail.tail.tail.tail.head).two
  go_wp2_with fail
  clear aa ab ac ad va vb vc vd
  refine (C1.out _).mono ?_
  rintro e w5 ⟨rfl, k⟩
  replace KB := KB.below k
  clear k
  obtain ⟨_, ya, yb, yc, yd⟩ := (KB.head).two
  obtain ⟨_, xa, xb, xc, xd⟩ := (KB.tail.head).two
  go_wp2_with fail
  clear ya yb yc yd xa xb xc xd
  refine (C2.out _).mono ?_
  rintro e w6 ⟨rfl, k⟩
  replace KB := KB.below k
  clear k
  go_wp2_with fail
  refine (AL.out _).mono ?_
  rintro e w9 ⟨rfl, k⟩
  replace KB := KB.below k
  clear k
  have HB := KB.hb
  go_wp2
  go_ret
  exact ⟨rfl, HB⟩
set_option maxRecDepth 100000 in
set_option maxHeartbeats 8000000 in
theorem rises_gg (v a b m x0 x1 y0 y1 : Int) (T1 : Hid (∀ W, Calls Try.prog 9 #[.agg #[.int .i64 (hiW v), .int .u64 (loW v)], .agg #[.int .i64 (hiW b), .int .u64 (loW b)], .int .i64 m] W (fun o w' => o = .returned (.tuple #[.agg #[.int .i64 x0, .int .u64 x1], .int .i64 0]) ∧ Below W.heap.size W w'))) (T2 : Hid (∀ W, Calls Try.prog 9 #[.agg #[.int .i64 (hiW a), .int .u64 (loW a)], .agg #[.int .i64 (hiW b), .int .u64 (loW b)], .int .i64 m] W (fun o w' => o = .returned (.tuple #[.agg #[.int .i64 y0, .int .u64 y1], .int .i64 0]) ∧ Below W.heap.size W w'))) (AL : Hid (∀ W, Calls Try.prog 11 #[] W (fun o w' => o = .returned (.bool true) ∧ Below W.heap.size W w'))) (C1 : Hid (∀ W, Calls Try.prog 24 #[.agg #[.int .i64 (hiW v), .int .u64 (loW v)], .agg #[.int .i64 (hiW a), .int .u64 (loW a)]] W (fun o w' => o = .returned (.int .i64 (1)) ∧ Below W.heap.size W w'))) (C2 : Hid (∀ W, Calls Try.prog 24 #[.agg #[.int .i64 x0, .int .u64 x1], .agg #[.int .i64 y0, .int .u64 y1]] W (fun o w' => o = .returned (.int .i64 (1)) ∧ Below W.heap.size W w'))) (w : World) :
    Calls Try.prog 8 #[.agg #[.int .i64 (hiW v), .int .u64 (loW v)], .agg #[.int .i64 (hiW a), .int .u64 (loW a)], .agg #[.int .i64 (hiW b), .int .u64 (loW b)], .int .i64 m] w (RetV w (.bool true)) := by
  go_enter Try.func8, Try.ntmps8
  go_wp2_with fail
  have KB := ((((BK.nil w).more2 (.int .i64 (hiW v)) (.int .u64 (loW v)) 24).more2 (.int .i64 (hiW a)) (.int .u64 (loW a)) 24).more2 (.int .i64 (hiW b)) (.int .u64 (loW b)) 24)
  try simp only [World.size_alloc] at KB
  generalize (((w.alloc (.cells #[.int .i64 (hiW v), .int .u64 (loW v)] 24)).alloc (.cells #[.int .i64 (hiW a), .int .u64 (loW a)] 24)).alloc (.cells #[.int .i64 (hiW b), .int .u64 (loW b)] 24)) = w0 at *
  refine (T1.out _).mono ?_
  rintro e w1 ⟨rfl, k⟩
  replace KB := KB.below k
  clear k
  go_upto_region 2 with (fail)
  have hlg := KB.head.lt
  replace KB := KB.more2 (.int .i64 x0) (.int .u64 x1) 24
  generalize w1.alloc (.cells #[.int .i64 x0, .int .u64 x1] 24) = w2 at *
  have ig0 : w1.heap.size ≠ w.heap.size + 1 + 1 := by omega
  have og0 := Ne.symm ig0
  have ig1 : w1.heap.size ≠ w.heap.size + 1 := by omega
  have og1 := Ne.symm ig1
  have ig2 : w1.heap.size ≠ w.heap.size := by omega
  have og2 := Ne.symm ig2
  generalize w1.heap.size = g at *
  obtain ⟨_, ba, bb, bc, bd⟩ := (KB.tail.head).two
  obtain ⟨_, aa, ab, ac, ad⟩ := (KB.tail.tail.head).two
  go_wp2_with fail
  clear ba bb bc bd aa ab ac ad
  refine (T2.out _).mono ?_
  rintro e w3 ⟨rfl, k⟩
  replace KB := KB.below k
  clear k
  go_upto_region 3 with (fail)
  have hlh := KB.head.lt
  replace KB := KB.more2 (.int .i64 y0) (.int .u64 y1) 24
  generalize w3.alloc (.cells #[.int .i64 y0, .int .u64 y1] 24) = w4 at *
  have ih0 : w3.heap.size ≠ g := by omega
  have oh0 := Ne.symm ih0
  have ih1 : w3.heap.size ≠ w.heap.size + 1 + 1 := by omega
  have oh1 := Ne.symm ih1
  have ih2 : w3.heap.size ≠ w.heap.size + 1 := by omega
  have oh2 := Ne.symm ih2
  have ih3 : w3.heap.size ≠ w.heap.size := by omega
  have oh3 := Ne.symm ih3
  generalize w3.heap.size = h at *
  obtain ⟨_, aa, ab, ac, ad⟩ := (KB.tail.tail.tail.head).two
  obtain ⟨_, va, vb, vc, vd⟩ := (KB.tail.tail.tail.tail.head).two
  go_wp2_with fail
  clear aa ab ac ad va vb vc vd
  refine (C1.out _).mono ?_
  rintro e w5 ⟨rfl, k⟩
  replace KB := KB.below k
  clear k
  obtain ⟨_, ya, yb, yc, yd⟩ := (KB.head).two
  obtain ⟨_, xa, xb, xc, xd⟩ := (KB.tail.head).two
  go_wp2_with fail
  clear ya yb yc yd xa xb xc xd
  refine (C2.out _).mono ?_
  rintro e w6 ⟨rfl, k⟩
  replace KB := KB.below k
  clear k
  go_wp2_with fail
  refine (AL.out _).mono ?_
  rintro e w9 ⟨rfl, k⟩
  replace KB := KB.below k
  clear k
  have HB := KB.hb
  go_wp2
  go_ret
  exact ⟨rfl, HB⟩
set_option maxRecDepth 100000 in
set_option maxHeartbeats 8000000 in
theorem rises_ge (v a b m x0 x1 y0 y1 : Int) (T1 : Hid (∀ W, Calls Try.prog 9 #[.agg #[.int .i64 (hiW v), .int .u64 (loW v)], .agg #[.int .i64 (hiW b), .int .u64 (loW b)], .int .i64 m] W (fun o w' => o = .returned (.tuple #[.agg #[.int .i64 x0, .int .u64 x1], .int .i64 0]) ∧ Below W.heap.size W w'))) (T2 : Hid (∀ W, Calls Try.prog 9 #[.agg #[.int .i64 (hiW a), .int .u64 (loW a)], .agg #[.int .i64 (hiW b), .int .u64 (loW b)], .int .i64 m] W (fun o w' => o = .returned (.tuple #[.agg #[.int .i64 y0, .int .u64 y1], .int .i64 0]) ∧ Below W.heap.size W w'))) (AL : Hid (∀ W, Calls Try.prog 11 #[] W (fun o w' => o = .returned (.bool true) ∧ Below W.heap.size W w'))) (C1 : Hid (∀ W, Calls Try.prog 24 #[.agg #[.int .i64 (hiW v), .int .u64 (loW v)], .agg #[.int .i64 (hiW a), .int .u64 (loW a)]] W (fun o w' => o = .returned (.int .i64 (1)) ∧ Below W.heap.size W w'))) (C2 : Hid (∀ W, Calls Try.prog 24 #[.agg #[.int .i64 x0, .int .u64 x1], .agg #[.int .i64 y0, .int .u64 y1]] W (fun o w' => o = .returned (.int .i64 (0)) ∧ Below W.heap.size W w'))) (w : World) :
    Calls Try.prog 8 #[.agg #[.int .i64 (hiW v), .int .u64 (loW v)], .agg #[.int .i64 (hiW a), .int .u64 (loW a)], .agg #[.int .i64 (hiW b), .int .u64 (loW b)], .int .i64 m] w (RetV w (.bool true)) := by
  go_enter Try.func8, Try.ntmps8
  go_wp2_with fail
  have KB := ((((BK.nil w).more2 (.int .i64 (hiW v)) (.int .u64 (loW v)) 24).more2 (.int .i64 (hiW a)) (.int .u64 (loW a)) 24).more2 (.int .i64 (hiW b)) (.int .u64 (loW b)) 24)
  try simp only [World.size_alloc] at KB
  generalize (((w.alloc (.cells #[.int .i64 (hiW v), .int .u64 (loW v)] 24)).alloc (.cells #[.int .i64 (hiW a), .int .u64 (loW a)] 24)).alloc (.cells #[.int .i64 (hiW b), .int .u64 (loW b)] 24)) = w0 at *
  refine (T1.out _).mono ?_
  rintro e w1 ⟨rfl, k⟩
  replace KB := KB.below k
  clear k
  go_upto_region 2 with (fail)
  have hlg := KB.head.lt
  replace KB := KB.more2 (.int .i64 x0) (.int .u64 x1) 24
  generalize w1.alloc (.cells #[.int .i64 x0, .int .u64 x1] 24) = w2 at *
  have ig0 : w1.heap.size ≠ w.heap.size + 1 + 1 := by omega
  have og0 := Ne.symm ig0
  have ig1 : w1.heap.size ≠ w.heap.size + 1 := by omega
  have og1 := Ne.symm ig1
  have ig2 : w1.heap.size ≠ w.heap.size := by omega
  have og2 := Ne.symm ig2
  generalize w1.heap.size = g at *
  obtain ⟨_, ba, bb, bc, bd⟩ := (KB.tail.head).two
  obtain ⟨_, aa, ab, ac, ad⟩ := (KB.tail.tail.head).two
  go_wp2_with fail
  clear ba bb bc bd aa ab ac ad
  refine (T2.out _).mono ?_
  rintro e w3 ⟨rfl, k⟩
  replace KB := KB.below k
  clear k
  go_upto_region 3 with (fail)
  have hlh := KB.head.lt
  replace KB := KB.more2 (.int .i64 y0) (.int .u64 y1) 24
  generalize w3.alloc (.cells #[.int .i64 y0, .int .u64 y1] 24) = w4 at *
  have ih0 : w3.heap.size ≠ g := by omega
  have oh0 := Ne.symm ih0
  have ih1 : w3.heap.size ≠ w.heap.size + 1 + 1 := by omega
  have oh1 := Ne.symm ih1
  have ih2 : w3.heap.size ≠ w.heap.size + 1 := by omega
  have oh2 := Ne.symm ih2
  have ih3 : w3.heap.size ≠ w.heap.size := by omega
  have oh3 := Ne.symm ih3
  generalize w3.heap.size = h at *
  obtain ⟨_, aa, ab, ac, ad⟩ := (KB.tail.tail.tail.head).two
  obtain ⟨_, va, vb, vc, vd⟩ := (KB.tail.tail.tail.tail.head).two
  go_wp2_with fail
  clear aa ab ac ad va vb vc vd
  refine (C1.out _).mono ?_
  rintro e w5 ⟨rfl, k⟩
  replace KB := KB.below k
  clear k
  obtain ⟨_, ya, yb, yc, yd⟩ := (KB.head).two
  obtain ⟨_, xa, xb, xc, xd⟩ := (KB.tail.head).two
  go_wp2_with fail
  clear ya yb yc yd xa xb xc xd
  refine (C2.out _).mono ?_
  rintro e w6 ⟨rfl, k⟩
  replace KB := KB.below k
  clear k
  go_wp2_with fail
  refine (AL.out _).mono ?_
  rintro e w9 ⟨rfl, k⟩
  replace KB := KB.below k
  clear k
  have HB := KB.hb
  go_wp2
  go_ret
  exact ⟨rfl, HB⟩
theorem roundRises_walk (v a b m : Int) (hv0 : InW v) (ha : InW a) (hb : InW b) (_ : In64 m) (w : World) :
    Calls Try.prog 8 #[.agg #[.int .i64 (hiW v), .int .u64 (loW v)], .agg #[.int .i64 (hiW a), .int .u64 (loW a)], .agg #[.int .i64 (hiW b), .int .u64 (loW b)], .int .i64 m] w (RetV w (.bool true)) := by
  have A := (Lib.hid alive_ret)
  by_cases h : m < 1 ∨ 9 < m ∨ b ≤ 0
  · exact rises_e v a b m 0 0 0 0 1 1 (Lib.hid fun W => roundTo_no v b m h W) (Lib.hid fun W => roundTo_no a b m h W) A (by decide) w
  · have T1 := fun W => roundTo_any v b m hv0 hb (by omega) (by omega) (by omega) W
    have T2 := fun W => roundTo_any a b m ha hb (by omega) (by omega) (by omega) W
    have e1 : nearR v b m = nearZ v b m := by unfold nearR upN upD; rw [if_neg (by omega), if_neg (by omega)]
    have e2 : nearR a b m = nearZ a b m := by unfold nearR upN upD; rw [if_neg (by omega), if_neg (by omega)]
    rw [e1] at T1
    rw [e2] at T2
    by_cases i1 : InW (nearZ v b m * b)
    · by_cases i2 : InW (nearZ a b m * b)
      · have T1' := fun W => (T1 W).mono fun _ _ h => ret_in i1 h
        have T2' := fun W => (T2 W).mono fun _ _ h => ret_in i2 h
        have C1 := fun W => wideCmp v a W
        have C2 := fun W => wideCmp (nearZ v b m * b) (nearZ a b m * b) W
        have hb0 : 0 < b := by omega
        have hm : 1 ≤ m ∧ m ≤ 9 := by omega
        rcases Int.lt_trichotomy v a with k | k | k
        · have mo := Int.mul_le_mul_of_nonneg_right (near_mono (m := m) hb0 hm (Int.le_of_lt k)) (Int.le_of_lt hb0)
          rw [ord_lt k] at C1
          by_cases k2 : nearZ v b m * b = nearZ a b m * b
          · rw [ord_eq k2] at C2
            exact rises_le v a b m _ _ _ _ (Lib.hid T1') (Lib.hid T2') A (Lib.hid C1) (Lib.hid C2) w
          · rw [ord_lt (by omega)] at C2
            exact rises_ll v a b m _ _ _ _ (Lib.hid T1') (Lib.hid T2') A (Lib.hid C1) (Lib.hid C2) w
        · rw [ord_eq k] at C1
          rw [ord_eq (by rw [k])] at C2
          exact rises_eq v a b m _ _ _ _ (Lib.hid T1') (Lib.hid T2') A (Lib.hid C1) (Lib.hid C2) w
        · have mo := Int.mul_le_mul_of_nonneg_right (near_mono (m := m) hb0 hm (Int.le_of_lt k)) (Int.le_of_lt hb0)
          rw [ord_gt k] at C1
          by_cases k2 : nearZ v b m * b = nearZ a b m * b
          · rw [ord_eq k2] at C2
            exact rises_ge v a b m _ _ _ _ (Lib.hid T1') (Lib.hid T2') A (Lib.hid C1) (Lib.hid C2) w
          · rw [ord_gt (by omega)] at C2
            exact rises_gg v a b m _ _ _ _ (Lib.hid T1') (Lib.hid T2') A (Lib.hid C1) (Lib.hid C2) w
      · exact rises_f v a b m _ _ _ _ _ (Lib.hid fun W => (T1 W).mono fun _ _ h => ret_in i1 h) (Lib.hid T2) A (by rw [(told_no i2).2.2]; decide) w
    · exact rises_e v a b m _ _ _ _ _ _ (Lib.hid T1) (Lib.hid T2) A (by rw [(told_no i1).2.2]; decide) w
end Go.Proofs.Ytnopgdheffnfdaa
