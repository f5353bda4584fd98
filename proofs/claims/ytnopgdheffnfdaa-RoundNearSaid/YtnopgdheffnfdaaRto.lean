/- Package round's To and Ratio, out of what their calls answer. -/
import Derived.Test.YtnopgdheffnfdaaRrise
import Derived.Test.YtnopgdheffnfdaaVfloor
namespace Go.Proofs.Ytnopgdheffnfdaa
open Go.RowKit

set_option maxRecDepth 100000 in
set_option maxHeartbeats 8000000 in
theorem to_mode (a b m : Int) (KN : Hid (∀ W, Calls Try.prog 25 #[.int .i64 m] W (fun e w' => e = .returned (.bool false) ∧ W = w'))) (w : World) :
    Calls Try.prog 9 #[.agg #[.int .i64 (hiW a), .int .u64 (loW a)], .agg #[.int .i64 (hiW b), .int .u64 (loW b)], .int .i64 m] w (fun o w' => o = .returned (.tuple #[.agg #[.int .i64 0, .int .u64 0], .int .i64 1]) ∧ Below w.heap.size w w') := by
  go_enter Try.func9, Try.ntmps9
  go_wp2_with fail
  have KB := ((((BK.nil w).more2 (.int .i64 (hiW a)) (.int .u64 (loW a)) 24).more2 (.int .i64 (hiW b)) (.int .u64 (loW b)) 24).more2 (.int .i64 0) (.int .u64 0) 24)
  try simp only [World.size_alloc] at KB
  generalize (((w.alloc (.cells #[.int .i64 (hiW a), .int .u64 (loW a)] 24)).alloc (.cells #[.int .i64 (hiW b), .int .u64 (loW b)] 24)).alloc (.cells #[.int .i64 0, .int .u64 0] 24)) = w0 at *
  refine (KN.out _).mono ?_
  rintro e w1 ⟨rfl, rfl⟩
  obtain ⟨_, ra, rb, rc, rd⟩ := (KB.head).two
  go_wp2
  obtain ⟨_, P0, P1, _, _⟩ := ((KB.head).self2 (.int .i64 0) (.int .u64 0)).two
  have HB := (KB.hb.setCell (p := ⟨w.heap.size + 1 + 1, 0, none⟩) (by show _ ≤ w.heap.size + 1 + 1; omega) (.int .i64 0)).setCell (p := ⟨w.heap.size + 1 + 1, 1, none⟩) (by show _ ≤ w.heap.size + 1 + 1; omega) (.int .u64 0)
  exact bodyPost_ret (v := .tuple #[.agg #[.int .i64 0, .int .u64 0], .int .i64 1]) (by simp [results, Try.results9, go_sem, P0, P1]) rfl (⟨rfl, HB⟩)
set_option maxRecDepth 100000 in
set_option maxHeartbeats 8000000 in
theorem to_least (a b m s : Int) (hs : s ≤ 0) (KN : Hid (∀ W, Calls Try.prog 25 #[.int .i64 m] W (fun e w' => e = .returned (.bool true) ∧ W = w'))) (SG : Hid (∀ W, Calls Try.prog 26 #[.agg #[.int .i64 (hiW b), .int .u64 (loW b)]] W (RetV W (.int .i64 s)))) (w : World) :
    Calls Try.prog 9 #[.agg #[.int .i64 (hiW a), .int .u64 (loW a)], .agg #[.int .i64 (hiW b), .int .u64 (loW b)], .int .i64 m] w (fun o w' => o = .returned (.tuple #[.agg #[.int .i64 0, .int .u64 0], .int .i64 1]) ∧ Below w.heap.size w w') := by
  go_enter Try.func9, Try.ntmps9
  go_wp2_with fail
  have KB := ((((BK.nil w).more2 (.int .i64 (hiW a)) (.int .u64 (loW a)) 24).more2 (.int .i64 (hiW b)) (.int .u64 (loW b)) 24).more2 (.int .i64 0) (.int .u64 0) 24)
  try simp only [World.size_alloc] at KB
  generalize (((w.alloc (.cells #[.int .i64 (hiW a), .int .u64 (loW a)] 24)).alloc (.cells #[.int .i64 (hiW b), .int .u64 (loW b)] 24)).alloc (.cells #[.int .i64 0, .int .u64 0] 24)) = w0 at *
  refine (KN.out _).mono ?_
  rintro e w1 ⟨rfl, rfl⟩
  obtain ⟨_, ba, bb, bc, bd⟩ := (KB.tail.head).two
  go_wp2_with fail
  clear ba bb bc bd
  refine (SG.out _).mono ?_
  rintro e w1 ⟨rfl, k⟩
  replace KB := KB.below k
  clear k
  obtain ⟨_, ra, rb, rc, rd⟩ := (KB.head).two
  go_wp2
  obtain ⟨_, P0, P1, _, _⟩ := ((KB.head).self2 (.int .i64 0) (.int .u64 0)).two
  have HB := (KB.hb.setCell (p := ⟨w.heap.size + 1 + 1, 0, none⟩) (by show _ ≤ w.heap.size + 1 + 1; omega) (.int .i64 0)).setCell (p := ⟨w.heap.size + 1 + 1, 1, none⟩) (by show _ ≤ w.heap.size + 1 + 1; omega) (.int .u64 0)
  exact bodyPost_ret (v := .tuple #[.agg #[.int .i64 0, .int .u64 0], .int .i64 1]) (by simp [results, Try.results9, go_sem, P0, P1]) rfl (⟨rfl, HB⟩)
set_option maxRecDepth 100000 in
set_option maxHeartbeats 8000000 in
theorem to_down (a b m s q r x y e : Int) (hs : ¬ s ≤ 0) (KN : Hid (∀ W, Calls Try.prog 25 #[.int .i64 m] W (fun e w' => e = .returned (.bool true) ∧ W = w'))) (SG : Hid (∀ W, Calls Try.prog 26 #[.agg #[.int .i64 (hiW b), .int .u64 (loW b)]] W (RetV W (.int .i64 s)))) (FL : Hid (∀ W, Calls Try.prog 27 #[.agg #[.int .i64 (hiW a), .int .u64 (loW a)], .agg #[.int .i64 (hiW b), .int .u64 (loW b)]] W (RetHalves W (hiW q) (loW q) (hiW r) (loW r) 0))) (RI : Hid (∀ W, Calls Try.prog 28 #[.agg #[.int .i64 (hiW q), .int .u64 (loW q)], .agg #[.int .i64 (hiW r), .int .u64 (loW r)], .agg #[.int .i64 (hiW b), .int .u64 (loW b)], .int .i64 m] W (RetV W (.bool false)))) (S2 : Hid (∀ W, Calls Try.prog 29 #[.agg #[.int .i64 (hiW a), .int .u64 (loW a)], .agg #[.int .i64 (hiW r), .int .u64 (loW r)]] W (fun o w' => o = .returned (.tuple #[.agg #[.int .i64 x, .int .u64 y], .int .i64 e]) ∧ Below W.heap.size W w'))) (w : World) :
    Calls Try.prog 9 #[.agg #[.int .i64 (hiW a), .int .u64 (loW a)], .agg #[.int .i64 (hiW b), .int .u64 (loW b)], .int .i64 m] w (fun o w' => o = .returned (.tuple #[.agg #[.int .i64 x, .int .u64 y], .int .i64 e]) ∧ Below w.heap.size w w') := by
  go_enter Try.func9, Try.ntmps9
  go_wp2_with fail
  have KB := ((((BK.nil w).more2 (.int .i64 (hiW a)) (.int .u64 (loW a)) 24).more2 (.int .i64 (hiW b)) (.int .u64 (loW b)) 24).more2 (.int .i64 0) (.int .u64 0) 24)
  try simp only [World.size_alloc] at KB
  generalize (((w.alloc (.cells #[.int .i64 (hiW a), .int .u64 (loW a)] 24)).alloc (.cells #[.int .i64 (hiW b), .int .u64 (loW b)] 24)).alloc (.cells #[.int .i64 0, .int .u64 0] 24)) = w0 at *
  refine (KN.out _).mono ?_
  rintro e w1 ⟨rfl, rfl⟩
  obtain ⟨_, ba, bb, bc, bd⟩ := (KB.tail.head).two
  go_wp2_with fail
  clear ba bb bc bd
  refine (SG.out _).mono ?_
  rintro e w1 ⟨rfl, k⟩
  replace KB := KB.below k
  clear k
  obtain ⟨_, aa, ab, ac, ad⟩ := (KB.tail.tail.head).two
  obtain ⟨_, ba, bb, bc, bd⟩ := (KB.tail.head).two
  go_wp2_with fail
  clear aa ab ac ad ba bb bc bd
  refine (FL.out _).mono ?_
  rintro e w2 ⟨rfl, k⟩
  replace KB := KB.below k
  clear k
  go_upto_region 4 with (fail)
  have hlg := KB.head.lt
  replace KB := ((KB.more2 (.int .i64 (hiW q)) (.int .u64 (loW q)) 24).more2 (.int .i64 (hiW r)) (.int .u64 (loW r)) 24)
  rw [World.size_alloc] at KB
  generalize ((w2.alloc (.cells #[.int .i64 (hiW q), .int .u64 (loW q)] 24)).alloc (.cells #[.int .i64 (hiW r), .int .u64 (loW r)] 24)) = w3 at *
  have ig00 : w2.heap.size ≠ w.heap.size + 1 + 1 := by omega
  have ig01 : w2.heap.size + 1 ≠ w.heap.size + 1 + 1 := by omega
  have ig10 : w2.heap.size ≠ w.heap.size + 1 := by omega
  have ig11 : w2.heap.size + 1 ≠ w.heap.size + 1 := by omega
  have ig20 : w2.heap.size ≠ w.heap.size := by omega
  have ig21 : w2.heap.size + 1 ≠ w.heap.size := by omega
  generalize w2.heap.size = g at *
  obtain ⟨_, ra, rb, rc, rd⟩ := (KB.head).two
  obtain ⟨_, qa, qb, qc, qd⟩ := (KB.tail.head).two
  obtain ⟨_, ba, bb, bc, bd⟩ := (KB.tail.tail.tail.head).two
  go_wp2_with fail
  clear ra rb rc rd qa qb qc qd ba bb bc bd
  refine (RI.out _).mono ?_
  rintro e w4 ⟨rfl, k⟩
  replace KB := KB.below k
  clear k
  obtain ⟨_, ra, rb, rc, rd⟩ := (KB.head).two
  obtain ⟨_, aa, ab, ac, ad⟩ := (KB.tail.tail.tail.tail.head).two
  go_wp2_with fail
  clear ra rb rc rd aa ab ac ad
  refine (S2.out _).mono ?_
  rintro e w5 ⟨rfl, k⟩
  replace KB := KB.below k
  clear k
  obtain ⟨_, za, zb, zc, zd⟩ := (KB.tail.tail.head).two
  go_wp2
  obtain ⟨_, P0, P1, _, _⟩ := ((KB.tail.tail.head).self2 (.int .i64 x) (.int .u64 y)).two
  have HB := (KB.hb.setCell (p := ⟨w.heap.size + 1 + 1, 0, none⟩) (by show _ ≤ w.heap.size + 1 + 1; omega) (.int .i64 x)).setCell (p := ⟨w.heap.size + 1 + 1, 1, none⟩) (by show _ ≤ w.heap.size + 1 + 1; omega) (.int .u64 y)
  exact bodyPost_ret (v := .tuple #[.agg #[.int .i64 x, .int .u64 y], .int .i64 e]) (by simp [results, Try.results9, go_sem, P0, P1]) rfl (⟨rfl, HB⟩)
set_option maxRecDepth 100000 in
set_option maxHeartbeats 8000000 in
theorem to_up (a b m s q r t x y e : Int) (hs : ¬ s ≤ 0) (KN : Hid (∀ W, Calls Try.prog 25 #[.int .i64 m] W (fun e w' => e = .returned (.bool true) ∧ W = w'))) (SG : Hid (∀ W, Calls Try.prog 26 #[.agg #[.int .i64 (hiW b), .int .u64 (loW b)]] W (RetV W (.int .i64 s)))) (FL : Hid (∀ W, Calls Try.prog 27 #[.agg #[.int .i64 (hiW a), .int .u64 (loW a)], .agg #[.int .i64 (hiW b), .int .u64 (loW b)]] W (RetHalves W (hiW q) (loW q) (hiW r) (loW r) 0))) (RI : Hid (∀ W, Calls Try.prog 28 #[.agg #[.int .i64 (hiW q), .int .u64 (loW q)], .agg #[.int .i64 (hiW r), .int .u64 (loW r)], .agg #[.int .i64 (hiW b), .int .u64 (loW b)], .int .i64 m] W (RetV W (.bool true)))) (S1 : Hid (∀ W, Calls Try.prog 29 #[.agg #[.int .i64 (hiW r), .int .u64 (loW r)], .agg #[.int .i64 (hiW b), .int .u64 (loW b)]] W (fun e w' => e = .returned (.tuple #[.agg #[.int .i64 (hiW t), .int .u64 (loW t)], .int .i64 0]) ∧ Below W.heap.size W w'))) (S2 : Hid (∀ W, Calls Try.prog 29 #[.agg #[.int .i64 (hiW a), .int .u64 (loW a)], .agg #[.int .i64 (hiW t), .int .u64 (loW t)]] W (fun o w' => o = .returned (.tuple #[.agg #[.int .i64 x, .int .u64 y], .int .i64 e]) ∧ Below W.heap.size W w'))) (w : World) :
    Calls Try.prog 9 #[.agg #[.int .i64 (hiW a), .int .u64 (loW a)], .agg #[.int .i64 (hiW b), .int .u64 (loW b)], .int .i64 m] w (fun o w' => o = .returned (.tuple #[.agg #[.int .i64 x, .int .u64 y], .int .i64 e]) ∧ Below w.heap.size w w') := by
  go_enter Try.func9, Try.ntmps9
  go_wp2_with fail
  have KB := ((((BK.nil w).more2 (.int .i64 (hiW a)) (.int .u64 (loW a)) 24).more2 (.int .i64 (hiW b)) (.int .u64 (loW b)) 24).more2 (.int .i64 0) (.int .u64 0) 24)
  try simp only [World.size_alloc] at KB
  generalize (((w.alloc (.cells #[.int .i64 (hiW a), .int .u64 (loW a)] 24)).alloc (.cells #[.int .i64 (hiW b), .int .u64 (loW b)] 24)).alloc (.cells #[.int .i64 0, .int .u64 0] 24)) = w0 at *
  refine (KN.out _).mono ?_
  rintro e w1 ⟨rfl, rfl⟩
  obtain ⟨_, ba, bb, bc, bd⟩ := (KB.tail.head).two
  go_wp2_with fail
  clear ba bb bc bd
  refine (SG.out _).mono ?_
  rintro e w1 ⟨rfl, k⟩
  replace KB := KB.below k
  clear k
  obtain ⟨_, aa, ab, ac, ad⟩ := (KB.tail.tail.head).two
  obtain ⟨_, ba, bb, bc, bd⟩ := (KB.tail.head).two
  go_wp2_with fail
  clear aa ab ac ad ba bb bc bd
  refine (FL.out _).mono ?_
  rintro e w2 ⟨rfl, k⟩
  replace KB := KB.below k
  clear k
  go_upto_region 4 with (fail)
  have hlg := KB.head.lt
  replace KB := ((KB.more2 (.int .i64 (hiW q)) (.int .u64 (loW q)) 24).more2 (.int .i64 (hiW r)) (.int .u64 (loW r)) 24)
  rw [World.size_alloc] at KB
  generalize ((w2.alloc (.cells #[.int .i64 (hiW q), .int .u64 (loW q)] 24)).alloc (.cells #[.int .i64 (hiW r), .int .u64 (loW r)] 24)) = w3 at *
  have ig00 : w2.heap.size ≠ w.heap.size + 1 + 1 := by omega
  have ig01 : w2.heap.size + 1 ≠ w.heap.size + 1 + 1 := by omega
  have ig10 : w2.heap.size ≠ w.heap.size + 1 := by omega
  have ig11 : w2.heap.size + 1 ≠ w.heap.size + 1 := by omega
  have ig20 : w2.heap.size ≠ w.heap.size := by omega
  have ig21 : w2.heap.size + 1 ≠ w.heap.size := by omega
  generalize w2.heap.size = g at *
  obtain ⟨_, ra, rb, rc, rd⟩ := (KB.head).two
  obtain ⟨_, qa, qb, qc, qd⟩ := (KB.tail.head).two
  obtain ⟨_, ba, bb, bc, bd⟩ := (KB.tail.tail.tail.head).two
  go_wp2_with fail
  clear ra rb rc rd qa qb qc qd ba bb bc bd
  refine (RI.out _).mono ?_
  rintro e w4 ⟨rfl, k⟩
  replace KB := KB.below k
  clear k
  obtain ⟨_, ra, rb, rc, rd⟩ := (KB.head).two
  obtain ⟨_, ba, bb, bc, bd⟩ := (KB.tail.tail.tail.head).two
  go_wp2_with fail
  clear ra rb rc rd ba bb bc bd
  refine (S1.out _).mono ?_
  rintro e w5 ⟨rfl, k⟩
  replace KB := KB.below k
  clear k
  obtain ⟨_, ra, rb, rc, rd⟩ := (KB.head).two
  obtain ⟨_, aa, ab, ac, ad⟩ := (KB.tail.tail.tail.tail.head).two
  go_wp2_with fail
  clear ra rb rc rd aa ab ac ad
  replace KB := KB.put2 (.int .i64 (hiW t)) (.int .u64 (loW t)) (by omega) (by intro z hz; simp only [List.mem_cons, List.not_mem_nil, or_false] at hz; rcases hz with rfl | rfl | rfl | rfl <;> (show _ ≠ _; omega))
  generalize (w5.setCell ⟨g + 1, 0, none⟩ (.int .i64 (hiW t))).setCell ⟨g + 1, 1, none⟩ (.int .u64 (loW t)) = w6 at *
  refine (S2.out _).mono ?_
  rintro e w7 ⟨rfl, k⟩
  replace KB := KB.below k
  clear k
  obtain ⟨_, za, zb, zc, zd⟩ := (KB.tail.tail.head).two
  go_wp2
  obtain ⟨_, P0, P1, _, _⟩ := ((KB.tail.tail.head).self2 (.int .i64 x) (.int .u64 y)).two
  have HB := (KB.hb.setCell (p := ⟨w.heap.size + 1 + 1, 0, none⟩) (by show _ ≤ w.heap.size + 1 + 1; omega) (.int .i64 x)).setCell (p := ⟨w.heap.size + 1 + 1, 1, none⟩) (by show _ ≤ w.heap.size + 1 + 1; omega) (.int .u64 y)
  exact bodyPost_ret (v := .tuple #[.agg #[.int .i64 x, .int .u64 y], .int .i64 e]) (by simp [results, Try.results9, go_sem, P0, P1]) rfl (⟨rfl, HB⟩)
set_option maxRecDepth 100000 in
set_option maxHeartbeats 8000000 in
theorem ratio_mode (a b m : Int) (KN : Hid (∀ W, Calls Try.prog 25 #[.int .i64 m] W (fun e w' => e = .returned (.bool false) ∧ W = w'))) (w : World) :
    Calls Try.prog 12 #[.agg #[.int .i64 (hiW a), .int .u64 (loW a)], .agg #[.int .i64 (hiW b), .int .u64 (loW b)], .int .i64 m] w (fun o w' => o = .returned (.tuple #[.agg #[.int .i64 0, .int .u64 0], .int .i64 1]) ∧ Below w.heap.size w w') := by
  go_enter Try.func12, Try.ntmps12
  go_wp2_with fail
  have KB := ((((BK.nil w).more2 (.int .i64 (hiW a)) (.int .u64 (loW a)) 24).more2 (.int .i64 (hiW b)) (.int .u64 (loW b)) 24).more2 (.int .i64 0) (.int .u64 0) 24)
  try simp only [World.size_alloc] at KB
  generalize (((w.alloc (.cells #[.int .i64 (hiW a), .int .u64 (loW a)] 24)).alloc (.cells #[.int .i64 (hiW b), .int .u64 (loW b)] 24)).alloc (.cells #[.int .i64 0, .int .u64 0] 24)) = w0 at *
  refine (KN.out _).mono ?_
  rintro e w1 ⟨rfl, rfl⟩
  obtain ⟨_, ra, rb, rc, rd⟩ := (KB.head).two
  go_wp2
  obtain ⟨_, P0, P1, _, _⟩ := ((KB.head).self2 (.int .i64 0) (.int .u64 0)).two
  have HB := (KB.hb.setCell (p := ⟨w.heap.size + 1 + 1, 0, none⟩) (by show _ ≤ w.heap.size + 1 + 1; omega) (.int .i64 0)).setCell (p := ⟨w.heap.size + 1 + 1, 1, none⟩) (by show _ ≤ w.heap.size + 1 + 1; omega) (.int .u64 0)
  exact bodyPost_ret (v := .tuple #[.agg #[.int .i64 0, .int .u64 0], .int .i64 1]) (by simp [results, Try.results12, go_sem, P0, P1]) rfl (⟨rfl, HB⟩)
set_option maxRecDepth 100000 in
set_option maxHeartbeats 8000000 in
theorem ratio_no (a b m e : Int) (he : ¬ e = 0) (KN : Hid (∀ W, Calls Try.prog 25 #[.int .i64 m] W (fun e w' => e = .returned (.bool true) ∧ W = w'))) (FL : Hid (∀ W, Calls Try.prog 27 #[.agg #[.int .i64 (hiW a), .int .u64 (loW a)], .agg #[.int .i64 (hiW b), .int .u64 (loW b)]] W (RetHalves W 0 0 0 0 e))) (w : World) :
    Calls Try.prog 12 #[.agg #[.int .i64 (hiW a), .int .u64 (loW a)], .agg #[.int .i64 (hiW b), .int .u64 (loW b)], .int .i64 m] w (fun o w' => o = .returned (.tuple #[.agg #[.int .i64 0, .int .u64 0], .int .i64 e]) ∧ Below w.heap.size w w') := by
  have he' : (e == 0) = false := by rw [beq_eq_false_iff_ne]; exact he
  go_enter Try.func12, Try.ntmps12
  go_wp2_with fail
  have KB := ((((BK.nil w).more2 (.int .i64 (hiW a)) (.int .u64 (loW a)) 24).more2 (.int .i64 (hiW b)) (.int .u64 (loW b)) 24).more2 (.int .i64 0) (.int .u64 0) 24)
  try simp only [World.size_alloc] at KB
  generalize (((w.alloc (.cells #[.int .i64 (hiW a), .int .u64 (loW a)] 24)).alloc (.cells #[.int .i64 (hiW b), .int .u64 (loW b)] 24)).alloc (.cells #[.int .i64 0, .int .u64 0] 24)) = w0 at *
  refine (KN.out _).mono ?_
  rintro e w1 ⟨rfl, rfl⟩
  obtain ⟨_, aa, ab, ac, ad⟩ := (KB.tail.tail.head).two
  obtain ⟨_, ba, bb, bc, bd⟩ := (KB.tail.head).two
  go_wp2_with fail
  clear aa ab ac ad ba bb bc bd
  refine (FL.out _).mono ?_
  rintro e w2 ⟨rfl, k⟩
  replace KB := KB.below k
  clear k
  go_upto_region 4 with (fail)
  have hlg := KB.head.lt
  replace KB := ((KB.more2 (.int .i64 0) (.int .u64 0) 24).more2 (.int .i64 0) (.int .u64 0) 24)
  rw [World.size_alloc] at KB
  generalize ((w2.alloc (.cells #[.int .i64 0, .int .u64 0] 24)).alloc (.cells #[.int .i64 0, .int .u64 0] 24)) = w3 at *
  have ig00 : w2.heap.size ≠ w.heap.size + 1 + 1 := by omega
  have ig01 : w2.heap.size + 1 ≠ w.heap.size + 1 + 1 := by omega
  have ig10 : w2.heap.size ≠ w.heap.size + 1 := by omega
  have ig11 : w2.heap.size + 1 ≠ w.heap.size + 1 := by omega
  have ig20 : w2.heap.size ≠ w.heap.size := by omega
  have ig21 : w2.heap.size + 1 ≠ w.heap.size := by omega
  generalize w2.heap.size = g at *
  obtain ⟨_, qa, qb, qc, qd⟩ := (KB.tail.head).two
  obtain ⟨_, za, zb, zc, zd⟩ := (KB.tail.tail.head).two
  go_wp2
  obtain ⟨_, P0, P1, _, _⟩ := ((KB.tail.tail.head).self2 (.int .i64 0) (.int .u64 0)).two
  have HB := (KB.hb.setCell (p := ⟨w.heap.size + 1 + 1, 0, none⟩) (by show _ ≤ w.heap.size + 1 + 1; omega) (.int .i64 0)).setCell (p := ⟨w.heap.size + 1 + 1, 1, none⟩) (by show _ ≤ w.heap.size + 1 + 1; omega) (.int .u64 0)
  exact bodyPost_ret (v := .tuple #[.agg #[.int .i64 0, .int .u64 0], .int .i64 e]) (by simp [results, Try.results12, go_sem, P0, P1]) rfl (⟨rfl, HB⟩)
set_option maxRecDepth 100000 in
set_option maxHeartbeats 8000000 in
theorem ratio_down (a b m q r : Int) (KN : Hid (∀ W, Calls Try.prog 25 #[.int .i64 m] W (fun e w' => e = .returned (.bool true) ∧ W = w'))) (FL : Hid (∀ W, Calls Try.prog 27 #[.agg #[.int .i64 (hiW a), .int .u64 (loW a)], .agg #[.int .i64 (hiW b), .int .u64 (loW b)]] W (RetHalves W (hiW q) (loW q) (hiW r) (loW r) 0))) (RI : Hid (∀ W, Calls Try.prog 28 #[.agg #[.int .i64 (hiW q), .int .u64 (loW q)], .agg #[.int .i64 (hiW r), .int .u64 (loW r)], .agg #[.int .i64 (hiW b), .int .u64 (loW b)], .int .i64 m] W (RetV W (.bool false)))) (w : World) :
    Calls Try.prog 12 #[.agg #[.int .i64 (hiW a), .int .u64 (loW a)], .agg #[.int .i64 (hiW b), .int .u64 (loW b)], .int .i64 m] w (fun o w' => o = .returned (.tuple #[.agg #[.int .i64 (hiW q), .int .u64 (loW q)], .int .i64 0]) ∧ Below w.heap.size w w') := by
  go_enter Try.func12, Try.ntmps12
  go_wp2_with fail
  have KB := ((((BK.nil w).more2 (.int .i64 (hiW a)) (.int .u64 (loW a)) 24).more2 (.int .i64 (hiW b)) (.int .u64 (loW b)) 24).more2 (.int .i64 0) (.int .u64 0) 24)
  try simp only [World.size_alloc] at KB
  generalize (((w.alloc (.cells #[.int .i64 (hiW a), .int .u64 (loW a)] 24)).alloc (.cells #[.int .i64 (hiW b), .int .u64 (loW b)] 24)).alloc (.cells #[.int .i64 0, .int .u64 0] 24)) = w0 at *
  refine (KN.out _).mono ?_
  rintro e w1 ⟨rfl, rfl⟩
  obtain ⟨_, aa, ab, ac, ad⟩ := (KB.tail.tail.head).two
  obtain ⟨_, ba, bb, bc, bd⟩ := (KB.tail.head).two
  go_wp2_with fail
  clear aa ab ac ad ba bb bc bd
  refine (FL.out _).mono ?_
  rintro e w2 ⟨rfl, k⟩
  replace KB := KB.below k
  clear k
  go_upto_region 4 with (fail)
  have hlg := KB.head.lt
  replace KB := ((KB.more2 (.int .i64 (hiW q)) (.int .u64 (loW q)) 24).more2 (.int .i64 (hiW r)) (.int .u64 (loW r)) 24)
  rw [World.size_alloc] at KB
  generalize ((w2.alloc (.cells #[.int .i64 (hiW q), .int .u64 (loW q)] 24)).alloc (.cells #[.int .i64 (hiW r), .int .u64 (loW r)] 24)) = w3 at *
  have ig00 : w2.heap.size ≠ w.heap.size + 1 + 1 := by omega
  have ig01 : w2.heap.size + 1 ≠ w.heap.size + 1 + 1 := by omega
  have ig10 : w2.heap.size ≠ w.heap.size + 1 := by omega
  have ig11 : w2.heap.size + 1 ≠ w.heap.size + 1 := by omega
  have ig20 : w2.heap.size ≠ w.heap.size := by omega
  have ig21 : w2.heap.size + 1 ≠ w.heap.size := by omega
  generalize w2.heap.size = g at *
  obtain ⟨_, ra, rb, rc, rd⟩ := (KB.head).two
  obtain ⟨_, qa, qb, qc, qd⟩ := (KB.tail.head).two
  obtain ⟨_, ba, bb, bc, bd⟩ := (KB.tail.tail.tail.head).two
  go_wp2_with fail
  clear ra rb rc rd qa qb qc qd ba bb bc bd
  refine (RI.out _).mono ?_
  rintro e w4 ⟨rfl, k⟩
  replace KB := KB.below k
  clear k
  obtain ⟨_, qa, qb, qc, qd⟩ := (KB.tail.head).two
  obtain ⟨_, za, zb, zc, zd⟩ := (KB.tail.tail.head).two
  go_wp2
  obtain ⟨_, P0, P1, _, _⟩ := ((KB.tail.tail.head).self2 (.int .i64 (hiW q)) (.int .u64 (loW q))).two
  have HB := (KB.hb.setCell (p := ⟨w.heap.size + 1 + 1, 0, none⟩) (by show _ ≤ w.heap.size + 1 + 1; omega) (.int .i64 (hiW q))).setCell (p := ⟨w.heap.size + 1 + 1, 1, none⟩) (by show _ ≤ w.heap.size + 1 + 1; omega) (.int .u64 (loW q))
  exact bodyPost_ret (v := .tuple #[.agg #[.int .i64 (hiW q), .int .u64 (loW q)], .int .i64 0]) (by simp [results, Try.results12, go_sem, P0, P1]) rfl (⟨rfl, HB⟩)
set_option maxRecDepth 100000 in
set_option maxHeartbeats 8000000 in
theorem ratio_up (a b m q r x y e : Int) (KN : Hid (∀ W, Calls Try.prog 25 #[.int .i64 m] W (fun e w' => e = .returned (.bool true) ∧ W = w'))) (FL : Hid (∀ W, Calls Try.prog 27 #[.agg #[.int .i64 (hiW a), .int .u64 (loW a)], .agg #[.int .i64 (hiW b), .int .u64 (loW b)]] W (RetHalves W (hiW q) (loW q) (hiW r) (loW r) 0))) (RI : Hid (∀ W, Calls Try.prog 28 #[.agg #[.int .i64 (hiW q), .int .u64 (loW q)], .agg #[.int .i64 (hiW r), .int .u64 (loW r)], .agg #[.int .i64 (hiW b), .int .u64 (loW b)], .int .i64 m] W (RetV W (.bool true)))) (ON : Hid (∀ W, Calls Try.prog 14 #[.int .i64 1] W (RetW W 1))) (AD : Hid (∀ W, Calls Try.prog 33 #[.agg #[.int .i64 (hiW q), .int .u64 (loW q)], .agg #[.int .i64 (hiW 1), .int .u64 (loW 1)]] W (fun o w' => o = .returned (.tuple #[.agg #[.int .i64 x, .int .u64 y], .int .i64 e]) ∧ Below W.heap.size W w'))) (w : World) :
    Calls Try.prog 12 #[.agg #[.int .i64 (hiW a), .int .u64 (loW a)], .agg #[.int .i64 (hiW b), .int .u64 (loW b)], .int .i64 m] w (fun o w' => o = .returned (.tuple #[.agg #[.int .i64 x, .int .u64 y], .int .i64 e]) ∧ Below w.heap.size w w') := by
  go_enter Try.func12, Try.ntmps12
  go_wp2_with fail
  have KB := ((((BK.nil w).more2 (.int .i64 (hiW a)) (.int .u64 (loW a)) 24).more2 (.int .i64 (hiW b)) (.int .u64 (loW b)) 24).more2 (.int .i64 0) (.int .u64 0) 24)
  try simp only [World.size_alloc] at KB
  generalize (((w.alloc (.cells #[.int .i64 (hiW a), .int .u64 (loW a)] 24)).alloc (.cells #[.int .i64 (hiW b), .int .u64 (loW b)] 24)).alloc (.cells #[.int .i64 0, .int .u64 0] 24)) = w0 at *
  refine (KN.out _).mono ?_
  rintro e w1 ⟨rfl, rfl⟩
  obtain ⟨_, aa, ab, ac, ad⟩ := (KB.tail.tail.head).two
  obtain ⟨_, ba, bb, bc, bd⟩ := (KB.tail.head).two
  go_wp2_with fail
  clear aa ab ac ad ba bb bc bd
  refine (FL.out _).mono ?_
  rintro e w2 ⟨rfl, k⟩
  replace KB := KB.below k
  clear k
  go_upto_region 4 with (fail)
  have hlg := KB.head.lt
  replace KB := ((KB.more2 (.int .i64 (hiW q)) (.int .u64 (loW q)) 24).more2 (.int .i64 (hiW r)) (.int .u64 (loW r)) 24)
  rw [World.size_alloc] at KB
  generalize ((w2.alloc (.cells #[.int .i64 (hiW q), .int .u64 (loW q)] 24)).alloc (.cells #[.int .i64 (hiW r), .int .u64 (loW r)] 24)) = w3 at *
  have ig00 : w2.heap.size ≠ w.heap.size + 1 + 1 := by omega
  have ig01 : w2.heap.size + 1 ≠ w.heap.size + 1 + 1 := by omega
  have ig10 : w2.heap.size ≠ w.heap.size + 1 := by omega
  have ig11 : w2.heap.size + 1 ≠ w.heap.size + 1 := by omega
  have ig20 : w2.heap.size ≠ w.heap.size := by omega
  have ig21 : w2.heap.size + 1 ≠ w.heap.size := by omega
  generalize w2.heap.size = g at *
  obtain ⟨_, ra, rb, rc, rd⟩ := (KB.head).two
  obtain ⟨_, qa, qb, qc, qd⟩ := (KB.tail.head).two
  obtain ⟨_, ba, bb, bc, bd⟩ := (KB.tail.tail.tail.head).two
  go_wp2_with fail
  clear ra rb rc rd qa qb qc qd ba bb bc bd
  refine (RI.out _).mono ?_
  rintro e w4 ⟨rfl, k⟩
  replace KB := KB.below k
  clear k
  go_upto_region 6 with (fail)
  have o1 := Ne.symm ig00
  have o2 : w.heap.size + 1 < g := by omega
  obtain ⟨_, qa, qb, qc, qd⟩ := (KB.tail.head).two
  go_region_held3 (fun w' => w'.cell? ⟨g, 0, none⟩ = some (.int .i64 (hiW q)) ∧ w'.cell? ⟨g, 1, none⟩ = some (.int .u64 (loW q))) (first | (with_reducible exact ⟨(KB.tail.head).two.2.1, (KB.tail.head).two.2.2.1⟩) | (with_reducible exact ⟨(KB.drew.tail.head).two.2.1, (KB.drew.tail.head).two.2.2.1⟩) | go_keep)
    (first
      | (go_at_call 14; (with_reducible refine (ON.out _).mono ?_); rintro e W9 ⟨rfl, k⟩
         with_reducible (first | replace KB := KB.below k | replace KB := KB.drew.below k)
         clear k
         obtain ⟨_, ka, kb, _, _⟩ := (KB.tail.head).two
         obtain ⟨_, kc, kd, ke, kf⟩ := (KB.tail.tail.head).two)
      | (go_at_call 33; (with_reducible refine (AD.out _).mono ?_); rintro e W9 ⟨rfl, k⟩
         with_reducible (first | replace KB := KB.below k | replace KB := KB.drew.below k)
         clear k
         obtain ⟨_, ka, kb, _, _⟩ := (KB.tail.head).two
         obtain ⟨_, kc, kd, ke, kf⟩ := (KB.tail.tail.head).two))
  all_goals
    go_wp2_with fail
    obtain ⟨_, P0, P1, _, _⟩ := ((KB.tail.tail.head).self2 (.int .i64 x) (.int .u64 y)).two
    have HB := (KB.hb.setCell (p := ⟨w.heap.size + 1 + 1, 0, none⟩) (by show _ ≤ w.heap.size + 1 + 1; omega) (.int .i64 x)).setCell (p := ⟨w.heap.size + 1 + 1, 1, none⟩) (by show _ ≤ w.heap.size + 1 + 1; omega) (.int .u64 y)
    exact bodyPost_ret (v := .tuple #[.agg #[.int .i64 x, .int .u64 y], .int .i64 e]) (by simp [results, Try.results12, go_sem, P0, P1]) rfl (⟨rfl, HB⟩)
end Go.Proofs.Ytnopgdheffnfdaa
