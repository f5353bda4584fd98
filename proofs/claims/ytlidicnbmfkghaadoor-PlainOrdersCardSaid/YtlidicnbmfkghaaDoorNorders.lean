/- The walk of PlainOrders: at any two date-times and any wide number it returns true; what was there is as it was. -/
import Derived.Test.YtlidicnbmfkghaaDoorPalive
import Derived.Test.YtlidicnbmfkghaaDoorPmath
import Derived.Deep.RegionHeld3
namespace Go.Proofs.YtlidicnbmfkghaaDoor
open Go.RowKit

set_option maxRecDepth 100000 in
set_option maxHeartbeats 8000000 in
theorem orders7_fv_bad (y m d h i s n y' m' d' h' i' s' n' a n0 n1 m0 m1 : Int) (b : Bool) (N1 : Hid (∀ W, Tabs W → Calls Tryd.prog 8 #[.agg #[.int .i64 (y), .int .i64 (m), .int .i64 (d), .int .i64 (h), .int .i64 (i), .int .i64 (s), .int .i64 (n)]] W (fun o w' => o = .returned (.tuple #[.agg #[.int .i64 (n0), .int .u64 (n1)], .bool false]) ∧ Below W.heap.size W w'))) (N2 : Hid (∀ W, Tabs W → Calls Tryd.prog 8 #[.agg #[.int .i64 (y'), .int .i64 (m'), .int .i64 (d'), .int .i64 (h'), .int .i64 (i'), .int .i64 (s'), .int .i64 (n')]] W (fun o w' => o = .returned (.tuple #[.agg #[.int .i64 (m0), .int .u64 (m1)], .bool b]) ∧ Below W.heap.size W w'))) (AL : Hid (∀ W, Tabs W → Calls Tryd.prog 15 #[] W (fun o w' => o = .returned (.bool true) ∧ Below W.heap.size W w'))) (AD : Hid (∀ W, Tabs W → Calls Tryd.prog 17 #[.agg #[.int .i64 (y), .int .i64 (m), .int .i64 (d), .int .i64 (h), .int .i64 (i), .int .i64 (s), .int .i64 (n)], .agg #[.int .i64 (hiW a), .int .u64 (loW a)]] W (fun o w' => o = .returned (.tuple #[.agg #[.int .i64 (0), .int .i64 (0), .int .i64 (0), .int .i64 (0), .int .i64 (0), .int .i64 (0), .int .i64 (0)], .int .i64 (1)]) ∧ Below W.heap.size W w'))) (w : World) (L : Tabs w) :
    Calls Tryd.prog 6 #[.agg #[.int .i64 (y), .int .i64 (m), .int .i64 (d), .int .i64 (h), .int .i64 (i), .int .i64 (s), .int .i64 (n)], .agg #[.int .i64 (y'), .int .i64 (m'), .int .i64 (d'), .int .i64 (h'), .int .i64 (i'), .int .i64 (s'), .int .i64 (n')], .agg #[.int .i64 (hiW a), .int .u64 (loW a)]] w (RetV w (.bool true)) := by
  go_enter Tryd.func6, Tryd.ntmps6
  go_upto_region 1 with (fail)
  have KB := ((((BK.nil w).more7 (.int .i64 (y)) (.int .i64 (m)) (.int .i64 (d)) (.int .i64 (h)) (.int .i64 (i)) (.int .i64 (s)) (.int .i64 (n)) 27).more7 (.int .i64 (y')) (.int .i64 (m')) (.int .i64 (d')) (.int .i64 (h')) (.int .i64 (i')) (.int .i64 (s')) (.int .i64 (n')) 27).more2 (.int .i64 (hiW a)) (.int .u64 (loW a)) 30)
  simp only [World.size_alloc] at KB
  generalize (((w.alloc (.cells #[.int .i64 (y), .int .i64 (m), .int .i64 (d), .int .i64 (h), .int .i64 (i), .int .i64 (s), .int .i64 (n)] 27)).alloc (.cells #[.int .i64 (y'), .int .i64 (m'), .int .i64 (d'), .int .i64 (h'), .int .i64 (i'), .int .i64 (s'), .int .i64 (n')] 27)).alloc (.cells #[.int .i64 (hiW a), .int .u64 (loW a)] 30)) = w0 at *
  obtain ⟨_, q0a, q0b, q0c, q0d, q0e, q0f, q0g, _⟩ := (KB.tail.tail.head).seven
  go_wp2_with fail
  clear q0a q0b q0c q0d q0e q0f q0g
  refine (N1.out _ (L.mono KB.hb)).mono ?_
  rintro e w1 ⟨rfl, k⟩
  replace KB := KB.below k
  clear k
  go_upto_region 2 with (fail)
  have if0 : w1.heap.size ≠ w.heap.size + 1 + 1 := Nat.ne_of_gt (KB.head).lt
  have of0 := Ne.symm if0
  have if1 : w1.heap.size ≠ w.heap.size + 1 := Nat.ne_of_gt (KB.tail.head).lt
  have of1 := Ne.symm if1
  have if2 : w1.heap.size ≠ w.heap.size := Nat.ne_of_gt (KB.tail.tail.head).lt
  have of2 := Ne.symm if2
  have ggf : w.heap.size ≤ w1.heap.size := KB.hb.size
  replace KB := KB.more2 (.int .i64 (n0)) (.int .u64 (n1)) 30
  generalize w1.alloc (.cells #[.int .i64 (n0), .int .u64 (n1)] 30) = w2 at *
  generalize w1.heap.size = f at *
  obtain ⟨_, q0a, q0b, q0c, q0d, q0e, q0f, q0g, _⟩ := (KB.tail.tail.head).seven
  go_wp2_with fail
  clear q0a q0b q0c q0d q0e q0f q0g
  refine (N2.out _ (L.mono KB.hb)).mono ?_
  rintro e w3 ⟨rfl, k⟩
  replace KB := KB.below k
  clear k
  go_upto_region 3 with (fail)
  have ig0 : w3.heap.size ≠ f := Nat.ne_of_gt (KB.head).lt
  have og0 := Ne.symm ig0
  have ig1 : w3.heap.size ≠ w.heap.size + 1 + 1 := Nat.ne_of_gt (KB.tail.head).lt
  have og1 := Ne.symm ig1
  have ig2 : w3.heap.size ≠ w.heap.size + 1 := Nat.ne_of_gt (KB.tail.tail.head).lt
  have og2 := Ne.symm ig2
  have ig3 : w3.heap.size ≠ w.heap.size := Nat.ne_of_gt (KB.tail.tail.tail.head).lt
  have og3 := Ne.symm ig3
  have ggg : w.heap.size ≤ w3.heap.size := KB.hb.size
  replace KB := KB.more2 (.int .i64 (m0)) (.int .u64 (m1)) 30
  generalize w3.alloc (.cells #[.int .i64 (m0), .int .u64 (m1)] 30) = w4 at *
  generalize w3.heap.size = g at *
  replace KB := KB.drew
  refine wp_region_noPanic ?_
  refine wp_region_held_drew (S := (fun w' => w'.cell? ⟨g, 0, none⟩ = some (.int .i64 (m0)) ∧ w'.cell? ⟨g, 1, none⟩ = some (.int .u64 (m1)) ∧ w'.cell? ⟨f, 0, none⟩ = some (.int .i64 (n0)) ∧ w'.cell? ⟨f, 1, none⟩ = some (.int .u64 (n1)) ∧ w'.cell? ⟨w.heap.size + 1, 0, none⟩ = some (.int .i64 (y')) ∧ w'.cell? ⟨w.heap.size + 1, 1, none⟩ = some (.int .i64 (m')) ∧ w'.cell? ⟨w.heap.size + 1, 2, none⟩ = some (.int .i64 (d')) ∧ w'.cell? ⟨w.heap.size + 1, 3, none⟩ = some (.int .i64 (h')) ∧ w'.cell? ⟨w.heap.size + 1, 4, none⟩ = some (.int .i64 (i')) ∧ w'.cell? ⟨w.heap.size + 1, 5, none⟩ = some (.int .i64 (s')) ∧ w'.cell? ⟨w.heap.size + 1, 6, none⟩ = some (.int .i64 (n')) ∧ w'.cell? ⟨w.heap.size, 0, none⟩ = some (.int .i64 (y)) ∧ w'.cell? ⟨w.heap.size, 1, none⟩ = some (.int .i64 (m)) ∧ w'.cell? ⟨w.heap.size, 2, none⟩ = some (.int .i64 (d)) ∧ w'.cell? ⟨w.heap.size, 3, none⟩ = some (.int .i64 (h)) ∧ w'.cell? ⟨w.heap.size, 4, none⟩ = some (.int .i64 (i)) ∧ w'.cell? ⟨w.heap.size, 5, none⟩ = some (.int .i64 (s)) ∧ w'.cell? ⟨w.heap.size, 6, none⟩ = some (.int .i64 (n)))) (by kernel_rfl) ⟨(KB.head).two.2.1, (KB.head).two.2.2.1, (KB.tail.head).two.2.1, (KB.tail.head).two.2.2.1, (KB.tail.tail.tail.head).seven.2.1, (KB.tail.tail.tail.head).seven.2.2.1, (KB.tail.tail.tail.head).seven.2.2.2.1, (KB.tail.tail.tail.head).seven.2.2.2.2.1, (KB.tail.tail.tail.head).seven.2.2.2.2.2.1, (KB.tail.tail.tail.head).seven.2.2.2.2.2.2.1, (KB.tail.tail.tail.head).seven.2.2.2.2.2.2.2.1, (KB.tail.tail.tail.tail.head).seven.2.1, (KB.tail.tail.tail.tail.head).seven.2.2.1, (KB.tail.tail.tail.tail.head).seven.2.2.2.1, (KB.tail.tail.tail.tail.head).seven.2.2.2.2.1, (KB.tail.tail.tail.tail.head).seven.2.2.2.2.2.1, (KB.tail.tail.tail.tail.head).seven.2.2.2.2.2.2.1, (KB.tail.tail.tail.tail.head).seven.2.2.2.2.2.2.2.1⟩ (fun hHeld => ?_)
  refine wpAnyH_take (i := 0) (oi := { dst := some 25, op := Op.move (Operand.tmp 8), type := 4, pos := "law.go:64", after := #[], guard := none }) (v := ?_) rfl (by kernel_rfl) (by kernel_rfl) (by kernel_rfl) (fun _ _ _ h => h) (Or.inl ⟨by rfl, ?_⟩) (by assumption) ?_
  rotate_left
  · intro w hSw
    try dsimp only at hSw
    go_simp
    any_goals with_reducible rfl
  try simp only [Act.put, List.setIfInBounds_toArray, List.set_cons_zero, List.set_cons_succ]
  refine wpAnyH_take (i := 1) (oi := { dst := some 26, op := Op.move (Operand.tmp 25), type := 4, pos := "law.go:64", after := #[{ on := 0, ground := Ground.data }], guard := none }) (v := ?_) rfl (by kernel_rfl) (by kernel_rfl) (by kernel_rfl) (fun _ _ _ h => h) (Or.inl ⟨by rfl, ?_⟩) (by assumption) ?_
  rotate_left
  · intro w hSw
    try dsimp only at hSw
    go_simp
    any_goals with_reducible rfl
  try simp only [Act.put, List.setIfInBounds_toArray, List.set_cons_zero, List.set_cons_succ]
  refine wpAnyH_take (i := 2) (oi := { dst := some 27, op := Op.move (Operand.tmp 10), type := 4, pos := "law.go:64", after := #[{ on := 1, ground := Ground.guard }], guard := some (1, true) }) (v := undef) rfl (by kernel_rfl) (by kernel_rfl) (by kernel_rfl) (fun _ _ _ h => h) (Or.inr ⟨by rfl, rfl⟩) (by assumption) ?_
  try simp only [Act.put, List.setIfInBounds_toArray, List.set_cons_zero, List.set_cons_succ]
  refine wpAnyH_take (i := 3) (oi := { dst := some 28, op := Op.pick (Operand.tmp 26) (Operand.tmp 27) (Operand.const (Value.bool false)), type := 4, pos := "law.go:64", after := #[{ on := 1, ground := Ground.data }, { on := 2, ground := Ground.data }], guard := none }) (v := ?_) rfl (by kernel_rfl) (by kernel_rfl) (by kernel_rfl) (fun _ _ _ h => h) (Or.inl ⟨by rfl, ?_⟩) (by assumption) ?_
  rotate_left
  · intro w hSw
    try dsimp only at hSw
    go_simp
    any_goals with_reducible rfl
  try simp only [Act.put, List.setIfInBounds_toArray, List.set_cons_zero, List.set_cons_succ]
  refine wpAnyH_take (i := 4) (oi := { dst := some 29, op := Op.move (Operand.tmp 28), type := 4, pos := "law.go:64", after := #[{ on := 3, ground := Ground.data }, { on := 1, ground := Ground.chain }], guard := none }) (v := ?_) rfl (by kernel_rfl) (by kernel_rfl) (by kernel_rfl) (fun _ _ _ h => h) (Or.inl ⟨by rfl, ?_⟩) (by assumption) ?_
  rotate_left
  · intro w hSw
    try dsimp only at hSw
    go_simp
    any_goals with_reducible rfl
  try simp only [Act.put, List.setIfInBounds_toArray, List.set_cons_zero, List.set_cons_succ]
  refine wpAnyH_take (i := 5) (oi := { dst := some 30, op := Op.load 30 (Operand.tmp 7), type := 30, pos := "law.go:64", after := #[{ on := 4, ground := Ground.guard }], guard := some (4, true) }) (v := undef) rfl (by kernel_rfl) (by kernel_rfl) (by kernel_rfl) (fun _ _ _ h => h) (Or.inr ⟨by rfl, rfl⟩) (by assumption) ?_
  try simp only [Act.put, List.setIfInBounds_toArray, List.set_cons_zero, List.set_cons_succ]
  refine wpAnyH_take (i := 6) (oi := { dst := some 31, op := Op.load 30 (Operand.tmp 9), type := 30, pos := "law.go:64", after := #[{ on := 4, ground := Ground.guard }], guard := some (4, true) }) (v := undef) rfl (by kernel_rfl) (by kernel_rfl) (by kernel_rfl) (fun _ _ _ h => h) (Or.inr ⟨by rfl, rfl⟩) (by assumption) ?_
  try simp only [Act.put, List.setIfInBounds_toArray, List.set_cons_zero, List.set_cons_succ]
  refine wpAnyH_take (i := 7) (oi := { dst := some 32, op := Op.call { callee := Callee.value (Operand.func 24), args := #[Operand.tmp 30, Operand.tmp 31], argTypes := #[30, 30] }, type := 3, pos := "law.go:64", after := #[{ on := 5, ground := Ground.data }, { on := 6, ground := Ground.data }, { on := 4, ground := Ground.chain }, { on := 4, ground := Ground.guard }], guard := some (4, true) }) (v := undef) rfl (by kernel_rfl) (by kernel_rfl) (by kernel_rfl) (fun _ _ _ h => h) (Or.inr ⟨by rfl, rfl⟩) (by assumption) ?_
  try simp only [Act.put, List.setIfInBounds_toArray, List.set_cons_zero, List.set_cons_succ]
  refine wpAnyH_take (i := 8) (oi := { dst := some 33, op := Op.load 27 (Operand.tmp 3), type := 27, pos := "law.go:64", after := #[{ on := 4, ground := Ground.guard }], guard := some (4, true) }) (v := undef) rfl (by kernel_rfl) (by kernel_rfl) (by kernel_rfl) (fun _ _ _ h => h) (Or.inr ⟨by rfl, rfl⟩) (by assumption) ?_
  try simp only [Act.put, List.setIfInBounds_toArray, List.set_cons_zero, List.set_cons_succ]
  refine wpAnyH_take (i := 9) (oi := { dst := some 34, op := Op.load 27 (Operand.tmp 4), type := 27, pos := "law.go:64", after := #[{ on := 4, ground := Ground.guard }], guard := some (4, true) }) (v := undef) rfl (by kernel_rfl) (by kernel_rfl) (by kernel_rfl) (fun _ _ _ h => h) (Or.inr ⟨by rfl, rfl⟩) (by assumption) ?_
  try simp only [Act.put, List.setIfInBounds_toArray, List.set_cons_zero, List.set_cons_succ]
  refine wpAnyH_take (i := 10) (oi := { dst := some 35, op := Op.call { callee := Callee.value (Operand.func 20), args := #[Operand.tmp 33, Operand.tmp 34], argTypes := #[27, 27] }, type := 3, pos := "law.go:64", after := #[{ on := 8, ground := Ground.data }, { on := 9, ground := Ground.data }, { on := 7, ground := Ground.chain }, { on := 4, ground := Ground.guard }], guard := some (4, true) }) (v := undef) rfl (by kernel_rfl) (by kernel_rfl) (by kernel_rfl) (fun _ _ _ h => h) (Or.inr ⟨by rfl, rfl⟩) (by assumption) ?_
  try simp only [Act.put, List.setIfInBounds_toArray, List.set_cons_zero, List.set_cons_succ]
  refine wpAnyH_take (i := 11) (oi := { dst := some 36, op := Op.binOp BinOp.neq 3 (Operand.tmp 32) (Operand.tmp 35) 3, type := 4, pos := "law.go:64", after := #[{ on := 7, ground := Ground.data }, { on := 10, ground := Ground.data }, { on := 4, ground := Ground.guard }], guard := some (4, true) }) (v := undef) rfl (by kernel_rfl) (by kernel_rfl) (by kernel_rfl) (fun _ _ _ h => h) (Or.inr ⟨by rfl, rfl⟩) (by assumption) ?_
  try simp only [Act.put, List.setIfInBounds_toArray, List.set_cons_zero, List.set_cons_succ]
  refine wpAnyH_take (i := 12) (oi := { dst := some 37, op := Op.pick (Operand.tmp 29) (Operand.tmp 36) (Operand.const (Value.bool false)), type := 4, pos := "law.go:64", after := #[{ on := 4, ground := Ground.data }, { on := 11, ground := Ground.data }], guard := none }) (v := ?_) rfl (by kernel_rfl) (by kernel_rfl) (by kernel_rfl) (fun _ _ _ h => h) (Or.inl ⟨by rfl, ?_⟩) (by assumption) ?_
  rotate_left
  · intro w hSw
    try dsimp only at hSw
    go_simp
    any_goals with_reducible rfl
  try simp only [Act.put, List.setIfInBounds_toArray, List.set_cons_zero, List.set_cons_succ]
  refine wpAnyH_take (i := 13) (oi := { dst := some 38, op := Op.move (Operand.tmp 37), type := 4, pos := "law.go:64", after := #[{ on := 12, ground := Ground.data }, { on := 10, ground := Ground.chain }], guard := none }) (v := ?_) rfl (by kernel_rfl) (by kernel_rfl) (by kernel_rfl) (fun _ _ _ h => h) (Or.inl ⟨by rfl, ?_⟩) (by assumption) ?_
  rotate_left
  · intro w hSw
    try dsimp only at hSw
    go_simp
    any_goals with_reducible rfl
  try simp only [Act.put, List.setIfInBounds_toArray, List.set_cons_zero, List.set_cons_succ]
  refine wpAnyH_ready (rs := [14]) (by kernel_rfl) (by simp) ?_
  refine AllReadyH.cons (o := { dst := some 39, op := Op.call { callee := Callee.value (Operand.func 15), args := #[], argTypes := #[] }, type := 4, pos := "law.go:64", after := #[{ on := 13, ground := Ground.chain }, { on := 13, ground := Ground.guard }], guard := some (13, false) }) rfl (fun K hK => ?_) AllReadyH.nil
  go_simp
  go_at_call 15
  refine (AL.out _ (L.mono KB.hb)).mono ?_
  rintro e W9 ⟨rfl, k⟩
  replace KB := KB.below k
  clear k
  refine hK.out _ _ (⟨(KB.head).two.2.1, (KB.head).two.2.2.1, (KB.tail.head).two.2.1, (KB.tail.head).two.2.2.1, (KB.tail.tail.tail.head).seven.2.1, (KB.tail.tail.tail.head).seven.2.2.1, (KB.tail.tail.tail.head).seven.2.2.2.1, (KB.tail.tail.tail.head).seven.2.2.2.2.1, (KB.tail.tail.tail.head).seven.2.2.2.2.2.1, (KB.tail.tail.tail.head).seven.2.2.2.2.2.2.1, (KB.tail.tail.tail.head).seven.2.2.2.2.2.2.2.1, (KB.tail.tail.tail.tail.head).seven.2.1, (KB.tail.tail.tail.tail.head).seven.2.2.1, (KB.tail.tail.tail.tail.head).seven.2.2.2.1, (KB.tail.tail.tail.tail.head).seven.2.2.2.2.1, (KB.tail.tail.tail.tail.head).seven.2.2.2.2.2.1, (KB.tail.tail.tail.tail.head).seven.2.2.2.2.2.2.1, (KB.tail.tail.tail.tail.head).seven.2.2.2.2.2.2.2.1⟩) (fun hHeld => ?_)
  clear hK K
  try simp only [Act.put, List.setIfInBounds_toArray, List.set_cons_zero, List.set_cons_succ]
  refine wpAnyH_take (i := 15) (oi := { dst := some 40, op := Op.unOp UnOp.not 4 (Operand.tmp 39), type := 4, pos := "law.go:64", after := #[{ on := 14, ground := Ground.data }, { on := 13, ground := Ground.guard }], guard := some (13, false) }) (v := ?_) rfl (by kernel_rfl) (by kernel_rfl) (by kernel_rfl) (fun _ _ _ h => h) (Or.inl ⟨by rfl, ?_⟩) (by assumption) ?_
  rotate_left
  · intro w hSw
    try dsimp only at hSw
    go_simp
    any_goals with_reducible rfl
  try simp only [Act.put, List.setIfInBounds_toArray, List.set_cons_zero, List.set_cons_succ]
  refine wpAnyH_take (i := 16) (oi := { dst := some 41, op := Op.pick (Operand.tmp 38) (Operand.const (Value.bool true)) (Operand.tmp 40), type := 4, pos := "law.go:64", after := #[{ on := 13, ground := Ground.data }, { on := 15, ground := Ground.data }], guard := none }) (v := ?_) rfl (by kernel_rfl) (by kernel_rfl) (by kernel_rfl) (fun _ _ _ h => h) (Or.inl ⟨by rfl, ?_⟩) (by assumption) ?_
  rotate_left
  · intro w hSw
    try dsimp only at hSw
    go_simp
    any_goals with_reducible rfl
  try simp only [Act.put, List.setIfInBounds_toArray, List.set_cons_zero, List.set_cons_succ]
  refine wpAnyH_done (by kernel_rfl) ?_ _
  refine NoPanic.normal ?_
  obtain ⟨_, q0a, q0b, q0c, q0d, q0e, q0f, q0g, _⟩ := (KB.tail.tail.tail.tail.head).seven
  obtain ⟨_, q1a, q1b, _⟩ := (KB.tail.tail.head).two
  go_wp2_with fail
  clear q0a q0b q0c q0d q0e q0f q0g q1a q1b
  refine (AD.out _ (L.mono KB.hb)).mono ?_
  rintro e w5 ⟨rfl, k⟩
  replace KB := KB.below k
  clear k
  go_upto_region 6 with (fail)
  have ix0 : w5.heap.size ≠ g := Nat.ne_of_gt (KB.head).lt
  have ox0 := Ne.symm ix0
  have ix1 : w5.heap.size ≠ f := Nat.ne_of_gt (KB.tail.head).lt
  have ox1 := Ne.symm ix1
  have ix2 : w5.heap.size ≠ w.heap.size + 1 + 1 := Nat.ne_of_gt (KB.tail.tail.head).lt
  have ox2 := Ne.symm ix2
  have ix3 : w5.heap.size ≠ w.heap.size + 1 := Nat.ne_of_gt (KB.tail.tail.tail.head).lt
  have ox3 := Ne.symm ix3
  have ix4 : w5.heap.size ≠ w.heap.size := Nat.ne_of_gt (KB.tail.tail.tail.tail.head).lt
  have ox4 := Ne.symm ix4
  have ggx : w.heap.size ≤ w5.heap.size := KB.hb.size
  replace KB := KB.more7 (.int .i64 (0)) (.int .i64 (0)) (.int .i64 (0)) (.int .i64 (0)) (.int .i64 (0)) (.int .i64 (0)) (.int .i64 (0)) 27
  generalize w5.alloc (.cells #[.int .i64 (0), .int .i64 (0), .int .i64 (0), .int .i64 (0), .int .i64 (0), .int .i64 (0), .int .i64 (0)] 27) = w6 at *
  generalize w5.heap.size = x at *
  obtain ⟨_, q0a, q0b, q0c, q0d, q0e, q0f, q0g, _⟩ := (KB.head).seven
  have HB := KB.hb
  go_wp2
  go_ret
  exact ⟨rfl, HB⟩
set_option maxRecDepth 100000 in
set_option maxHeartbeats 8000000 in
theorem orders7_tf_none (y m d h i s n y' m' d' h' i' s' n' a n0 n1 m0 m1 : Int) (N1 : Hid (∀ W, Tabs W → Calls Tryd.prog 8 #[.agg #[.int .i64 (y), .int .i64 (m), .int .i64 (d), .int .i64 (h), .int .i64 (i), .int .i64 (s), .int .i64 (n)]] W (fun o w' => o = .returned (.tuple #[.agg #[.int .i64 (n0), .int .u64 (n1)], .bool true]) ∧ Below W.heap.size W w'))) (N2 : Hid (∀ W, Tabs W → Calls Tryd.prog 8 #[.agg #[.int .i64 (y'), .int .i64 (m'), .int .i64 (d'), .int .i64 (h'), .int .i64 (i'), .int .i64 (s'), .int .i64 (n')]] W (fun o w' => o = .returned (.tuple #[.agg #[.int .i64 (m0), .int .u64 (m1)], .bool false]) ∧ Below W.heap.size W w'))) (AL : Hid (∀ W, Tabs W → Calls Tryd.prog 15 #[] W (fun o w' => o = .returned (.bool true) ∧ Below W.heap.size W w'))) (AD : Hid (∀ W, Tabs W → Calls Tryd.prog 17 #[.agg #[.int .i64 (y), .int .i64 (m), .int .i64 (d), .int .i64 (h), .int .i64 (i), .int .i64 (s), .int .i64 (n)], .agg #[.int .i64 (hiW a), .int .u64 (loW a)]] W (fun o w' => o = .returned (.tuple #[.agg #[.int .i64 (0), .int .i64 (0), .int .i64 (0), .int .i64 (0), .int .i64 (0), .int .i64 (0), .int .i64 (0)], .int .i64 (4)]) ∧ Below W.heap.size W w'))) (w : World) (L : Tabs w) :
    Calls Tryd.prog 6 #[.agg #[.int .i64 (y), .int .i64 (m), .int .i64 (d), .int .i64 (h), .int .i64 (i), .int .i64 (s), .int .i64 (n)], .agg #[.int .i64 (y'), .int .i64 (m'), .int .i64 (d'), .int .i64 (h'), .int .i64 (i'), .int .i64 (s'), .int .i64 (n')], .agg #[.int .i64 (hiW a), .int .u64 (loW a)]] w (RetV w (.bool true)) := by
  go_enter Tryd.func6, Tryd.ntmps6
  go_upto_region 1 with (fail)
  have KB := ((((BK.nil w).more7 (.int .i64 (y)) (.int .i64 (m)) (.int .i64 (d)) (.int .i64 (h)) (.int .i64 (i)) (.int .i64 (s)) (.int .i64 (n)) 27).more7 (.int .i64 (y')) (.int .i64 (m')) (.int .i64 (d')) (.int .i64 (h')) (.int .i64 (i')) (.int .i64 (s')) (.int .i64 (n')) 27).more2 (.int .i64 (hiW a)) (.int .u64 (loW a)) 30)
  simp only [World.size_alloc] at KB
  generalize (((w.alloc (.cells #[.int .i64 (y), .int .i64 (m), .int .i64 (d), .int .i64 (h), .int .i64 (i), .int .i64 (s), .int .i64 (n)] 27)).alloc (.cells #[.int .i64 (y'), .int .i64 (m'), .int .i64 (d'), .int .i64 (h'), .int .i64 (i'), .int .i64 (s'), .int .i64 (n')] 27)).alloc (.cells #[.int .i64 (hiW a), .int .u64 (loW a)] 30)) = w0 at *
  obtain ⟨_, q0a, q0b, q0c, q0d, q0e, q0f, q0g, _⟩ := (KB.tail.tail.head).seven
  go_wp2_with fail
  clear q0a q0b q0c q0d q0e q0f q0g
  refine (N1.out _ (L.mono KB.hb)).mono ?_
  rintro e w1 ⟨rfl, k⟩
  replace KB := KB.below k
  clear k
  go_upto_region 2 with (fail)
  have if0 : w1.heap.size ≠ w.heap.size + 1 + 1 := Nat.ne_of_gt (KB.head).lt
  have of0 := Ne.symm if0
  have if1 : w1.heap.size ≠ w.heap.size + 1 := Nat.ne_of_gt (KB.tail.head).lt
  have of1 := Ne.symm if1
  have if2 : w1.heap.size ≠ w.heap.size := Nat.ne_of_gt (KB.tail.tail.head).lt
  have of2 := Ne.symm if2
  have ggf : w.heap.size ≤ w1.heap.size := KB.hb.size
  replace KB := KB.more2 (.int .i64 (n0)) (.int .u64 (n1)) 30
  generalize w1.alloc (.cells #[.int .i64 (n0), .int .u64 (n1)] 30) = w2 at *
  generalize w1.heap.size = f at *
  obtain ⟨_, q0a, q0b, q0c, q0d, q0e, q0f, q0g, _⟩ := (KB.tail.tail.head).seven
  go_wp2_with fail
  clear q0a q0b q0c q0d q0e q0f q0g
  refine (N2.out _ (L.mono KB.hb)).mono ?_
  rintro e w3 ⟨rfl, k⟩
  replace KB := KB.below k
  clear k
  go_upto_region 3 with (fail)
  have ig0 : w3.heap.size ≠ f := Nat.ne_of_gt (KB.head).lt
  have og0 := Ne.symm ig0
  have ig1 : w3.heap.size ≠ w.heap.size + 1 + 1 := Nat.ne_of_gt (KB.tail.head).lt
  have og1 := Ne.symm ig1
  have ig2 : w3.heap.size ≠ w.heap.size + 1 := Nat.ne_of_gt (KB.tail.tail.head).lt
  have og2 := Ne.symm ig2
  have ig3 : w3.heap.size ≠ w.heap.size := Nat.ne_of_gt (KB.tail.tail.tail.head).lt
  have og3 := Ne.symm ig3
  have ggg : w.heap.size ≤ w3.heap.size := KB.hb.size
  replace KB := KB.more2 (.int .i64 (m0)) (.int .u64 (m1)) 30
  generalize w3.alloc (.cells #[.int .i64 (m0), .int .u64 (m1)] 30) = w4 at *
  generalize w3.heap.size = g at *
  replace KB := KB.drew
  refine wp_region_noPanic ?_
  refine wp_region_held_drew (S := (fun w' => w'.cell? ⟨g, 0, none⟩ = some (.int .i64 (m0)) ∧ w'.cell? ⟨g, 1, none⟩ = some (.int .u64 (m1)) ∧ w'.cell? ⟨f, 0, none⟩ = some (.int .i64 (n0)) ∧ w'.cell? ⟨f, 1, none⟩ = some (.int .u64 (n1)) ∧ w'.cell? ⟨w.heap.size + 1, 0, none⟩ = some (.int .i64 (y')) ∧ w'.cell? ⟨w.heap.size + 1, 1, none⟩ = some (.int .i64 (m')) ∧ w'.cell? ⟨w.heap.size + 1, 2, none⟩ = some (.int .i64 (d')) ∧ w'.cell? ⟨w.heap.size + 1, 3, none⟩ = some (.int .i64 (h')) ∧ w'.cell? ⟨w.heap.size + 1, 4, none⟩ = some (.int .i64 (i')) ∧ w'.cell? ⟨w.heap.size + 1, 5, none⟩ = some (.int .i64 (s')) ∧ w'.cell? ⟨w.heap.size + 1, 6, none⟩ = some (.int .i64 (n')) ∧ w'.cell? ⟨w.heap.size, 0, none⟩ = some (.int .i64 (y)) ∧ w'.cell? ⟨w.heap.size, 1, none⟩ = some (.int .i64 (m)) ∧ w'.cell? ⟨w.heap.size, 2, none⟩ = some (.int .i64 (d)) ∧ w'.cell? ⟨w.heap.size, 3, none⟩ = some (.int .i64 (h)) ∧ w'.cell? ⟨w.heap.size, 4, none⟩ = some (.int .i64 (i)) ∧ w'.cell? ⟨w.heap.size, 5, none⟩ = some (.int .i64 (s)) ∧ w'.cell? ⟨w.heap.size, 6, none⟩ = some (.int .i64 (n)))) (by kernel_rfl) ⟨(KB.head).two.2.1, (KB.head).two.2.2.1, (KB.tail.head).two.2.1, (KB.tail.head).two.2.2.1, (KB.tail.tail.tail.head).seven.2.1, (KB.tail.tail.tail.head).seven.2.2.1, (KB.tail.tail.tail.head).seven.2.2.2.1, (KB.tail.tail.tail.head).seven.2.2.2.2.1, (KB.tail.tail.tail.head).seven.2.2.2.2.2.1, (KB.tail.tail.tail.head).seven.2.2.2.2.2.2.1, (KB.tail.tail.tail.head).seven.2.2.2.2.2.2.2.1, (KB.tail.tail.tail.tail.head).seven.2.1, (KB.tail.tail.tail.tail.head).seven.2.2.1, (KB.tail.tail.tail.tail.head).seven.2.2.2.1, (KB.tail.tail.tail.tail.head).seven.2.2.2.2.1, (KB.tail.tail.tail.tail.head).seven.2.2.2.2.2.1, (KB.tail.tail.tail.tail.head).seven.2.2.2.2.2.2.1, (KB.tail.tail.tail.tail.head).seven.2.2.2.2.2.2.2.1⟩ (fun hHeld => ?_)
  refine wpAnyH_take (i := 0) (oi := { dst := some 25, op := Op.move (Operand.tmp 8), type := 4, pos := "law.go:64", after := #[], guard := none }) (v := ?_) rfl (by kernel_rfl) (by kernel_rfl) (by kernel_rfl) (fun _ _ _ h => h) (Or.inl ⟨by rfl, ?_⟩) (by assumption) ?_
  rotate_left
  · intro w hSw
    try dsimp only at hSw
    go_simp
    any_goals with_reducible rfl
  try simp only [Act.put, List.setIfInBounds_toArray, List.set_cons_zero, List.set_cons_succ]
  refine wpAnyH_take (i := 1) (oi := { dst := some 26, op := Op.move (Operand.tmp 25), type := 4, pos := "law.go:64", after := #[{ on := 0, ground := Ground.data }], guard := none }) (v := ?_) rfl (by kernel_rfl) (by kernel_rfl) (by kernel_rfl) (fun _ _ _ h => h) (Or.inl ⟨by rfl, ?_⟩) (by assumption) ?_
  rotate_left
  · intro w hSw
    try dsimp only at hSw
    go_simp
    any_goals with_reducible rfl
  try simp only [Act.put, List.setIfInBounds_toArray, List.set_cons_zero, List.set_cons_succ]
  refine wpAnyH_take (i := 2) (oi := { dst := some 27, op := Op.move (Operand.tmp 10), type := 4, pos := "law.go:64", after := #[{ on := 1, ground := Ground.guard }], guard := some (1, true) }) (v := ?_) rfl (by kernel_rfl) (by kernel_rfl) (by kernel_rfl) (fun _ _ _ h => h) (Or.inl ⟨by rfl, ?_⟩) (by assumption) ?_
  rotate_left
  · intro w hSw
    try dsimp only at hSw
    go_simp
    any_goals with_reducible rfl
  try simp only [Act.put, List.setIfInBounds_toArray, List.set_cons_zero, List.set_cons_succ]
  refine wpAnyH_take (i := 3) (oi := { dst := some 28, op := Op.pick (Operand.tmp 26) (Operand.tmp 27) (Operand.const (Value.bool false)), type := 4, pos := "law.go:64", after := #[{ on := 1, ground := Ground.data }, { on := 2, ground := Ground.data }], guard := none }) (v := ?_) rfl (by kernel_rfl) (by kernel_rfl) (by kernel_rfl) (fun _ _ _ h => h) (Or.inl ⟨by rfl, ?_⟩) (by assumption) ?_
  rotate_left
  · intro w hSw
    try dsimp only at hSw
    go_simp
    any_goals with_reducible rfl
  try simp only [Act.put, List.setIfInBounds_toArray, List.set_cons_zero, List.set_cons_succ]
  refine wpAnyH_take (i := 4) (oi := { dst := some 29, op := Op.move (Operand.tmp 28), type := 4, pos := "law.go:64", after := #[{ on := 3, ground := Ground.data }, { on := 1, ground := Ground.chain }], guard := none }) (v := ?_) rfl (by kernel_rfl) (by kernel_rfl) (by kernel_rfl) (fun _ _ _ h => h) (Or.inl ⟨by rfl, ?_⟩) (by assumption) ?_
  rotate_left
  · intro w hSw
    try dsimp only at hSw
    go_simp
    any_goals with_reducible rfl
  try simp only [Act.put, List.setIfInBounds_toArray, List.set_cons_zero, List.set_cons_succ]
  refine wpAnyH_take (i := 5) (oi := { dst := some 30, op := Op.load 30 (Operand.tmp 7), type := 30, pos := "law.go:64", after := #[{ on := 4, ground := Ground.guard }], guard := some (4, true) }) (v := undef) rfl (by kernel_rfl) (by kernel_rfl) (by kernel_rfl) (fun _ _ _ h => h) (Or.inr ⟨by rfl, rfl⟩) (by assumption) ?_
  try simp only [Act.put, List.setIfInBounds_toArray, List.set_cons_zero, List.set_cons_succ]
  refine wpAnyH_take (i := 6) (oi := { dst := some 31, op := Op.load 30 (Operand.tmp 9), type := 30, pos := "law.go:64", after := #[{ on := 4, ground := Ground.guard }], guard := some (4, true) }) (v := undef) rfl (by kernel_rfl) (by kernel_rfl) (by kernel_rfl) (fun _ _ _ h => h) (Or.inr ⟨by rfl, rfl⟩) (by assumption) ?_
  try simp only [Act.put, List.setIfInBounds_toArray, List.set_cons_zero, List.set_cons_succ]
  refine wpAnyH_take (i := 7) (oi := { dst := some 32, op := Op.call { callee := Callee.value (Operand.func 24), args := #[Operand.tmp 30, Operand.tmp 31], argTypes := #[30, 30] }, type := 3, pos := "law.go:64", after := #[{ on := 5, ground := Ground.data }, { on := 6, ground := Ground.data }, { on := 4, ground := Ground.chain }, { on := 4, ground := Ground.guard }], guard := some (4, true) }) (v := undef) rfl (by kernel_rfl) (by kernel_rfl) (by kernel_rfl) (fun _ _ _ h => h) (Or.inr ⟨by rfl, rfl⟩) (by assumption) ?_
  try simp only [Act.put, List.setIfInBounds_toArray, List.set_cons_zero, List.set_cons_succ]
  refine wpAnyH_take (i := 8) (oi := { dst := some 33, op := Op.load 27 (Operand.tmp 3), type := 27, pos := "law.go:64", after := #[{ on := 4, ground := Ground.guard }], guard := some (4, true) }) (v := undef) rfl (by kernel_rfl) (by kernel_rfl) (by kernel_rfl) (fun _ _ _ h => h) (Or.inr ⟨by rfl, rfl⟩) (by assumption) ?_
  try simp only [Act.put, List.setIfInBounds_toArray, List.set_cons_zero, List.set_cons_succ]
  refine wpAnyH_take (i := 9) (oi := { dst := some 34, op := Op.load 27 (Operand.tmp 4), type := 27, pos := "law.go:64", after := #[{ on := 4, ground := Ground.guard }], guard := some (4, true) }) (v := undef) rfl (by kernel_rfl) (by kernel_rfl) (by kernel_rfl) (fun _ _ _ h => h) (Or.inr ⟨by rfl, rfl⟩) (by assumption) ?_
  try simp only [Act.put, List.setIfInBounds_toArray, List.set_cons_zero, List.set_cons_succ]
  refine wpAnyH_take (i := 10) (oi := { dst := some 35, op := Op.call { callee := Callee.value (Operand.func 20), args := #[Operand.tmp 33, Operand.tmp 34], argTypes := #[27, 27] }, type := 3, pos := "law.go:64", after := #[{ on := 8, ground := Ground.data }, { on := 9, ground := Ground.data }, { on := 7, ground := Ground.chain }, { on := 4, ground := Ground.guard }], guard := some (4, true) }) (v := undef) rfl (by kernel_rfl) (by kernel_rfl) (by kernel_rfl) (fun _ _ _ h => h) (Or.inr ⟨by rfl, rfl⟩) (by assumption) ?_
  try simp only [Act.put, List.setIfInBounds_toArray, List.set_cons_zero, List.set_cons_succ]
  refine wpAnyH_take (i := 11) (oi := { dst := some 36, op := Op.binOp BinOp.neq 3 (Operand.tmp 32) (Operand.tmp 35) 3, type := 4, pos := "law.go:64", after := #[{ on := 7, ground := Ground.data }, { on := 10, ground := Ground.data }, { on := 4, ground := Ground.guard }], guard := some (4, true) }) (v := undef) rfl (by kernel_rfl) (by kernel_rfl) (by kernel_rfl) (fun _ _ _ h => h) (Or.inr ⟨by rfl, rfl⟩) (by assumption) ?_
  try simp only [Act.put, List.setIfInBounds_toArray, List.set_cons_zero, List.set_cons_succ]
  refine wpAnyH_take (i := 12) (oi := { dst := some 37, op := Op.pick (Operand.tmp 29) (Operand.tmp 36) (Operand.const (Value.bool false)), type := 4, pos := "law.go:64", after := #[{ on := 4, ground := Ground.data }, { on := 11, ground := Ground.data }], guard := none }) (v := ?_) rfl (by kernel_rfl) (by kernel_rfl) (by kernel_rfl) (fun _ _ _ h => h) (Or.inl ⟨by rfl, ?_⟩) (by assumption) ?_
  rotate_left
  · intro w hSw
    try dsimp only at hSw
    go_simp
    any_goals with_reducible rfl
  try simp only [Act.put, List.setIfInBounds_toArray, List.set_cons_zero, List.set_cons_succ]
  refine wpAnyH_take (i := 13) (oi := { dst := some 38, op := Op.move (Operand.tmp 37), type := 4, pos := "law.go:64", after := #[{ on := 12, ground := Ground.data }, { on := 10, ground := Ground.chain }], guard := none }) (v := ?_) rfl (by kernel_rfl) (by kernel_rfl) (by kernel_rfl) (fun _ _ _ h => h) (Or.inl ⟨by rfl, ?_⟩) (by assumption) ?_
  rotate_left
  · intro w hSw
    try dsimp only at hSw
    go_simp
    any_goals with_reducible rfl
  try simp only [Act.put, List.setIfInBounds_toArray, List.set_cons_zero, List.set_cons_succ]
  refine wpAnyH_ready (rs := [14]) (by kernel_rfl) (by simp) ?_
  refine AllReadyH.cons (o := { dst := some 39, op := Op.call { callee := Callee.value (Operand.func 15), args := #[], argTypes := #[] }, type := 4, pos := "law.go:64", after := #[{ on := 13, ground := Ground.chain }, { on := 13, ground := Ground.guard }], guard := some (13, false) }) rfl (fun K hK => ?_) AllReadyH.nil
  go_simp
  go_at_call 15
  refine (AL.out _ (L.mono KB.hb)).mono ?_
  rintro e W9 ⟨rfl, k⟩
  replace KB := KB.below k
  clear k
  refine hK.out _ _ (⟨(KB.head).two.2.1, (KB.head).two.2.2.1, (KB.tail.head).two.2.1, (KB.tail.head).two.2.2.1, (KB.tail.tail.tail.head).seven.2.1, (KB.tail.tail.tail.head).seven.2.2.1, (KB.tail.tail.tail.head).seven.2.2.2.1, (KB.tail.tail.tail.head).seven.2.2.2.2.1, (KB.tail.tail.tail.head).seven.2.2.2.2.2.1, (KB.tail.tail.tail.head).seven.2.2.2.2.2.2.1, (KB.tail.tail.tail.head).seven.2.2.2.2.2.2.2.1, (KB.tail.tail.tail.tail.head).seven.2.1, (KB.tail.tail.tail.tail.head).seven.2.2.1, (KB.tail.tail.tail.tail.head).seven.2.2.2.1, (KB.tail.tail.tail.tail.head).seven.2.2.2.2.1, (KB.tail.tail.tail.tail.head).seven.2.2.2.2.2.1, (KB.tail.tail.tail.tail.head).seven.2.2.2.2.2.2.1, (KB.tail.tail.tail.tail.head).seven.2.2.2.2.2.2.2.1⟩) (fun hHeld => ?_)
  clear hK K
  try simp only [Act.put, List.setIfInBounds_toArray, List.set_cons_zero, List.set_cons_succ]
  refine wpAnyH_take (i := 15) (oi := { dst := some 40, op := Op.unOp UnOp.not 4 (Operand.tmp 39), type := 4, pos := "law.go:64", after := #[{ on := 14, ground := Ground.data }, { on := 13, ground := Ground.guard }], guard := some (13, false) }) (v := ?_) rfl (by kernel_rfl) (by kernel_rfl) (by kernel_rfl) (fun _ _ _ h => h) (Or.inl ⟨by rfl, ?_⟩) (by assumption) ?_
  rotate_left
  · intro w hSw
    try dsimp only at hSw
    go_simp
    any_goals with_reducible rfl
  try simp only [Act.put, List.setIfInBounds_toArray, List.set_cons_zero, List.set_cons_succ]
  refine wpAnyH_take (i := 16) (oi := { dst := some 41, op := Op.pick (Operand.tmp 38) (Operand.const (Value.bool true)) (Operand.tmp 40), type := 4, pos := "law.go:64", after := #[{ on := 13, ground := Ground.data }, { on := 15, ground := Ground.data }], guard := none }) (v := ?_) rfl (by kernel_rfl) (by kernel_rfl) (by kernel_rfl) (fun _ _ _ h => h) (Or.inl ⟨by rfl, ?_⟩) (by assumption) ?_
  rotate_left
  · intro w hSw
    try dsimp only at hSw
    go_simp
    any_goals with_reducible rfl
  try simp only [Act.put, List.setIfInBounds_toArray, List.set_cons_zero, List.set_cons_succ]
  refine wpAnyH_done (by kernel_rfl) ?_ _
  refine NoPanic.normal ?_
  obtain ⟨_, q0a, q0b, q0c, q0d, q0e, q0f, q0g, _⟩ := (KB.tail.tail.tail.tail.head).seven
  obtain ⟨_, q1a, q1b, _⟩ := (KB.tail.tail.head).two
  go_wp2_with fail
  clear q0a q0b q0c q0d q0e q0f q0g q1a q1b
  refine (AD.out _ (L.mono KB.hb)).mono ?_
  rintro e w5 ⟨rfl, k⟩
  replace KB := KB.below k
  clear k
  go_upto_region 6 with (fail)
  have ix0 : w5.heap.size ≠ g := Nat.ne_of_gt (KB.head).lt
  have ox0 := Ne.symm ix0
  have ix1 : w5.heap.size ≠ f := Nat.ne_of_gt (KB.tail.head).lt
  have ox1 := Ne.symm ix1
  have ix2 : w5.heap.size ≠ w.heap.size + 1 + 1 := Nat.ne_of_gt (KB.tail.tail.head).lt
  have ox2 := Ne.symm ix2
  have ix3 : w5.heap.size ≠ w.heap.size + 1 := Nat.ne_of_gt (KB.tail.tail.tail.head).lt
  have ox3 := Ne.symm ix3
  have ix4 : w5.heap.size ≠ w.heap.size := Nat.ne_of_gt (KB.tail.tail.tail.tail.head).lt
  have ox4 := Ne.symm ix4
  have ggx : w.heap.size ≤ w5.heap.size := KB.hb.size
  replace KB := KB.more7 (.int .i64 (0)) (.int .i64 (0)) (.int .i64 (0)) (.int .i64 (0)) (.int .i64 (0)) (.int .i64 (0)) (.int .i64 (0)) 27
  generalize w5.alloc (.cells #[.int .i64 (0), .int .i64 (0), .int .i64 (0), .int .i64 (0), .int .i64 (0), .int .i64 (0), .int .i64 (0)] 27) = w6 at *
  generalize w5.heap.size = x at *
  obtain ⟨_, q0a, q0b, q0c, q0d, q0e, q0f, q0g, _⟩ := (KB.head).seven
  have HB := KB.hb
  go_wp2
  go_ret
  exact ⟨rfl, HB⟩
set_option maxRecDepth 100000 in
set_option maxHeartbeats 8000000 in
theorem orders7_tf_yes (y m d h i s n y' m' d' h' i' s' n' a n0 n1 m0 m1 u0 u1 u2 u3 u4 u5 u6 e3 : Int) (N1 : Hid (∀ W, Tabs W → Calls Tryd.prog 8 #[.agg #[.int .i64 (y), .int .i64 (m), .int .i64 (d), .int .i64 (h), .int .i64 (i), .int .i64 (s), .int .i64 (n)]] W (fun o w' => o = .returned (.tuple #[.agg #[.int .i64 (n0), .int .u64 (n1)], .bool true]) ∧ Below W.heap.size W w'))) (N2 : Hid (∀ W, Tabs W → Calls Tryd.prog 8 #[.agg #[.int .i64 (y'), .int .i64 (m'), .int .i64 (d'), .int .i64 (h'), .int .i64 (i'), .int .i64 (s'), .int .i64 (n')]] W (fun o w' => o = .returned (.tuple #[.agg #[.int .i64 (m0), .int .u64 (m1)], .bool false]) ∧ Below W.heap.size W w'))) (AL : Hid (∀ W, Tabs W → Calls Tryd.prog 15 #[] W (fun o w' => o = .returned (.bool true) ∧ Below W.heap.size W w'))) (AD : Hid (∀ W, Tabs W → Calls Tryd.prog 17 #[.agg #[.int .i64 (y), .int .i64 (m), .int .i64 (d), .int .i64 (h), .int .i64 (i), .int .i64 (s), .int .i64 (n)], .agg #[.int .i64 (hiW a), .int .u64 (loW a)]] W (fun o w' => o = .returned (.tuple #[.agg #[.int .i64 (u0), .int .i64 (u1), .int .i64 (u2), .int .i64 (u3), .int .i64 (u4), .int .i64 (u5), .int .i64 (u6)], .int .i64 (0)]) ∧ Below W.heap.size W w'))) (SI : Hid (∀ W, Tabs W → Calls Tryd.prog 19 #[.agg #[.int .i64 (y), .int .i64 (m), .int .i64 (d), .int .i64 (h), .int .i64 (i), .int .i64 (s), .int .i64 (n)], .agg #[.int .i64 (u0), .int .i64 (u1), .int .i64 (u2), .int .i64 (u3), .int .i64 (u4), .int .i64 (u5), .int .i64 (u6)]] W (fun o w' => o = .returned (.tuple #[.agg #[.int .i64 (hiW a), .int .u64 (loW a)], .int .i64 (0)]) ∧ Below W.heap.size W w'))) (CX : Hid (∀ W, Tabs W → Calls Tryd.prog 20 #[.agg #[.int .i64 (u0), .int .i64 (u1), .int .i64 (u2), .int .i64 (u3), .int .i64 (u4), .int .i64 (u5), .int .i64 (u6)], .agg #[.int .i64 (y), .int .i64 (m), .int .i64 (d), .int .i64 (h), .int .i64 (i), .int .i64 (s), .int .i64 (n)]] W (fun o w' => o = .returned (.int .i64 (e3)) ∧ Below W.heap.size W w'))) (SG : Hid (∀ W, Tabs W → Calls Tryd.prog 25 #[.agg #[.int .i64 (hiW a), .int .u64 (loW a)]] W (fun o w' => o = .returned (.int .i64 (e3)) ∧ Below W.heap.size W w'))) (w : World) (L : Tabs w) :
    Calls Tryd.prog 6 #[.agg #[.int .i64 (y), .int .i64 (m), .int .i64 (d), .int .i64 (h), .int .i64 (i), .int .i64 (s), .int .i64 (n)], .agg #[.int .i64 (y'), .int .i64 (m'), .int .i64 (d'), .int .i64 (h'), .int .i64 (i'), .int .i64 (s'), .int .i64 (n')], .agg #[.int .i64 (hiW a), .int .u64 (loW a)]] w (RetV w (.bool true)) := by
  go_enter Tryd.func6, Tryd.ntmps6
  go_upto_region 1 with (fail)
  have KB := ((((BK.nil w).more7 (.int .i64 (y)) (.int .i64 (m)) (.int .i64 (d)) (.int .i64 (h)) (.int .i64 (i)) (.int .i64 (s)) (.int .i64 (n)) 27).more7 (.int .i64 (y')) (.int .i64 (m')) (.int .i64 (d')) (.int .i64 (h')) (.int .i64 (i')) (.int .i64 (s')) (.int .i64 (n')) 27).more2 (.int .i64 (hiW a)) (.int .u64 (loW a)) 30)
  simp only [World.size_alloc] at KB
  generalize (((w.alloc (.cells #[.int .i64 (y), .int .i64 (m), .int .i64 (d), .int .i64 (h), .int .i64 (i), .int .i64 (s), .int .i64 (n)] 27)).alloc (.cells #[.int .i64 (y'), .int .i64 (m'), .int .i64 (d'), .int .i64 (h'), .int .i64 (i'), .int .i64 (s'), .int .i64 (n')] 27)).alloc (.cells #[.int .i64 (hiW a), .int .u64 (loW a)] 30)) = w0 at *
  obtain ⟨_, q0a, q0b, q0c, q0d, q0e, q0f, q0g, _⟩ := (KB.tail.tail.head).seven
  go_wp2_with fail
  clear q0a q0b q0c q0d q0e q0f q0g
  refine (N1.out _ (L.mono KB.hb)).mono ?_
  rintro e w1 ⟨rfl, k⟩
  replace KB := KB.below k
  clear k
  go_upto_region 2 with (fail)
  have if0 : w1.heap.size ≠ w.heap.size + 1 + 1 := Nat.ne_of_gt (KB.head).lt
  have of0 := Ne.symm if0
  have if1 : w1.heap.size ≠ w.heap.size + 1 := Nat.ne_of_gt (KB.tail.head).lt
  have of1 := Ne.symm if1
  have if2 : w1.heap.size ≠ w.heap.size := Nat.ne_of_gt (KB.tail.tail.head).lt
  have of2 := Ne.symm if2
  have ggf : w.heap.size ≤ w1.heap.size := KB.hb.size
  replace KB := KB.more2 (.int .i64 (n0)) (.int .u64 (n1)) 30
  generalize w1.alloc (.cells #[.int .i64 (n0), .int .u64 (n1)] 30) = w2 at *
  generalize w1.heap.size = f at *
  obtain ⟨_, q0a, q0b, q0c, q0d, q0e, q0f, q0g, _⟩ := (KB.tail.tail.head).seven
  go_wp2_with fail
  clear q0a q0b q0c q0d q0e q0f q0g
  refine (N2.out _ (L.mono KB.hb)).mono ?_
  rintro e w3 ⟨rfl, k⟩
  replace KB := KB.below k
  clear k
  go_upto_region 3 with (fail)
  have ig0 : w3.heap.size ≠ f := Nat.ne_of_gt (KB.head).lt
  have og0 := Ne.symm ig0
  have ig1 : w3.heap.size ≠ w.heap.size + 1 + 1 := Nat.ne_of_gt (KB.tail.head).lt
  have og1 := Ne.symm ig1
  have ig2 : w3.heap.size ≠ w.heap.size + 1 := Nat.ne_of_gt (KB.tail.tail.head).lt
  have og2 := Ne.symm ig2
  have ig3 : w3.heap.size ≠ w.heap.size := Nat.ne_of_gt (KB.tail.tail.tail.head).lt
  have og3 := Ne.symm ig3
  have ggg : w.heap.size ≤ w3.heap.size := KB.hb.size
  replace KB := KB.more2 (.int .i64 (m0)) (.int .u64 (m1)) 30
  generalize w3.alloc (.cells #[.int .i64 (m0), .int .u64 (m1)] 30) = w4 at *
  generalize w3.heap.size = g at *
  replace KB := KB.drew
  refine wp_region_noPanic ?_
  refine wp_region_held_drew (S := (fun w' => w'.cell? ⟨g, 0, none⟩ = some (.int .i64 (m0)) ∧ w'.cell? ⟨g, 1, none⟩ = some (.int .u64 (m1)) ∧ w'.cell? ⟨f, 0, none⟩ = some (.int .i64 (n0)) ∧ w'.cell? ⟨f, 1, none⟩ = some (.int .u64 (n1)) ∧ w'.cell? ⟨w.heap.size + 1, 0, none⟩ = some (.int .i64 (y')) ∧ w'.cell? ⟨w.heap.size + 1, 1, none⟩ = some (.int .i64 (m')) ∧ w'.cell? ⟨w.heap.size + 1, 2, none⟩ = some (.int .i64 (d')) ∧ w'.cell? ⟨w.heap.size + 1, 3, none⟩ = some (.int .i64 (h')) ∧ w'.cell? ⟨w.heap.size + 1, 4, none⟩ = some (.int .i64 (i')) ∧ w'.cell? ⟨w.heap.size + 1, 5, none⟩ = some (.int .i64 (s')) ∧ w'.cell? ⟨w.heap.size + 1, 6, none⟩ = some (.int .i64 (n')) ∧ w'.cell? ⟨w.heap.size, 0, none⟩ = some (.int .i64 (y)) ∧ w'.cell? ⟨w.heap.size, 1, none⟩ = some (.int .i64 (m)) ∧ w'.cell? ⟨w.heap.size, 2, none⟩ = some (.int .i64 (d)) ∧ w'.cell? ⟨w.heap.size, 3, none⟩ = some (.int .i64 (h)) ∧ w'.cell? ⟨w.heap.size, 4, none⟩ = some (.int .i64 (i)) ∧ w'.cell? ⟨w.heap.size, 5, none⟩ = some (.int .i64 (s)) ∧ w'.cell? ⟨w.heap.size, 6, none⟩ = some (.int .i64 (n)))) (by kernel_rfl) ⟨(KB.head).two.2.1, (KB.head).two.2.2.1, (KB.tail.head).two.2.1, (KB.tail.head).two.2.2.1, (KB.tail.tail.tail.head).seven.2.1, (KB.tail.tail.tail.head).seven.2.2.1, (KB.tail.tail.tail.head).seven.2.2.2.1, (KB.tail.tail.tail.head).seven.2.2.2.2.1, (KB.tail.tail.tail.head).seven.2.2.2.2.2.1, (KB.tail.tail.tail.head).seven.2.2.2.2.2.2.1, (KB.tail.tail.tail.head).seven.2.2.2.2.2.2.2.1, (KB.tail.tail.tail.tail.head).seven.2.1, (KB.tail.tail.tail.tail.head).seven.2.2.1, (KB.tail.tail.tail.tail.head).seven.2.2.2.1, (KB.tail.tail.tail.tail.head).seven.2.2.2.2.1, (KB.tail.tail.tail.tail.head).seven.2.2.2.2.2.1, (KB.tail.tail.tail.tail.head).seven.2.2.2.2.2.2.1, (KB.tail.tail.tail.tail.head).seven.2.2.2.2.2.2.2.1⟩ (fun hHeld => ?_)
  refine wpAnyH_take (i := 0) (oi := { dst := some 25, op := Op.move (Operand.tmp 8), type := 4, pos := "law.go:64", after := #[], guard := none }) (v := ?_) rfl (by kernel_rfl) (by kernel_rfl) (by kernel_rfl) (fun _ _ _ h => h) (Or.inl ⟨by rfl, ?_⟩) (by assumption) ?_
  rotate_left
  · intro w hSw
    try dsimp only at hSw
    go_simp
    any_goals with_reducible rfl
  try simp only [Act.put, List.setIfInBounds_toArray, List.set_cons_zero, List.set_cons_succ]
  refine wpAnyH_take (i := 1) (oi := { dst := some 26, op := Op.move (Operand.tmp 25), type := 4, pos := "law.go:64", after := #[{ on := 0, ground := Ground.data }], guard := none }) (v := ?_) rfl (by kernel_rfl) (by kernel_rfl) (by kernel_rfl) (fun _ _ _ h => h) (Or.inl ⟨by rfl, ?_⟩) (by assumption) ?_
  rotate_left
  · intro w hSw
    try dsimp only at hSw
    go_simp
    any_goals with_reducible rfl
  try simp only [Act.put, List.setIfInBounds_toArray, List.set_cons_zero, List.set_cons_succ]
  refine wpAnyH_take (i := 2) (oi := { dst := some 27, op := Op.move (Operand.tmp 10), type := 4, pos := "law.go:64", after := #[{ on := 1, ground := Ground.guard }], guard := some (1, true) }) (v := ?_) rfl (by kernel_rfl) (by kernel_rfl) (by kernel_rfl) (fun _ _ _ h => h) (Or.inl ⟨by rfl, ?_⟩) (by assumption) ?_
  rotate_left
  · intro w hSw
    try dsimp only at hSw
    go_simp
    any_goals with_reducible rfl
  try simp only [Act.put, List.setIfInBounds_toArray, List.set_cons_zero, List.set_cons_succ]
  refine wpAnyH_take (i := 3) (oi := { dst := some 28, op := Op.pick (Operand.tmp 26) (Operand.tmp 27) (Operand.const (Value.bool false)), type := 4, pos := "law.go:64", after := #[{ on := 1, ground := Ground.data }, { on := 2, ground := Ground.data }], guard := none }) (v := ?_) rfl (by kernel_rfl) (by kernel_rfl) (by kernel_rfl) (fun _ _ _ h => h) (Or.inl ⟨by rfl, ?_⟩) (by assumption) ?_
  rotate_left
  · intro w hSw
    try dsimp only at hSw
    go_simp
    any_goals with_reducible rfl
  try simp only [Act.put, List.setIfInBounds_toArray, List.set_cons_zero, List.set_cons_succ]
  refine wpAnyH_take (i := 4) (oi := { dst := some 29, op := Op.move (Operand.tmp 28), type := 4, pos := "law.go:64", after := #[{ on := 3, ground := Ground.data }, { on := 1, ground := Ground.chain }], guard := none }) (v := ?_) rfl (by kernel_rfl) (by kernel_rfl) (by kernel_rfl) (fun _ _ _ h => h) (Or.inl ⟨by rfl, ?_⟩) (by assumption) ?_
  rotate_left
  · intro w hSw
    try dsimp only at hSw
    go_simp
    any_goals with_reducible rfl
  try simp only [Act.put, List.setIfInBounds_toArray, List.set_cons_zero, List.set_cons_succ]
  refine wpAnyH_take (i := 5) (oi := { dst := some 30, op := Op.load 30 (Operand.tmp 7), type := 30, pos := "law.go:64", after := #[{ on := 4, ground := Ground.guard }], guard := some (4, true) }) (v := undef) rfl (by kernel_rfl) (by kernel_rfl) (by kernel_rfl) (fun _ _ _ h => h) (Or.inr ⟨by rfl, rfl⟩) (by assumption) ?_
  try simp only [Act.put, List.setIfInBounds_toArray, List.set_cons_zero, List.set_cons_succ]
  refine wpAnyH_take (i := 6) (oi := { dst := some 31, op := Op.load 30 (Operand.tmp 9), type := 30, pos := "law.go:64", after := #[{ on := 4, ground := Ground.guard }], guard := some (4, true) }) (v := undef) rfl (by kernel_rfl) (by kernel_rfl) (by kernel_rfl) (fun _ _ _ h => h) (Or.inr ⟨by rfl, rfl⟩) (by assumption) ?_
  try simp only [Act.put, List.setIfInBounds_toArray, List.set_cons_zero, List.set_cons_succ]
  refine wpAnyH_take (i := 7) (oi := { dst := some 32, op := Op.call { callee := Callee.value (Operand.func 24), args := #[Operand.tmp 30, Operand.tmp 31], argTypes := #[30, 30] }, type := 3, pos := "law.go:64", after := #[{ on := 5, ground := Ground.data }, { on := 6, ground := Ground.data }, { on := 4, ground := Ground.chain }, { on := 4, ground := Ground.guard }], guard := some (4, true) }) (v := undef) rfl (by kernel_rfl) (by kernel_rfl) (by kernel_rfl) (fun _ _ _ h => h) (Or.inr ⟨by rfl, rfl⟩) (by assumption) ?_
  try simp only [Act.put, List.setIfInBounds_toArray, List.set_cons_zero, List.set_cons_succ]
  refine wpAnyH_take (i := 8) (oi := { dst := some 33, op := Op.load 27 (Operand.tmp 3), type := 27, pos := "law.go:64", after := #[{ on := 4, ground := Ground.guard }], guard := some (4, true) }) (v := undef) rfl (by kernel_rfl) (by kernel_rfl) (by kernel_rfl) (fun _ _ _ h => h) (Or.inr ⟨by rfl, rfl⟩) (by assumption) ?_
  try simp only [Act.put, List.setIfInBounds_toArray, List.set_cons_zero, List.set_cons_succ]
  refine wpAnyH_take (i := 9) (oi := { dst := some 34, op := Op.load 27 (Operand.tmp 4), type := 27, pos := "law.go:64", after := #[{ on := 4, ground := Ground.guard }], guard := some (4, true) }) (v := undef) rfl (by kernel_rfl) (by kernel_rfl) (by kernel_rfl) (fun _ _ _ h => h) (Or.inr ⟨by rfl, rfl⟩) (by assumption) ?_
  try simp only [Act.put, List.setIfInBounds_toArray, List.set_cons_zero, List.set_cons_succ]
  refine wpAnyH_take (i := 10) (oi := { dst := some 35, op := Op.call { callee := Callee.value (Operand.func 20), args := #[Operand.tmp 33, Operand.tmp 34], argTypes := #[27, 27] }, type := 3, pos := "law.go:64", after := #[{ on := 8, ground := Ground.data }, { on := 9, ground := Ground.data }, { on := 7, ground := Ground.chain }, { on := 4, ground := Ground.guard }], guard := some (4, true) }) (v := undef) rfl (by kernel_rfl) (by kernel_rfl) (by kernel_rfl) (fun _ _ _ h => h) (Or.inr ⟨by rfl, rfl⟩) (by assumption) ?_
  try simp only [Act.put, List.setIfInBounds_toArray, List.set_cons_zero, List.set_cons_succ]
  refine wpAnyH_take (i := 11) (oi := { dst := some 36, op := Op.binOp BinOp.neq 3 (Operand.tmp 32) (Operand.tmp 35) 3, type := 4, pos := "law.go:64", after := #[{ on := 7, ground := Ground.data }, { on := 10, ground := Ground.data }, { on := 4, ground := Ground.guard }], guard := some (4, true) }) (v := undef) rfl (by kernel_rfl) (by kernel_rfl) (by kernel_rfl) (fun _ _ _ h => h) (Or.inr ⟨by rfl, rfl⟩) (by assumption) ?_
  try simp only [Act.put, List.setIfInBounds_toArray, List.set_cons_zero, List.set_cons_succ]
  refine wpAnyH_take (i := 12) (oi := { dst := some 37, op := Op.pick (Operand.tmp 29) (Operand.tmp 36) (Operand.const (Value.bool false)), type := 4, pos := "law.go:64", after := #[{ on := 4, ground := Ground.data }, { on := 11, ground := Ground.data }], guard := none }) (v := ?_) rfl (by kernel_rfl) (by kernel_rfl) (by kernel_rfl) (fun _ _ _ h => h) (Or.inl ⟨by rfl, ?_⟩) (by assumption) ?_
  rotate_left
  · intro w hSw
    try dsimp only at hSw
    go_simp
    any_goals with_reducible rfl
  try simp only [Act.put, List.setIfInBounds_toArray, List.set_cons_zero, List.set_cons_succ]
  refine wpAnyH_take (i := 13) (oi := { dst := some 38, op := Op.move (Operand.tmp 37), type := 4, pos := "law.go:64", after := #[{ on := 12, ground := Ground.data }, { on := 10, ground := Ground.chain }], guard := none }) (v := ?_) rfl (by kernel_rfl) (by kernel_rfl) (by kernel_rfl) (fun _ _ _ h => h) (Or.inl ⟨by rfl, ?_⟩) (by assumption) ?_
  rotate_left
  · intro w hSw
    try dsimp only at hSw
    go_simp
    any_goals with_reducible rfl
  try simp only [Act.put, List.setIfInBounds_toArray, List.set_cons_zero, List.set_cons_succ]
  refine wpAnyH_ready (rs := [14]) (by kernel_rfl) (by simp) ?_
  refine AllReadyH.cons (o := { dst := some 39, op := Op.call { callee := Callee.value (Operand.func 15), args := #[], argTypes := #[] }, type := 4, pos := "law.go:64", after := #[{ on := 13, ground := Ground.chain }, { on := 13, ground := Ground.guard }], guard := some (13, false) }) rfl (fun K hK => ?_) AllReadyH.nil
  go_simp
  go_at_call 15
  refine (AL.out _ (L.mono KB.hb)).mono ?_
  rintro e W9 ⟨rfl, k⟩
  replace KB := KB.below k
  clear k
  refine hK.out _ _ (⟨(KB.head).two.2.1, (KB.head).two.2.2.1, (KB.tail.head).two.2.1, (KB.tail.head).two.2.2.1, (KB.tail.tail.tail.head).seven.2.1, (KB.tail.tail.tail.head).seven.2.2.1, (KB.tail.tail.tail.head).seven.2.2.2.1, (KB.tail.tail.tail.head).seven.2.2.2.2.1, (KB.tail.tail.tail.head).seven.2.2.2.2.2.1, (KB.tail.tail.tail.head).seven.2.2.2.2.2.2.1, (KB.tail.tail.tail.head).seven.2.2.2.2.2.2.2.1, (KB.tail.tail.tail.tail.head).seven.2.1, (KB.tail.tail.tail.tail.head).seven.2.2.1, (KB.tail.tail.tail.tail.head).seven.2.2.2.1, (KB.tail.tail.tail.tail.head).seven.2.2.2.2.1, (KB.tail.tail.tail.tail.head).seven.2.2.2.2.2.1, (KB.tail.tail.tail.tail.head).seven.2.2.2.2.2.2.1, (KB.tail.tail.tail.tail.head).seven.2.2.2.2.2.2.2.1⟩) (fun hHeld => ?_)
  clear hK K
  try simp only [Act.put, List.setIfInBounds_toArray, List.set_cons_zero, List.set_cons_succ]
  refine wpAnyH_take (i := 15) (oi := { dst := some 40, op := Op.unOp UnOp.not 4 (Operand.tmp 39), type := 4, pos := "law.go:64", after := #[{ on := 14, ground := Ground.data }, { on := 13, ground := Ground.guard }], guard := some (13, false) }) (v := ?_) rfl (by kernel_rfl) (by kernel_rfl) (by kernel_rfl) (fun _ _ _ h => h) (Or.inl ⟨by rfl, ?_⟩) (by assumption) ?_
  rotate_left
  · intro w hSw
    try dsimp only at hSw
    go_simp
    any_goals with_reducible rfl
  try simp only [Act.put, List.setIfInBounds_toArray, List.set_cons_zero, List.set_cons_succ]
  refine wpAnyH_take (i := 16) (oi := { dst := some 41, op := Op.pick (Operand.tmp 38) (Operand.const (Value.bool true)) (Operand.tmp 40), type := 4, pos := "law.go:64", after := #[{ on := 13, ground := Ground.data }, { on := 15, ground := Ground.data }], guard := none }) (v := ?_) rfl (by kernel_rfl) (by kernel_rfl) (by kernel_rfl) (fun _ _ _ h => h) (Or.inl ⟨by rfl, ?_⟩) (by assumption) ?_
  rotate_left
  · intro w hSw
    try dsimp only at hSw
    go_simp
    any_goals with_reducible rfl
  try simp only [Act.put, List.setIfInBounds_toArray, List.set_cons_zero, List.set_cons_succ]
  refine wpAnyH_done (by kernel_rfl) ?_ _
  refine NoPanic.normal ?_
  obtain ⟨_, q0a, q0b, q0c, q0d, q0e, q0f, q0g, _⟩ := (KB.tail.tail.tail.tail.head).seven
  obtain ⟨_, q1a, q1b, _⟩ := (KB.tail.tail.head).two
  go_wp2_with fail
  clear q0a q0b q0c q0d q0e q0f q0g q1a q1b
  refine (AD.out _ (L.mono KB.hb)).mono ?_
  rintro e w5 ⟨rfl, k⟩
  replace KB := KB.below k
  clear k
  go_upto_region 6 with (fail)
  have ix0 : w5.heap.size ≠ g := Nat.ne_of_gt (KB.head).lt
  have ox0 := Ne.symm ix0
  have ix1 : w5.heap.size ≠ f := Nat.ne_of_gt (KB.tail.head).lt
  have ox1 := Ne.symm ix1
  have ix2 : w5.heap.size ≠ w.heap.size + 1 + 1 := Nat.ne_of_gt (KB.tail.tail.head).lt
  have ox2 := Ne.symm ix2
  have ix3 : w5.heap.size ≠ w.heap.size + 1 := Nat.ne_of_gt (KB.tail.tail.tail.head).lt
  have ox3 := Ne.symm ix3
  have ix4 : w5.heap.size ≠ w.heap.size := Nat.ne_of_gt (KB.tail.tail.tail.tail.head).lt
  have ox4 := Ne.symm ix4
  have ggx : w.heap.size ≤ w5.heap.size := KB.hb.size
  replace KB := KB.more7 (.int .i64 (u0)) (.int .i64 (u1)) (.int .i64 (u2)) (.int .i64 (u3)) (.int .i64 (u4)) (.int .i64 (u5)) (.int .i64 (u6)) 27
  generalize w5.alloc (.cells #[.int .i64 (u0), .int .i64 (u1), .int .i64 (u2), .int .i64 (u3), .int .i64 (u4), .int .i64 (u5), .int .i64 (u6)] 27) = w6 at *
  generalize w5.heap.size = x at *
  obtain ⟨_, q0a, q0b, q0c, q0d, q0e, q0f, q0g, _⟩ := (KB.tail.tail.tail.tail.tail.head).seven
  obtain ⟨_, q1a, q1b, q1c, q1d, q1e, q1f, q1g, _⟩ := (KB.head).seven
  go_wp2_with fail
  clear q0a q0b q0c q0d q0e q0f q0g q1a q1b q1c q1d q1e q1f q1g
  refine (SI.out _ (L.mono KB.hb)).mono ?_
  rintro e w7 ⟨rfl, k⟩
  replace KB := KB.below k
  clear k
  go_upto_region 9 with (fail)
  have iv0 : w7.heap.size ≠ x := Nat.ne_of_gt (KB.head).lt
  have ov0 := Ne.symm iv0
  have iv1 : w7.heap.size ≠ g := Nat.ne_of_gt (KB.tail.head).lt
  have ov1 := Ne.symm iv1
  have iv2 : w7.heap.size ≠ f := Nat.ne_of_gt (KB.tail.tail.head).lt
  have ov2 := Ne.symm iv2
  have iv3 : w7.heap.size ≠ w.heap.size + 1 + 1 := Nat.ne_of_gt (KB.tail.tail.tail.head).lt
  have ov3 := Ne.symm iv3
  have iv4 : w7.heap.size ≠ w.heap.size + 1 := Nat.ne_of_gt (KB.tail.tail.tail.tail.head).lt
  have ov4 := Ne.symm iv4
  have iv5 : w7.heap.size ≠ w.heap.size := Nat.ne_of_gt (KB.tail.tail.tail.tail.tail.head).lt
  have ov5 := Ne.symm iv5
  have ggv : w.heap.size ≤ w7.heap.size := KB.hb.size
  replace KB := KB.more2 (.int .i64 (hiW a)) (.int .u64 (loW a)) 30
  generalize w7.alloc (.cells #[.int .i64 (hiW a), .int .u64 (loW a)] 30) = w8 at *
  generalize w7.heap.size = v at *
  obtain ⟨_, j0a, j0b, _⟩ := (KB.head).two
  obtain ⟨_, j1a, j1b, j1c, j1d, j1e, j1f, j1g, _⟩ := (KB.tail.head).seven
  obtain ⟨_, j2a, j2b, _⟩ := (KB.tail.tail.tail.tail.head).two
  obtain ⟨_, j3a, j3b, j3c, j3d, j3e, j3f, j3g, _⟩ := (KB.tail.tail.tail.tail.tail.tail.head).seven
  go_region_held3 (fun w' => w'.cell? ⟨v, 0, none⟩ = some (.int .i64 (hiW a)) ∧ w'.cell? ⟨v, 1, none⟩ = some (.int .u64 (loW a)) ∧ w'.cell? ⟨x, 0, none⟩ = some (.int .i64 (u0)) ∧ w'.cell? ⟨x, 1, none⟩ = some (.int .i64 (u1)) ∧ w'.cell? ⟨x, 2, none⟩ = some (.int .i64 (u2)) ∧ w'.cell? ⟨x, 3, none⟩ = some (.int .i64 (u3)) ∧ w'.cell? ⟨x, 4, none⟩ = some (.int .i64 (u4)) ∧ w'.cell? ⟨x, 5, none⟩ = some (.int .i64 (u5)) ∧ w'.cell? ⟨x, 6, none⟩ = some (.int .i64 (u6)) ∧ w'.cell? ⟨w.heap.size + 1 + 1, 0, none⟩ = some (.int .i64 (hiW a)) ∧ w'.cell? ⟨w.heap.size + 1 + 1, 1, none⟩ = some (.int .u64 (loW a)) ∧ w'.cell? ⟨w.heap.size, 0, none⟩ = some (.int .i64 (y)) ∧ w'.cell? ⟨w.heap.size, 1, none⟩ = some (.int .i64 (m)) ∧ w'.cell? ⟨w.heap.size, 2, none⟩ = some (.int .i64 (d)) ∧ w'.cell? ⟨w.heap.size, 3, none⟩ = some (.int .i64 (h)) ∧ w'.cell? ⟨w.heap.size, 4, none⟩ = some (.int .i64 (i)) ∧ w'.cell? ⟨w.heap.size, 5, none⟩ = some (.int .i64 (s)) ∧ w'.cell? ⟨w.heap.size, 6, none⟩ = some (.int .i64 (n))) (first | (with_reducible exact ⟨(KB.head).two.2.1, (KB.head).two.2.2.1, (KB.tail.head).seven.2.1, (KB.tail.head).seven.2.2.1, (KB.tail.head).seven.2.2.2.1, (KB.tail.head).seven.2.2.2.2.1, (KB.tail.head).seven.2.2.2.2.2.1, (KB.tail.head).seven.2.2.2.2.2.2.1, (KB.tail.head).seven.2.2.2.2.2.2.2.1, (KB.tail.tail.tail.tail.head).two.2.1, (KB.tail.tail.tail.tail.head).two.2.2.1, (KB.tail.tail.tail.tail.tail.tail.head).seven.2.1, (KB.tail.tail.tail.tail.tail.tail.head).seven.2.2.1, (KB.tail.tail.tail.tail.tail.tail.head).seven.2.2.2.1, (KB.tail.tail.tail.tail.tail.tail.head).seven.2.2.2.2.1, (KB.tail.tail.tail.tail.tail.tail.head).seven.2.2.2.2.2.1, (KB.tail.tail.tail.tail.tail.tail.head).seven.2.2.2.2.2.2.1, (KB.tail.tail.tail.tail.tail.tail.head).seven.2.2.2.2.2.2.2.1⟩) | (with_reducible exact ⟨(KB.drew.head).two.2.1, (KB.drew.head).two.2.2.1, (KB.drew.tail.head).seven.2.1, (KB.drew.tail.head).seven.2.2.1, (KB.drew.tail.head).seven.2.2.2.1, (KB.drew.tail.head).seven.2.2.2.2.1, (KB.drew.tail.head).seven.2.2.2.2.2.1, (KB.drew.tail.head).seven.2.2.2.2.2.2.1, (KB.drew.tail.head).seven.2.2.2.2.2.2.2.1, (KB.drew.tail.tail.tail.tail.head).two.2.1, (KB.drew.tail.tail.tail.tail.head).two.2.2.1, (KB.drew.tail.tail.tail.tail.tail.tail.head).seven.2.1, (KB.drew.tail.tail.tail.tail.tail.tail.head).seven.2.2.1, (KB.drew.tail.tail.tail.tail.tail.tail.head).seven.2.2.2.1, (KB.drew.tail.tail.tail.tail.tail.tail.head).seven.2.2.2.2.1, (KB.drew.tail.tail.tail.tail.tail.tail.head).seven.2.2.2.2.2.1, (KB.drew.tail.tail.tail.tail.tail.tail.head).seven.2.2.2.2.2.2.1, (KB.drew.tail.tail.tail.tail.tail.tail.head).seven.2.2.2.2.2.2.2.1⟩) | go_keep)
    (first
      | (go_at_call 20; (with_reducible refine (CX.out _ (by with_reducible first | exact L.mono KB.hb | exact L.mono KB.drew.hb)).mono ?_); rintro e W9 ⟨rfl, k⟩
         with_reducible (first | replace KB := KB.below k | replace KB := KB.drew.below k)
         clear k
         obtain ⟨_, k0a, k0b, _⟩ := (KB.head).two
         obtain ⟨_, k1a, k1b, k1c, k1d, k1e, k1f, k1g, _⟩ := (KB.tail.head).seven
         obtain ⟨_, k2a, k2b, _⟩ := (KB.tail.tail.tail.tail.head).two
         obtain ⟨_, k3a, k3b, k3c, k3d, k3e, k3f, k3g, _⟩ := (KB.tail.tail.tail.tail.tail.tail.head).seven)
      | (go_at_call 25; (with_reducible refine (SG.out _ (by with_reducible first | exact L.mono KB.hb | exact L.mono KB.drew.hb)).mono ?_); rintro e W9 ⟨rfl, k⟩
         with_reducible (first | replace KB := KB.below k | replace KB := KB.drew.below k)
         clear k
         obtain ⟨_, k0a, k0b, _⟩ := (KB.head).two
         obtain ⟨_, k1a, k1b, k1c, k1d, k1e, k1f, k1g, _⟩ := (KB.tail.head).seven
         obtain ⟨_, k2a, k2b, _⟩ := (KB.tail.tail.tail.tail.head).two
         obtain ⟨_, k3a, k3b, k3c, k3d, k3e, k3f, k3g, _⟩ := (KB.tail.tail.tail.tail.tail.tail.head).seven))
  all_goals
    go_wp2
    go_ret
    exact ⟨rfl, by first | exact KB.hb | exact KB.drew.hb⟩
set_option maxRecDepth 100000 in
set_option maxHeartbeats 8000000 in
theorem orders7_tt_none (y m d h i s n y' m' d' h' i' s' n' a n0 n1 m0 m1 c : Int) (N1 : Hid (∀ W, Tabs W → Calls Tryd.prog 8 #[.agg #[.int .i64 (y), .int .i64 (m), .int .i64 (d), .int .i64 (h), .int .i64 (i), .int .i64 (s), .int .i64 (n)]] W (fun o w' => o = .returned (.tuple #[.agg #[.int .i64 (n0), .int .u64 (n1)], .bool true]) ∧ Below W.heap.size W w'))) (N2 : Hid (∀ W, Tabs W → Calls Tryd.prog 8 #[.agg #[.int .i64 (y'), .int .i64 (m'), .int .i64 (d'), .int .i64 (h'), .int .i64 (i'), .int .i64 (s'), .int .i64 (n')]] W (fun o w' => o = .returned (.tuple #[.agg #[.int .i64 (m0), .int .u64 (m1)], .bool true]) ∧ Below W.heap.size W w'))) (AL : Hid (∀ W, Tabs W → Calls Tryd.prog 15 #[] W (fun o w' => o = .returned (.bool true) ∧ Below W.heap.size W w'))) (WC : Hid (∀ W, Tabs W → Calls Tryd.prog 24 #[.agg #[.int .i64 (n0), .int .u64 (n1)], .agg #[.int .i64 (m0), .int .u64 (m1)]] W (fun o w' => o = .returned (.int .i64 (c)) ∧ Below W.heap.size W w'))) (CM : Hid (∀ W, Tabs W → Calls Tryd.prog 20 #[.agg #[.int .i64 (y), .int .i64 (m), .int .i64 (d), .int .i64 (h), .int .i64 (i), .int .i64 (s), .int .i64 (n)], .agg #[.int .i64 (y'), .int .i64 (m'), .int .i64 (d'), .int .i64 (h'), .int .i64 (i'), .int .i64 (s'), .int .i64 (n')]] W (fun o w' => o = .returned (.int .i64 (c)) ∧ Below W.heap.size W w'))) (AD : Hid (∀ W, Tabs W → Calls Tryd.prog 17 #[.agg #[.int .i64 (y), .int .i64 (m), .int .i64 (d), .int .i64 (h), .int .i64 (i), .int .i64 (s), .int .i64 (n)], .agg #[.int .i64 (hiW a), .int .u64 (loW a)]] W (fun o w' => o = .returned (.tuple #[.agg #[.int .i64 (0), .int .i64 (0), .int .i64 (0), .int .i64 (0), .int .i64 (0), .int .i64 (0), .int .i64 (0)], .int .i64 (4)]) ∧ Below W.heap.size W w'))) (w : World) (L : Tabs w) :
    Calls Tryd.prog 6 #[.agg #[.int .i64 (y), .int .i64 (m), .int .i64 (d), .int .i64 (h), .int .i64 (i), .int .i64 (s), .int .i64 (n)], .agg #[.int .i64 (y'), .int .i64 (m'), .int .i64 (d'), .int .i64 (h'), .int .i64 (i'), .int .i64 (s'), .int .i64 (n')], .agg #[.int .i64 (hiW a), .int .u64 (loW a)]] w (RetV w (.bool true)) := by
  go_enter Tryd.func6, Tryd.ntmps6
  go_upto_region 1 with (fail)
  have KB := ((((BK.nil w).more7 (.int .i64 (y)) (.int .i64 (m)) (.int .i64 (d)) (.int .i64 (h)) (.int .i64 (i)) (.int .i64 (s)) (.int .i64 (n)) 27).more7 (.int .i64 (y')) (.int .i64 (m')) (.int .i64 (d')) (.int .i64 (h')) (.int .i64 (i')) (.int .i64 (s')) (.int .i64 (n')) 27).more2 (.int .i64 (hiW a)) (.int .u64 (loW a)) 30)
  simp only [World.size_alloc] at KB
  generalize (((w.alloc (.cells #[.int .i64 (y), .int .i64 (m), .int .i64 (d), .int .i64 (h), .int .i64 (i), .int .i64 (s), .int .i64 (n)] 27)).alloc (.cells #[.int .i64 (y'), .int .i64 (m'), .int .i64 (d'), .int .i64 (h'), .int .i64 (i'), .int .i64 (s'), .int .i64 (n')] 27)).alloc (.cells #[.int .i64 (hiW a), .int .u64 (loW a)] 30)) = w0 at *
  obtain ⟨_, q0a, q0b, q0c, q0d, q0e, q0f, q0g, _⟩ := (KB.tail.tail.head).seven
  go_wp2_with fail
  clear q0a q0b q0c q0d q0e q0f q0g
  refine (N1.out _ (L.mono KB.hb)).mono ?_
  rintro e w1 ⟨rfl, k⟩
  replace KB := KB.below k
  clear k
  go_upto_region 2 with (fail)
  have if0 : w1.heap.size ≠ w.heap.size + 1 + 1 := Nat.ne_of_gt (KB.head).lt
  have of0 := Ne.symm if0
  have if1 : w1.heap.size ≠ w.heap.size + 1 := Nat.ne_of_gt (KB.tail.head).lt
  have of1 := Ne.symm if1
  have if2 : w1.heap.size ≠ w.heap.size := Nat.ne_of_gt (KB.tail.tail.head).lt
  have of2 := Ne.symm if2
  have ggf : w.heap.size ≤ w1.heap.size := KB.hb.size
  replace KB := KB.more2 (.int .i64 (n0)) (.int .u64 (n1)) 30
  generalize w1.alloc (.cells #[.int .i64 (n0), .int .u64 (n1)] 30) = w2 at *
  generalize w1.heap.size = f at *
  obtain ⟨_, q0a, q0b, q0c, q0d, q0e, q0f, q0g, _⟩ := (KB.tail.tail.head).seven
  go_wp2_with fail
  clear q0a q0b q0c q0d q0e q0f q0g
  refine (N2.out _ (L.mono KB.hb)).mono ?_
  rintro e w3 ⟨rfl, k⟩
  replace KB := KB.below k
  clear k
  go_upto_region 3 with (fail)
  have ig0 : w3.heap.size ≠ f := Nat.ne_of_gt (KB.head).lt
  have og0 := Ne.symm ig0
  have ig1 : w3.heap.size ≠ w.heap.size + 1 + 1 := Nat.ne_of_gt (KB.tail.head).lt
  have og1 := Ne.symm ig1
  have ig2 : w3.heap.size ≠ w.heap.size + 1 := Nat.ne_of_gt (KB.tail.tail.head).lt
  have og2 := Ne.symm ig2
  have ig3 : w3.heap.size ≠ w.heap.size := Nat.ne_of_gt (KB.tail.tail.tail.head).lt
  have og3 := Ne.symm ig3
  have ggg : w.heap.size ≤ w3.heap.size := KB.hb.size
  replace KB := KB.more2 (.int .i64 (m0)) (.int .u64 (m1)) 30
  generalize w3.alloc (.cells #[.int .i64 (m0), .int .u64 (m1)] 30) = w4 at *
  generalize w3.heap.size = g at *
  obtain ⟨_, j0a, j0b, _⟩ := (KB.head).two
  obtain ⟨_, j1a, j1b, _⟩ := (KB.tail.head).two
  obtain ⟨_, j2a, j2b, j2c, j2d, j2e, j2f, j2g, _⟩ := (KB.tail.tail.tail.head).seven
  obtain ⟨_, j3a, j3b, j3c, j3d, j3e, j3f, j3g, _⟩ := (KB.tail.tail.tail.tail.head).seven
  go_region_held3 (fun w' => w'.cell? ⟨g, 0, none⟩ = some (.int .i64 (m0)) ∧ w'.cell? ⟨g, 1, none⟩ = some (.int .u64 (m1)) ∧ w'.cell? ⟨f, 0, none⟩ = some (.int .i64 (n0)) ∧ w'.cell? ⟨f, 1, none⟩ = some (.int .u64 (n1)) ∧ w'.cell? ⟨w.heap.size + 1, 0, none⟩ = some (.int .i64 (y')) ∧ w'.cell? ⟨w.heap.size + 1, 1, none⟩ = some (.int .i64 (m')) ∧ w'.cell? ⟨w.heap.size + 1, 2, none⟩ = some (.int .i64 (d')) ∧ w'.cell? ⟨w.heap.size + 1, 3, none⟩ = some (.int .i64 (h')) ∧ w'.cell? ⟨w.heap.size + 1, 4, none⟩ = some (.int .i64 (i')) ∧ w'.cell? ⟨w.heap.size + 1, 5, none⟩ = some (.int .i64 (s')) ∧ w'.cell? ⟨w.heap.size + 1, 6, none⟩ = some (.int .i64 (n')) ∧ w'.cell? ⟨w.heap.size, 0, none⟩ = some (.int .i64 (y)) ∧ w'.cell? ⟨w.heap.size, 1, none⟩ = some (.int .i64 (m)) ∧ w'.cell? ⟨w.heap.size, 2, none⟩ = some (.int .i64 (d)) ∧ w'.cell? ⟨w.heap.size, 3, none⟩ = some (.int .i64 (h)) ∧ w'.cell? ⟨w.heap.size, 4, none⟩ = some (.int .i64 (i)) ∧ w'.cell? ⟨w.heap.size, 5, none⟩ = some (.int .i64 (s)) ∧ w'.cell? ⟨w.heap.size, 6, none⟩ = some (.int .i64 (n))) (first | (with_reducible exact ⟨(KB.head).two.2.1, (KB.head).two.2.2.1, (KB.tail.head).two.2.1, (KB.tail.head).two.2.2.1, (KB.tail.tail.tail.head).seven.2.1, (KB.tail.tail.tail.head).seven.2.2.1, (KB.tail.tail.tail.head).seven.2.2.2.1, (KB.tail.tail.tail.head).seven.2.2.2.2.1, (KB.tail.tail.tail.head).seven.2.2.2.2.2.1, (KB.tail.tail.tail.head).seven.2.2.2.2.2.2.1, (KB.tail.tail.tail.head).seven.2.2.2.2.2.2.2.1, (KB.tail.tail.tail.tail.head).seven.2.1, (KB.tail.tail.tail.tail.head).seven.2.2.1, (KB.tail.tail.tail.tail.head).seven.2.2.2.1, (KB.tail.tail.tail.tail.head).seven.2.2.2.2.1, (KB.tail.tail.tail.tail.head).seven.2.2.2.2.2.1, (KB.tail.tail.tail.tail.head).seven.2.2.2.2.2.2.1, (KB.tail.tail.tail.tail.head).seven.2.2.2.2.2.2.2.1⟩) | (with_reducible exact ⟨(KB.drew.head).two.2.1, (KB.drew.head).two.2.2.1, (KB.drew.tail.head).two.2.1, (KB.drew.tail.head).two.2.2.1, (KB.drew.tail.tail.tail.head).seven.2.1, (KB.drew.tail.tail.tail.head).seven.2.2.1, (KB.drew.tail.tail.tail.head).seven.2.2.2.1, (KB.drew.tail.tail.tail.head).seven.2.2.2.2.1, (KB.drew.tail.tail.tail.head).seven.2.2.2.2.2.1, (KB.drew.tail.tail.tail.head).seven.2.2.2.2.2.2.1, (KB.drew.tail.tail.tail.head).seven.2.2.2.2.2.2.2.1, (KB.drew.tail.tail.tail.tail.head).seven.2.1, (KB.drew.tail.tail.tail.tail.head).seven.2.2.1, (KB.drew.tail.tail.tail.tail.head).seven.2.2.2.1, (KB.drew.tail.tail.tail.tail.head).seven.2.2.2.2.1, (KB.drew.tail.tail.tail.tail.head).seven.2.2.2.2.2.1, (KB.drew.tail.tail.tail.tail.head).seven.2.2.2.2.2.2.1, (KB.drew.tail.tail.tail.tail.head).seven.2.2.2.2.2.2.2.1⟩) | go_keep)
    (first
      | (go_at_call 24; (with_reducible refine (WC.out _ (by with_reducible first | exact L.mono KB.hb | exact L.mono KB.drew.hb)).mono ?_); rintro e W9 ⟨rfl, k⟩
         with_reducible (first | replace KB := KB.below k | replace KB := KB.drew.below k)
         clear k
         obtain ⟨_, k0a, k0b, _⟩ := (KB.head).two
         obtain ⟨_, k1a, k1b, _⟩ := (KB.tail.head).two
         obtain ⟨_, k2a, k2b, k2c, k2d, k2e, k2f, k2g, _⟩ := (KB.tail.tail.tail.head).seven
         obtain ⟨_, k3a, k3b, k3c, k3d, k3e, k3f, k3g, _⟩ := (KB.tail.tail.tail.tail.head).seven)
      | (go_at_call 20; (with_reducible refine (CM.out _ (by with_reducible first | exact L.mono KB.hb | exact L.mono KB.drew.hb)).mono ?_); rintro e W9 ⟨rfl, k⟩
         with_reducible (first | replace KB := KB.below k | replace KB := KB.drew.below k)
         clear k
         obtain ⟨_, k0a, k0b, _⟩ := (KB.head).two
         obtain ⟨_, k1a, k1b, _⟩ := (KB.tail.head).two
         obtain ⟨_, k2a, k2b, k2c, k2d, k2e, k2f, k2g, _⟩ := (KB.tail.tail.tail.head).seven
         obtain ⟨_, k3a, k3b, k3c, k3d, k3e, k3f, k3g, _⟩ := (KB.tail.tail.tail.tail.head).seven)
      | (go_at_call 15; (with_reducible refine (AL.out _ (by with_reducible first | exact L.mono KB.hb | exact L.mono KB.drew.hb)).mono ?_); rintro e W9 ⟨rfl, k⟩
         with_reducible (first | replace KB := KB.below k | replace KB := KB.drew.below k)
         clear k
         obtain ⟨_, k0a, k0b, _⟩ := (KB.head).two
         obtain ⟨_, k1a, k1b, _⟩ := (KB.tail.head).two
         obtain ⟨_, k2a, k2b, k2c, k2d, k2e, k2f, k2g, _⟩ := (KB.tail.tail.tail.head).seven
         obtain ⟨_, k3a, k3b, k3c, k3d, k3e, k3f, k3g, _⟩ := (KB.tail.tail.tail.tail.head).seven))
  replace KB := KB.below (Below.refl _ _)
  obtain ⟨_, q0a, q0b, q0c, q0d, q0e, q0f, q0g, _⟩ := (KB.tail.tail.tail.tail.head).seven
  obtain ⟨_, q1a, q1b, _⟩ := (KB.tail.tail.head).two
  go_wp2_with fail
  clear q0a q0b q0c q0d q0e q0f q0g q1a q1b
  refine (AD.out _ (L.mono KB.hb)).mono ?_
  rintro e w5 ⟨rfl, k⟩
  replace KB := KB.below k
  clear k
  go_upto_region 6 with (fail)
  have ix0 : w5.heap.size ≠ g := Nat.ne_of_gt (KB.head).lt
  have ox0 := Ne.symm ix0
  have ix1 : w5.heap.size ≠ f := Nat.ne_of_gt (KB.tail.head).lt
  have ox1 := Ne.symm ix1
  have ix2 : w5.heap.size ≠ w.heap.size + 1 + 1 := Nat.ne_of_gt (KB.tail.tail.head).lt
  have ox2 := Ne.symm ix2
  have ix3 : w5.heap.size ≠ w.heap.size + 1 := Nat.ne_of_gt (KB.tail.tail.tail.head).lt
  have ox3 := Ne.symm ix3
  have ix4 : w5.heap.size ≠ w.heap.size := Nat.ne_of_gt (KB.tail.tail.tail.tail.head).lt
  have ox4 := Ne.symm ix4
  have ggx : w.heap.size ≤ w5.heap.size := KB.hb.size
  replace KB := KB.more7 (.int .i64 (0)) (.int .i64 (0)) (.int .i64 (0)) (.int .i64 (0)) (.int .i64 (0)) (.int .i64 (0)) (.int .i64 (0)) 27
  generalize w5.alloc (.cells #[.int .i64 (0), .int .i64 (0), .int .i64 (0), .int .i64 (0), .int .i64 (0), .int .i64 (0), .int .i64 (0)] 27) = w6 at *
  generalize w5.heap.size = x at *
  obtain ⟨_, q0a, q0b, q0c, q0d, q0e, q0f, q0g, _⟩ := (KB.head).seven
  have HB := KB.hb
  go_wp2
  go_ret
  exact ⟨rfl, HB⟩
set_option maxRecDepth 100000 in
set_option maxHeartbeats 8000000 in
theorem orders7_tt_yes (y m d h i s n y' m' d' h' i' s' n' a n0 n1 m0 m1 u0 u1 u2 u3 u4 u5 u6 c e3 : Int) (N1 : Hid (∀ W, Tabs W → Calls Tryd.prog 8 #[.agg #[.int .i64 (y), .int .i64 (m), .int .i64 (d), .int .i64 (h), .int .i64 (i), .int .i64 (s), .int .i64 (n)]] W (fun o w' => o = .returned (.tuple #[.agg #[.int .i64 (n0), .int .u64 (n1)], .bool true]) ∧ Below W.heap.size W w'))) (N2 : Hid (∀ W, Tabs W → Calls Tryd.prog 8 #[.agg #[.int .i64 (y'), .int .i64 (m'), .int .i64 (d'), .int .i64 (h'), .int .i64 (i'), .int .i64 (s'), .int .i64 (n')]] W (fun o w' => o = .returned (.tuple #[.agg #[.int .i64 (m0), .int .u64 (m1)], .bool true]) ∧ Below W.heap.size W w'))) (AL : Hid (∀ W, Tabs W → Calls Tryd.prog 15 #[] W (fun o w' => o = .returned (.bool true) ∧ Below W.heap.size W w'))) (WC : Hid (∀ W, Tabs W → Calls Tryd.prog 24 #[.agg #[.int .i64 (n0), .int .u64 (n1)], .agg #[.int .i64 (m0), .int .u64 (m1)]] W (fun o w' => o = .returned (.int .i64 (c)) ∧ Below W.heap.size W w'))) (CM : Hid (∀ W, Tabs W → Calls Tryd.prog 20 #[.agg #[.int .i64 (y), .int .i64 (m), .int .i64 (d), .int .i64 (h), .int .i64 (i), .int .i64 (s), .int .i64 (n)], .agg #[.int .i64 (y'), .int .i64 (m'), .int .i64 (d'), .int .i64 (h'), .int .i64 (i'), .int .i64 (s'), .int .i64 (n')]] W (fun o w' => o = .returned (.int .i64 (c)) ∧ Below W.heap.size W w'))) (AD : Hid (∀ W, Tabs W → Calls Tryd.prog 17 #[.agg #[.int .i64 (y), .int .i64 (m), .int .i64 (d), .int .i64 (h), .int .i64 (i), .int .i64 (s), .int .i64 (n)], .agg #[.int .i64 (hiW a), .int .u64 (loW a)]] W (fun o w' => o = .returned (.tuple #[.agg #[.int .i64 (u0), .int .i64 (u1), .int .i64 (u2), .int .i64 (u3), .int .i64 (u4), .int .i64 (u5), .int .i64 (u6)], .int .i64 (0)]) ∧ Below W.heap.size W w'))) (SI : Hid (∀ W, Tabs W → Calls Tryd.prog 19 #[.agg #[.int .i64 (y), .int .i64 (m), .int .i64 (d), .int .i64 (h), .int .i64 (i), .int .i64 (s), .int .i64 (n)], .agg #[.int .i64 (u0), .int .i64 (u1), .int .i64 (u2), .int .i64 (u3), .int .i64 (u4), .int .i64 (u5), .int .i64 (u6)]] W (fun o w' => o = .returned (.tuple #[.agg #[.int .i64 (hiW a), .int .u64 (loW a)], .int .i64 (0)]) ∧ Below W.heap.size W w'))) (CX : Hid (∀ W, Tabs W → Calls Tryd.prog 20 #[.agg #[.int .i64 (u0), .int .i64 (u1), .int .i64 (u2), .int .i64 (u3), .int .i64 (u4), .int .i64 (u5), .int .i64 (u6)], .agg #[.int .i64 (y), .int .i64 (m), .int .i64 (d), .int .i64 (h), .int .i64 (i), .int .i64 (s), .int .i64 (n)]] W (fun o w' => o = .returned (.int .i64 (e3)) ∧ Below W.heap.size W w'))) (SG : Hid (∀ W, Tabs W → Calls Tryd.prog 25 #[.agg #[.int .i64 (hiW a), .int .u64 (loW a)]] W (fun o w' => o = .returned (.int .i64 (e3)) ∧ Below W.heap.size W w'))) (w : World) (L : Tabs w) :
    Calls Tryd.prog 6 #[.agg #[.int .i64 (y), .int .i64 (m), .int .i64 (d), .int .i64 (h), .int .i64 (i), .int .i64 (s), .int .i64 (n)], .agg #[.int .i64 (y'), .int .i64 (m'), .int .i64 (d'), .int .i64 (h'), .int .i64 (i'), .int .i64 (s'), .int .i64 (n')], .agg #[.int .i64 (hiW a), .int .u64 (loW a)]] w (RetV w (.bool true)) := by
  go_enter Tryd.func6, Tryd.ntmps6
  go_upto_region 1 with (fail)
  have KB := ((((BK.nil w).more7 (.int .i64 (y)) (.int .i64 (m)) (.int .i64 (d)) (.int .i64 (h)) (.int .i64 (i)) (.int .i64 (s)) (.int .i64 (n)) 27).more7 (.int .i64 (y')) (.int .i64 (m')) (.int .i64 (d')) (.int .i64 (h')) (.int .i64 (i')) (.int .i64 (s')) (.int .i64 (n')) 27).more2 (.int .i64 (hiW a)) (.int .u64 (loW a)) 30)
  simp only [World.size_alloc] at KB
  generalize (((w.alloc (.cells #[.int .i64 (y), .int .i64 (m), .int .i64 (d), .int .i64 (h), .int .i64 (i), .int .i64 (s), .int .i64 (n)] 27)).alloc (.cells #[.int .i64 (y'), .int .i64 (m'), .int .i64 (d'), .int .i64 (h'), .int .i64 (i'), .int .i64 (s'), .int .i64 (n')] 27)).alloc (.cells #[.int .i64 (hiW a), .int .u64 (loW a)] 30)) = w0 at *
  obtain ⟨_, q0a, q0b, q0c, q0d, q0e, q0f, q0g, _⟩ := (KB.tail.tail.head).seven
  go_wp2_with fail
  clear q0a q0b q0c q0d q0e q0f q0g
  refine (N1.out _ (L.mono KB.hb)).mono ?_
  rintro e w1 ⟨rfl, k⟩
  replace KB := KB.below k
  clear k
  go_upto_region 2 with (fail)
  have if0 : w1.heap.size ≠ w.heap.size + 1 + 1 := Nat.ne_of_gt (KB.head).lt
  have of0 := Ne.symm if0
  have if1 : w1.heap.size ≠ w.heap.size + 1 := Nat.ne_of_gt (KB.tail.head).lt
  have of1 := Ne.symm if1
  have if2 : w1.heap.size ≠ w.heap.size := Nat.ne_of_gt (KB.tail.tail.head).lt
  have of2 := Ne.symm if2
  have ggf : w.heap.size ≤ w1.heap.size := KB.hb.size
  replace KB := KB.more2 (.int .i64 (n0)) (.int .u64 (n1)) 30
  generalize w1.alloc (.cells #[.int .i64 (n0), .int .u64 (n1)] 30) = w2 at *
  generalize w1.heap.size = f at *
  obtain ⟨_, q0a, q0b, q0c, q0d, q0e, q0f, q0g, _⟩ := (KB.tail.tail.head).seven
  go_wp2_with fail
  clear q0a q0b q0c q0d q0e q0f q0g
  refine (N2.out _ (L.mono KB.hb)).mono ?_
  rintro e w3 ⟨rfl, k⟩
  replace KB := KB.below k
  clear k
  go_upto_region 3 with (fail)
  have ig0 : w3.heap.size ≠ f := Nat.ne_of_gt (KB.head).lt
  have og0 := Ne.symm ig0
  have ig1 : w3.heap.size ≠ w.heap.size + 1 + 1 := Nat.ne_of_gt (KB.tail.head).lt
  have og1 := Ne.symm ig1
  have ig2 : w3.heap.size ≠ w.heap.size + 1 := Nat.ne_of_gt (KB.tail.tail.head).lt
  have og2 := Ne.symm ig2
  have ig3 : w3.heap.size ≠ w.heap.size := Nat.ne_of_gt (KB.tail.tail.tail.head).lt
  have og3 := Ne.symm ig3
  have ggg : w.heap.size ≤ w3.heap.size := KB.hb.size
  replace KB := KB.more2 (.int .i64 (m0)) (.int .u64 (m1)) 30
  generalize w3.alloc (.cells #[.int .i64 (m0), .int .u64 (m1)] 30) = w4 at *
  generalize w3.heap.size = g at *
  obtain ⟨_, j0a, j0b, _⟩ := (KB.head).two
  obtain ⟨_, j1a, j1b, _⟩ := (KB.tail.head).two
  obtain ⟨_, j2a, j2b, j2c, j2d, j2e, j2f, j2g, _⟩ := (KB.tail.tail.tail.head).seven
  obtain ⟨_, j3a, j3b, j3c, j3d, j3e, j3f, j3g, _⟩ := (KB.tail.tail.tail.tail.head).seven
  go_region_held3 (fun w' => w'.cell? ⟨g, 0, none⟩ = some (.int .i64 (m0)) ∧ w'.cell? ⟨g, 1, none⟩ = some (.int .u64 (m1)) ∧ w'.cell? ⟨f, 0, none⟩ = some (.int .i64 (n0)) ∧ w'.cell? ⟨f, 1, none⟩ = some (.int .u64 (n1)) ∧ w'.cell? ⟨w.heap.size + 1, 0, none⟩ = some (.int .i64 (y')) ∧ w'.cell? ⟨w.heap.size + 1, 1, none⟩ = some (.int .i64 (m')) ∧ w'.cell? ⟨w.heap.size + 1, 2, none⟩ = some (.int .i64 (d')) ∧ w'.cell? ⟨w.heap.size + 1, 3, none⟩ = some (.int .i64 (h')) ∧ w'.cell? ⟨w.heap.size + 1, 4, none⟩ = some (.int .i64 (i')) ∧ w'.cell? ⟨w.heap.size + 1, 5, none⟩ = some (.int .i64 (s')) ∧ w'.cell? ⟨w.heap.size + 1, 6, none⟩ = some (.int .i64 (n')) ∧ w'.cell? ⟨w.heap.size, 0, none⟩ = some (.int .i64 (y)) ∧ w'.cell? ⟨w.heap.size, 1, none⟩ = some (.int .i64 (m)) ∧ w'.cell? ⟨w.heap.size, 2, none⟩ = some (.int .i64 (d)) ∧ w'.cell? ⟨w.heap.size, 3, none⟩ = some (.int .i64 (h)) ∧ w'.cell? ⟨w.heap.size, 4, none⟩ = some (.int .i64 (i)) ∧ w'.cell? ⟨w.heap.size, 5, none⟩ = some (.int .i64 (s)) ∧ w'.cell? ⟨w.heap.size, 6, none⟩ = some (.int .i64 (n))) (first | (with_reducible exact ⟨(KB.head).two.2.1, (KB.head).two.2.2.1, (KB.tail.head).two.2.1, (KB.tail.head).two.2.2.1, (KB.tail.tail.tail.head).seven.2.1, (KB.tail.tail.tail.head).seven.2.2.1, (KB.tail.tail.tail.head).seven.2.2.2.1, (KB.tail.tail.tail.head).seven.2.2.2.2.1, (KB.tail.tail.tail.head).seven.2.2.2.2.2.1, (KB.tail.tail.tail.head).seven.2.2.2.2.2.2.1, (KB.tail.tail.tail.head).seven.2.2.2.2.2.2.2.1, (KB.tail.tail.tail.tail.head).seven.2.1, (KB.tail.tail.tail.tail.head).seven.2.2.1, (KB.tail.tail.tail.tail.head).seven.2.2.2.1, (KB.tail.tail.tail.tail.head).seven.2.2.2.2.1, (KB.tail.tail.tail.tail.head).seven.2.2.2.2.2.1, (KB.tail.tail.tail.tail.head).seven.2.2.2.2.2.2.1, (KB.tail.tail.tail.tail.head).seven.2.2.2.2.2.2.2.1⟩) | (with_reducible exact ⟨(KB.drew.head).two.2.1, (KB.drew.head).two.2.2.1, (KB.drew.tail.head).two.2.1, (KB.drew.tail.head).two.2.2.1, (KB.drew.tail.tail.tail.head).seven.2.1, (KB.drew.tail.tail.tail.head).seven.2.2.1, (KB.drew.tail.tail.tail.head).seven.2.2.2.1, (KB.drew.tail.tail.tail.head).seven.2.2.2.2.1, (KB.drew.tail.tail.tail.head).seven.2.2.2.2.2.1, (KB.drew.tail.tail.tail.head).seven.2.2.2.2.2.2.1, (KB.drew.tail.tail.tail.head).seven.2.2.2.2.2.2.2.1, (KB.drew.tail.tail.tail.tail.head).seven.2.1, (KB.drew.tail.tail.tail.tail.head).seven.2.2.1, (KB.drew.tail.tail.tail.tail.head).seven.2.2.2.1, (KB.drew.tail.tail.tail.tail.head).seven.2.2.2.2.1, (KB.drew.tail.tail.tail.tail.head).seven.2.2.2.2.2.1, (KB.drew.tail.tail.tail.tail.head).seven.2.2.2.2.2.2.1, (KB.drew.tail.tail.tail.tail.head).seven.2.2.2.2.2.2.2.1⟩) | go_keep)
    (first
      | (go_at_call 24; (with_reducible refine (WC.out _ (by with_reducible first | exact L.mono KB.hb | exact L.mono KB.drew.hb)).mono ?_); rintro e W9 ⟨rfl, k⟩
         with_reducible (first | replace KB := KB.below k | replace KB := KB.drew.below k)
         clear k
         obtain ⟨_, k0a, k0b, _⟩ := (KB.head).two
         obtain ⟨_, k1a, k1b, _⟩ := (KB.tail.head).two
         obtain ⟨_, k2a, k2b, k2c, k2d, k2e, k2f, k2g, _⟩ := (KB.tail.tail.tail.head).seven
         obtain ⟨_, k3a, k3b, k3c, k3d, k3e, k3f, k3g, _⟩ := (KB.tail.tail.tail.tail.head).seven)
      | (go_at_call 20; (with_reducible refine (CM.out _ (by with_reducible first | exact L.mono KB.hb | exact L.mono KB.drew.hb)).mono ?_); rintro e W9 ⟨rfl, k⟩
         with_reducible (first | replace KB := KB.below k | replace KB := KB.drew.below k)
         clear k
         obtain ⟨_, k0a, k0b, _⟩ := (KB.head).two
         obtain ⟨_, k1a, k1b, _⟩ := (KB.tail.head).two
         obtain ⟨_, k2a, k2b, k2c, k2d, k2e, k2f, k2g, _⟩ := (KB.tail.tail.tail.head).seven
         obtain ⟨_, k3a, k3b, k3c, k3d, k3e, k3f, k3g, _⟩ := (KB.tail.tail.tail.tail.head).seven)
      | (go_at_call 15; (with_reducible refine (AL.out _ (by with_reducible first | exact L.mono KB.hb | exact L.mono KB.drew.hb)).mono ?_); rintro e W9 ⟨rfl, k⟩
         with_reducible (first | replace KB := KB.below k | replace KB := KB.drew.below k)
         clear k
         obtain ⟨_, k0a, k0b, _⟩ := (KB.head).two
         obtain ⟨_, k1a, k1b, _⟩ := (KB.tail.head).two
         obtain ⟨_, k2a, k2b, k2c, k2d, k2e, k2f, k2g, _⟩ := (KB.tail.tail.tail.head).seven
         obtain ⟨_, k3a, k3b, k3c, k3d, k3e, k3f, k3g, _⟩ := (KB.tail.tail.tail.tail.head).seven))
  replace KB := KB.below (Below.refl _ _)
  obtain ⟨_, q0a, q0b, q0c, q0d, q0e, q0f, q0g, _⟩ := (KB.tail.tail.tail.tail.head).seven
  obtain ⟨_, q1a, q1b, _⟩ := (KB.tail.tail.head).two
  go_wp2_with fail
  clear q0a q0b q0c q0d q0e q0f q0g q1a q1b
  refine (AD.out _ (L.mono KB.hb)).mono ?_
  rintro e w5 ⟨rfl, k⟩
  replace KB := KB.below k
  clear k
  go_upto_region 6 with (fail)
  have ix0 : w5.heap.size ≠ g := Nat.ne_of_gt (KB.head).lt
  have ox0 := Ne.symm ix0
  have ix1 : w5.heap.size ≠ f := Nat.ne_of_gt (KB.tail.head).lt
  have ox1 := Ne.symm ix1
  have ix2 : w5.heap.size ≠ w.heap.size + 1 + 1 := Nat.ne_of_gt (KB.tail.tail.head).lt
  have ox2 := Ne.symm ix2
  have ix3 : w5.heap.size ≠ w.heap.size + 1 := Nat.ne_of_gt (KB.tail.tail.tail.head).lt
  have ox3 := Ne.symm ix3
  have ix4 : w5.heap.size ≠ w.heap.size := Nat.ne_of_gt (KB.tail.tail.tail.tail.head).lt
  have ox4 := Ne.symm ix4
  have ggx : w.heap.size ≤ w5.heap.size := KB.hb.size
  replace KB := KB.more7 (.int .i64 (u0)) (.int .i64 (u1)) (.int .i64 (u2)) (.int .i64 (u3)) (.int .i64 (u4)) (.int .i64 (u5)) (.int .i64 (u6)) 27
  generalize w5.alloc (.cells #[.int .i64 (u0), .int .i64 (u1), .int .i64 (u2), .int .i64 (u3), .int .i64 (u4), .int .i64 (u5), .int .i64 (u6)] 27) = w6 at *
  generalize w5.heap.size = x at *
  obtain ⟨_, q0a, q0b, q0c, q0d, q0e, q0f, q0g, _⟩ := (KB.tail.tail.tail.tail.tail.head).seven
  obtain ⟨_, q1a, q1b, q1c, q1d, q1e, q1f, q1g, _⟩ := (KB.head).seven
  go_wp2_with fail
  clear q0a q0b q0c q0d q0e q0f q0g q1a q1b q1c q1d q1e q1f q1g
  refine (SI.out _ (L.mono KB.hb)).mono ?_
  rintro e w7 ⟨rfl, k⟩
  replace KB := KB.below k
  clear k
  go_upto_region 9 with (fail)
  have iv0 : w7.heap.size ≠ x := Nat.ne_of_gt (KB.head).lt
  have ov0 := Ne.symm iv0
  have iv1 : w7.heap.size ≠ g := Nat.ne_of_gt (KB.tail.head).lt
  have ov1 := Ne.symm iv1
  have iv2 : w7.heap.size ≠ f := Nat.ne_of_gt (KB.tail.tail.head).lt
  have ov2 := Ne.symm iv2
  have iv3 : w7.heap.size ≠ w.heap.size + 1 + 1 := Nat.ne_of_gt (KB.tail.tail.tail.head).lt
  have ov3 := Ne.symm iv3
  have iv4 : w7.heap.size ≠ w.heap.size + 1 := Nat.ne_of_gt (KB.tail.tail.tail.tail.head).lt
  have ov4 := Ne.symm iv4
  have iv5 : w7.heap.size ≠ w.heap.size := Nat.ne_of_gt (KB.tail.tail.tail.tail.tail.head).lt
  have ov5 := Ne.symm iv5
  have ggv : w.heap.size ≤ w7.heap.size := KB.hb.size
  replace KB := KB.more2 (.int .i64 (hiW a)) (.int .u64 (loW a)) 30
  generalize w7.alloc (.cells #[.int .i64 (hiW a), .int .u64 (loW a)] 30) = w8 at *
  generalize w7.heap.size = v at *
  obtain ⟨_, j0a, j0b, _⟩ := (KB.head).two
  obtain ⟨_, j1a, j1b, j1c, j1d, j1e, j1f, j1g, _⟩ := (KB.tail.head).seven
  obtain ⟨_, j2a, j2b, _⟩ := (KB.tail.tail.tail.tail.head).two
  obtain ⟨_, j3a, j3b, j3c, j3d, j3e, j3f, j3g, _⟩ := (KB.tail.tail.tail.tail.tail.tail.head).seven
  go_region_held3 (fun w' => w'.cell? ⟨v, 0, none⟩ = some (.int .i64 (hiW a)) ∧ w'.cell? ⟨v, 1, none⟩ = some (.int .u64 (loW a)) ∧ w'.cell? ⟨x, 0, none⟩ = some (.int .i64 (u0)) ∧ w'.cell? ⟨x, 1, none⟩ = some (.int .i64 (u1)) ∧ w'.cell? ⟨x, 2, none⟩ = some (.int .i64 (u2)) ∧ w'.cell? ⟨x, 3, none⟩ = some (.int .i64 (u3)) ∧ w'.cell? ⟨x, 4, none⟩ = some (.int .i64 (u4)) ∧ w'.cell? ⟨x, 5, none⟩ = some (.int .i64 (u5)) ∧ w'.cell? ⟨x, 6, none⟩ = some (.int .i64 (u6)) ∧ w'.cell? ⟨w.heap.size + 1 + 1, 0, none⟩ = some (.int .i64 (hiW a)) ∧ w'.cell? ⟨w.heap.size + 1 + 1, 1, none⟩ = some (.int .u64 (loW a)) ∧ w'.cell? ⟨w.heap.size, 0, none⟩ = some (.int .i64 (y)) ∧ w'.cell? ⟨w.heap.size, 1, none⟩ = some (.int .i64 (m)) ∧ w'.cell? ⟨w.heap.size, 2, none⟩ = some (.int .i64 (d)) ∧ w'.cell? ⟨w.heap.size, 3, none⟩ = some (.int .i64 (h)) ∧ w'.cell? ⟨w.heap.size, 4, none⟩ = some (.int .i64 (i)) ∧ w'.cell? ⟨w.heap.size, 5, none⟩ = some (.int .i64 (s)) ∧ w'.cell? ⟨w.heap.size, 6, none⟩ = some (.int .i64 (n))) (first | (with_reducible exact ⟨(KB.head).two.2.1, (KB.head).two.2.2.1, (KB.tail.head).seven.2.1, (KB.tail.head).seven.2.2.1, (KB.tail.head).seven.2.2.2.1, (KB.tail.head).seven.2.2.2.2.1, (KB.tail.head).seven.2.2.2.2.2.1, (KB.tail.head).seven.2.2.2.2.2.2.1, (KB.tail.head).seven.2.2.2.2.2.2.2.1, (KB.tail.tail.tail.tail.head).two.2.1, (KB.tail.tail.tail.tail.head).two.2.2.1, (KB.tail.tail.tail.tail.tail.tail.head).seven.2.1, (KB.tail.tail.tail.tail.tail.tail.head).seven.2.2.1, (KB.tail.tail.tail.tail.tail.tail.head).seven.2.2.2.1, (KB.tail.tail.tail.tail.tail.tail.head).seven.2.2.2.2.1, (KB.tail.tail.tail.tail.tail.tail.head).seven.2.2.2.2.2.1, (KB.tail.tail.tail.tail.tail.tail.head).seven.2.2.2.2.2.2.1, (KB.tail.tail.tail.tail.tail.tail.head).seven.2.2.2.2.2.2.2.1⟩) | (with_reducible exact ⟨(KB.drew.head).two.2.1, (KB.drew.head).two.2.2.1, (KB.drew.tail.head).seven.2.1, (KB.drew.tail.head).seven.2.2.1, (KB.drew.tail.head).seven.2.2.2.1, (KB.drew.tail.head).seven.2.2.2.2.1, (KB.drew.tail.head).seven.2.2.2.2.2.1, (KB.drew.tail.head).seven.2.2.2.2.2.2.1, (KB.drew.tail.head).seven.2.2.2.2.2.2.2.1, (KB.drew.tail.tail.tail.tail.head).two.2.1, (KB.drew.tail.tail.tail.tail.head).two.2.2.1, (KB.drew.tail.tail.tail.tail.tail.tail.head).seven.2.1, (KB.drew.tail.tail.tail.tail.tail.tail.head).seven.2.2.1, (KB.drew.tail.tail.tail.tail.tail.tail.head).seven.2.2.2.1, (KB.drew.tail.tail.tail.tail.tail.tail.head).seven.2.2.2.2.1, (KB.drew.tail.tail.tail.tail.tail.tail.head).seven.2.2.2.2.2.1, (KB.drew.tail.tail.tail.tail.tail.tail.head).seven.2.2.2.2.2.2.1, (KB.drew.tail.tail.tail.tail.tail.tail.head).seven.2.2.2.2.2.2.2.1⟩) | go_keep)
    (first
      | (go_at_call 20; (with_reducible refine (CX.out _ (by with_reducible first | exact L.mono KB.hb | exact L.mono KB.drew.hb)).mono ?_); rintro e W9 ⟨rfl, k⟩
         with_reducible (first | replace KB := KB.below k | replace KB := KB.drew.below k)
         clear k
         obtain ⟨_, k0a, k0b, _⟩ := (KB.head).two
         obtain ⟨_, k1a, k1b, k1c, k1d, k1e, k1f, k1g, _⟩ := (KB.tail.head).seven
         obtain ⟨_, k2a, k2b, _⟩ := (KB.tail.tail.tail.tail.head).two
         obtain ⟨_, k3a, k3b, k3c, k3d, k3e, k3f, k3g, _⟩ := (KB.tail.tail.tail.tail.tail.tail.head).seven)
      | (go_at_call 25; (with_reducible refine (SG.out _ (by with_reducible first | exact L.mono KB.hb | exact L.mono KB.drew.hb)).mono ?_); rintro e W9 ⟨rfl, k⟩
         with_reducible (first | replace KB := KB.below k | replace KB := KB.drew.below k)
         clear k
         obtain ⟨_, k0a, k0b, _⟩ := (KB.head).two
         obtain ⟨_, k1a, k1b, k1c, k1d, k1e, k1f, k1g, _⟩ := (KB.tail.head).seven
         obtain ⟨_, k2a, k2b, _⟩ := (KB.tail.tail.tail.tail.head).two
         obtain ⟨_, k3a, k3b, k3c, k3d, k3e, k3f, k3g, _⟩ := (KB.tail.tail.tail.tail.tail.tail.head).seven))
  all_goals
    go_wp2
    go_ret
    exact ⟨rfl, by first | exact KB.hb | exact KB.drew.hb⟩
theorem plainOrders_walk (C : PlainP) (y m d h i s n y' m' d' h' i' s' n' a : Int) (i0 : In64 y) (i1 : In64 m) (i2 : In64 d) (i3 : In64 h) (i4 : In64 i) (i5 : In64 s) (i6 : In64 n) (j0 : In64 y') (j1 : In64 m') (j2 : In64 d') (j3 : In64 h') (j4 : In64 i') (j5 : In64 s') (j6 : In64 n') (ha : InW a) (w : World) (L : Tabs w) : Calls Tryd.prog 6 #[.agg #[.int .i64 (y), .int .i64 (m), .int .i64 (d), .int .i64 (h), .int .i64 (i), .int .i64 (s), .int .i64 (n)], .agg #[.int .i64 (y'), .int .i64 (m'), .int .i64 (d'), .int .i64 (h'), .int .i64 (i'), .int .i64 (s'), .int .i64 (n')], .agg #[.int .i64 (hiW a), .int .u64 (loW a)]] w (RetV w (.bool true)) := by
  have AL := Lib.hid fun W l => alive7 C W l
  have SG := Lib.hid fun W (_ : Tabs W) => wideSign a W
  by_cases k : okX y m d h i s n
  · have N1 := Lib.hid fun W l => C.nanos_yes y m d h i s n k W l
    by_cases b : numX y m d h i s n + a ≤ -8640000086400000000000 ∨ 8640000086400000000000 ≤ numX y m d h i s n + a
    · have AD := Lib.hid fun W l => C.add_none y m d h i s n a k ha b W l
      by_cases k' : okX y' m' d' h' i' s' n'
      · have WC : ∀ W, Tabs W → Calls Tryd.prog 24 #[.agg #[.int .i64 (hiW (numX y m d h i s n)), .int .u64 (loW (numX y m d h i s n))], .agg #[.int .i64 (hiW (numX y' m' d' h' i' s' n')), .int .u64 (loW (numX y' m' d' h' i' s' n'))]] W (RetV W (.int .i64 (ord (numX y m d h i s n) (numX y' m' d' h' i' s' n')))) := fun W _ => wideCmp _ _ W
        have CM := fun W l => C.cmp y m d h i s n y' m' d' h' i' s' n' W l
        rw [cmpX_ord k k'] at CM
        exact orders7_tt_none y m d h i s n y' m' d' h' i' s' n' a _ _ _ _ _ N1 (Lib.hid fun W l => C.nanos_yes y' m' d' h' i' s' n' k' W l) AL (Lib.hid WC) (Lib.hid CM) AD w L
      · exact orders7_tf_none y m d h i s n y' m' d' h' i' s' n' a _ _ _ _ N1 (Lib.hid fun W l => C.nanos_no y' m' d' h' i' s' n' j0 j1 j2 j3 j4 j5 j6 k' W l) AL AD w L
    · obtain ⟨u0, u1, u2, u3, u4, u5, u6, ku, e, _⟩ := both_of (N := numX y m d h i s n + a) (by omega) (by omega)
      have AD := Lib.hid fun W l => C.add_yes y m d h i s n a u0 u1 u2 u3 u4 u5 u6 k ha ku e W l
      have SI := fun W l => C.since_yes y m d h i s n u0 u1 u2 u3 u4 u5 u6 k ku W l
      rw [show numX u0 u1 u2 u3 u4 u5 u6 - numX y m d h i s n = a by omega] at SI
      have CX := fun W l => C.cmp u0 u1 u2 u3 u4 u5 u6 y m d h i s n W l
      rw [cmpX_ord ku k, e, ord_diff] at CX
      by_cases k' : okX y' m' d' h' i' s' n'
      · have WC : ∀ W, Tabs W → Calls Tryd.prog 24 #[.agg #[.int .i64 (hiW (numX y m d h i s n)), .int .u64 (loW (numX y m d h i s n))], .agg #[.int .i64 (hiW (numX y' m' d' h' i' s' n')), .int .u64 (loW (numX y' m' d' h' i' s' n'))]] W (RetV W (.int .i64 (ord (numX y m d h i s n) (numX y' m' d' h' i' s' n')))) := fun W _ => wideCmp _ _ W
        have CM := fun W l => C.cmp y m d h i s n y' m' d' h' i' s' n' W l
        rw [cmpX_ord k k'] at CM
        exact orders7_tt_yes y m d h i s n y' m' d' h' i' s' n' a _ _ _ _ u0 u1 u2 u3 u4 u5 u6 _ _ N1 (Lib.hid fun W l => C.nanos_yes y' m' d' h' i' s' n' k' W l) AL (Lib.hid WC) (Lib.hid CM) AD (Lib.hid SI) (Lib.hid CX) SG w L
      · exact orders7_tf_yes y m d h i s n y' m' d' h' i' s' n' a _ _ _ _ u0 u1 u2 u3 u4 u5 u6 _ N1 (Lib.hid fun W l => C.nanos_no y' m' d' h' i' s' n' j0 j1 j2 j3 j4 j5 j6 k' W l) AL AD (Lib.hid SI) (Lib.hid CX) SG w L
  · have N1 := Lib.hid fun W l => C.nanos_no y m d h i s n i0 i1 i2 i3 i4 i5 i6 k W l
    have AD := Lib.hid fun W l => C.add_bad y m d h i s n a i0 i1 i2 i3 i4 i5 i6 ha k W l
    by_cases k' : okX y' m' d' h' i' s' n'
    · exact orders7_fv_bad y m d h i s n y' m' d' h' i' s' n' a _ _ _ _ true N1 (Lib.hid fun W l => C.nanos_yes y' m' d' h' i' s' n' k' W l) AL AD w L
    · exact orders7_fv_bad y m d h i s n y' m' d' h' i' s' n' a _ _ _ _ false N1 (Lib.hid fun W l => C.nanos_no y' m' d' h' i' s' n' j0 j1 j2 j3 j4 j5 j6 k' W l) AL AD w L
end Go.Proofs.YtlidicnbmfkghaaDoor
