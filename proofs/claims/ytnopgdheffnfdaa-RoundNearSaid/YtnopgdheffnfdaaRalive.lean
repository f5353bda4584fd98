/- What the statements of layer 4 ask besides: the answers that every right program gives. -/
import Derived.Test.YtnopgdheffnfdaaRup
import Derived.Deep.RegionHeld3
namespace Go.Proofs.Ytnopgdheffnfdaa
open Go.RowKit

set_option maxRecDepth 100000 in
set_option maxHeartbeats 4000000 in
theorem alive4_core (a0 a1 b0 b1 c0 c1 d0 d1 e0 e1 f0 f1 : Int) (O1 : Hid (∀ W, Calls Try.prog 14 #[.int .i64 (-15)] W (fun o w' => o = .returned (.agg #[.int .i64 a0, .int .u64 a1]) ∧ Below W.heap.size W w'))) (O2 : Hid (∀ W, Calls Try.prog 14 #[.int .i64 10] W (fun o w' => o = .returned (.agg #[.int .i64 b0, .int .u64 b1]) ∧ Below W.heap.size W w'))) (TO : Hid (∀ W, Calls Try.prog 9 #[.agg #[.int .i64 a0, .int .u64 a1], .agg #[.int .i64 b0, .int .u64 b1], .int .i64 7] W (fun o w' => o = .returned (.tuple #[.agg #[.int .i64 c0, .int .u64 c1], .int .i64 0]) ∧ Below W.heap.size W w'))) (O3 : Hid (∀ W, Calls Try.prog 14 #[.int .i64 7] W (fun o w' => o = .returned (.agg #[.int .i64 d0, .int .u64 d1]) ∧ Below W.heap.size W w'))) (O4 : Hid (∀ W, Calls Try.prog 14 #[.int .i64 (-2)] W (fun o w' => o = .returned (.agg #[.int .i64 e0, .int .u64 e1]) ∧ Below W.heap.size W w'))) (RA : Hid (∀ W, Calls Try.prog 12 #[.agg #[.int .i64 d0, .int .u64 d1], .agg #[.int .i64 e0, .int .u64 e1], .int .i64 9] W (fun o w' => o = .returned (.tuple #[.agg #[.int .i64 f0, .int .u64 f1], .int .i64 0]) ∧ Below W.heap.size W w'))) (O5 : Hid (∀ W, Calls Try.prog 14 #[.int .i64 (-20)] W (fun o w' => o = .returned (.agg #[.int .i64 c0, .int .u64 c1]) ∧ Below W.heap.size W w'))) (O6 : Hid (∀ W, Calls Try.prog 14 #[.int .i64 (-4)] W (fun o w' => o = .returned (.agg #[.int .i64 f0, .int .u64 f1]) ∧ Below W.heap.size W w'))) (MI : Hid (∀ W, Calls Try.prog 15 #[.int .i64 1] W (fun o w' => o = .returned (.int .i64 2) ∧ Below W.heap.size W w'))) (w : World) : Calls Try.prog 11 #[] w (RetV w (.bool true)) := by
  have KB := BK.nil w
  go_enter Try.func11, Try.ntmps11
  go_wp2_with fail
  refine (O1.out _).mono ?_
  rintro e w1 ⟨rfl, k⟩
  replace KB := KB.below k
  clear k
  go_wp2_with fail
  refine (O2.out _).mono ?_
  rintro e w2 ⟨rfl, k⟩
  replace KB := KB.below k
  clear k
  go_wp2_with fail
  refine (TO.out _).mono ?_
  rintro e w3 ⟨rfl, k⟩
  replace KB := KB.below k
  clear k
  go_upto_region 2 with (fail)
  replace KB := KB.more2 (.int .i64 c0) (.int .u64 c1) 24
  generalize w3.alloc (.cells #[.int .i64 c0, .int .u64 c1] 24) = w4 at *
  generalize w3.heap.size = g at *
  go_wp2_with fail
  refine (O3.out _).mono ?_
  rintro e w5 ⟨rfl, k⟩
  replace KB := KB.below k
  clear k
  go_wp2_with fail
  refine (O4.out _).mono ?_
  rintro e w6 ⟨rfl, k⟩
  replace KB := KB.below k
  clear k
  go_wp2_with fail
  refine (RA.out _).mono ?_
  rintro e w7 ⟨rfl, k⟩
  replace KB := KB.below k
  clear k
  go_upto_region 3 with (fail)
  have hlh := KB.head.lt
  replace KB := KB.more2 (.int .i64 f0) (.int .u64 f1) 24
  generalize w7.alloc (.cells #[.int .i64 f0, .int .u64 f1] 24) = w8 at *
  have ih0 : w7.heap.size ≠ g := by omega
  have oh0 := Ne.symm ih0
  generalize w7.heap.size = h at *
  obtain ⟨_, ja0, jb0, _, _⟩ := (KB.head).two
  obtain ⟨_, ja1, jb1, _, _⟩ := (KB.tail.head).two
  go_region_held3 (fun w' => w'.cell? ⟨h, 0, none⟩ = some (.int .i64 f0) ∧ w'.cell? ⟨h, 1, none⟩ = some (.int .u64 f1) ∧ w'.cell? ⟨g, 0, none⟩ = some (.int .i64 c0) ∧ w'.cell? ⟨g, 1, none⟩ = some (.int .u64 c1)) (first | (with_reducible exact ⟨(KB.head).two.2.1, (KB.head).two.2.2.1, (KB.tail.head).two.2.1, (KB.tail.head).two.2.2.1⟩) | (with_reducible exact ⟨(KB.drew.head).two.2.1, (KB.drew.head).two.2.2.1, (KB.drew.tail.head).two.2.1, (KB.drew.tail.head).two.2.2.1⟩) | go_keep)
    (first
      | (go_at_call 14; (with_reducible refine (O5.out _).mono ?_); rintro e W9 ⟨rfl, k⟩
         with_reducible (first | replace KB := KB.below k | replace KB := KB.drew.below k)
         clear k
         obtain ⟨_, ka0, kb0, _, _⟩ := (KB.head).two
         obtain ⟨_, ka1, kb1, _, _⟩ := (KB.tail.head).two)
      | (go_at_call 14; (with_reducible refine (O6.out _).mono ?_); rintro e W9 ⟨rfl, k⟩
         with_reducible (first | replace KB := KB.below k | replace KB := KB.drew.below k)
         clear k
         obtain ⟨_, ka0, kb0, _, _⟩ := (KB.head).two
         obtain ⟨_, ka1, kb1, _, _⟩ := (KB.tail.head).two)
      | (go_at_call 15; (with_reducible refine (MI.out _).mono ?_); rintro e W9 ⟨rfl, k⟩
         with_reducible (first | replace KB := KB.below k | replace KB := KB.drew.below k)
         clear k
         obtain ⟨_, ka0, kb0, _, _⟩ := (KB.head).two
         obtain ⟨_, ka1, kb1, _, _⟩ := (KB.tail.head).two))
  all_goals
    go_wp2
    go_ret
    exact ⟨rfl, by first | exact KB.hb | exact KB.drew.hb⟩
theorem of_ret (n : Int) (h : In64 n) (W : World) : Calls Try.prog 14 #[.int .i64 n] W (fun e w' => e = .returned (.agg #[.int .i64 (hiW n), .int .u64 (loW n)]) ∧ Below W.heap.size W w') := (wideOf n h W).mono fun _ _ ⟨h1, h2⟩ => ⟨h1, h2⟩
theorem mirror_ret (m : Int) (W : World) : Calls Try.prog 15 #[.int .i64 m] W (fun e w' => e = .returned (.int .i64 (mirM m)) ∧ Below W.heap.size W w') := (mirror_any m W).mono fun _ _ ⟨h1, h2⟩ => ⟨h1, h2 ▸ Below.refl _ _⟩
theorem alive4 (w : World) : Calls Try.prog 11 #[] w (RetV w (.bool true)) :=
  have i (n : Int) (h : In64 n) : InW n := inW_of_64 h
  alive4_core _ _ _ _ _ _ _ _ _ _ _ _ (Lib.hid fun W => of_ret (-15) (by decide) W) (Lib.hid fun W => of_ret 10 (by decide) W)
    (Lib.hid fun W => (roundTo_any (-15) 10 7 (i _ (by decide)) (i _ (by decide)) (by decide) (by decide) (by decide) W).mono fun _ _ h => by rw [show nearR (-15) 10 7 * 10 = -20 by decide] at h; exact ret_in (i _ (by decide)) h)
    (Lib.hid fun W => of_ret 7 (by decide) W) (Lib.hid fun W => of_ret (-2) (by decide) W)
    (Lib.hid fun W => (ratio_any 7 (-2) 9 (i _ (by decide)) (i _ (by decide)) (by decide) (by decide) (by decide) W).mono fun _ _ h => by rw [show nearR 7 (-2) 9 = -4 by decide] at h; exact ret_in (i _ (by decide)) h)
    (Lib.hid fun W => of_ret (-20) (by decide) W) (Lib.hid fun W => of_ret (-4) (by decide) W) (Lib.hid fun W => mirror_ret 1 W) w
theorem alive_ret (W : World) : Calls Try.prog 11 #[] W (fun o w' => o = .returned (.bool true) ∧ Below W.heap.size W w') := (alive4 W).mono fun _ _ ⟨h1, h2⟩ => ⟨h1, h2⟩
end Go.Proofs.Ytnopgdheffnfdaa
