/- The walk of ClockRounds: at any two times, any increment and any mode it returns true; what was there is as it was. -/
import Derived.Test.YteggdabnhdjfcaaDoorKalive
import Derived.Deep.RegionHeld3
namespace Go.Proofs.YteggdabnhdjfcaaDoor
open Go.RowKit

set_option maxRecDepth 100000 in
set_option maxHeartbeats 8000000 in
theorem rounds6_core (h m s n h' m' s' n' ic mo x0 x1 x2 x3 k e c : Int) (A1 : Hid (∀ W, Sizes W → Calls Tryd.prog 20 #[.agg #[.int .i64 (h), .int .i64 (m), .int .i64 (s), .int .i64 (n)], .int .i64 ic, .int .i64 mo] W (fun o w' => o = .returned (.tuple #[.agg #[.int .i64 (x0), .int .i64 (x1), .int .i64 (x2), .int .i64 (x3)], .int .i64 (k), .int .i64 (e)]) ∧ Below W.heap.size W w'))) (A2 : Hid (∀ W, Sizes W → Calls Tryd.prog 21 #[.agg #[.int .i64 (h), .int .i64 (m), .int .i64 (s), .int .i64 (n)], .int .i64 ic, .int .i64 mo] W (fun o w' => o = .returned (.tuple #[.agg #[.int .i64 (x0), .int .i64 (x1), .int .i64 (x2), .int .i64 (x3)], .int .i64 (k), .int .i64 (e)]) ∧ Below W.heap.size W w'))) (C1 : Hid (∀ W, Sizes W → Calls Tryd.prog 22 #[.agg #[.int .i64 (h), .int .i64 (m), .int .i64 (s), .int .i64 (n)], .agg #[.int .i64 (h'), .int .i64 (m'), .int .i64 (s'), .int .i64 (n')]] W (fun o w' => o = .returned (.int .i64 (c)) ∧ Below W.heap.size W w'))) (C2 : Hid (∀ W, Sizes W → Calls Tryd.prog 23 #[.agg #[.int .i64 (h), .int .i64 (m), .int .i64 (s), .int .i64 (n)], .agg #[.int .i64 (h'), .int .i64 (m'), .int .i64 (s'), .int .i64 (n')]] W (fun o w' => o = .returned (.int .i64 (c)) ∧ Below W.heap.size W w'))) (AL : Hid (∀ W, Sizes W → Calls Tryd.prog 14 #[] W (fun o w' => o = .returned (.bool true) ∧ Below W.heap.size W w'))) (w : World) (L : Sizes w) :
    Calls Tryd.prog 6 #[.agg #[.int .i64 (h), .int .i64 (m), .int .i64 (s), .int .i64 (n)], .agg #[.int .i64 (h'), .int .i64 (m'), .int .i64 (s'), .int .i64 (n')], .int .i64 ic, .int .i64 mo] w (RetV w (.bool true)) := by
  go_enter Tryd.func6, Tryd.ntmps6
  go_upto_region 1 with (fail)
  have KB := (((BK.nil w).more4 (.int .i64 (h)) (.int .i64 (m)) (.int .i64 (s)) (.int .i64 (n)) 23).more4 (.int .i64 (h')) (.int .i64 (m')) (.int .i64 (s')) (.int .i64 (n')) 23)
  simp only [World.size_alloc] at KB
  generalize ((w.alloc (.cells #[.int .i64 (h), .int .i64 (m), .int .i64 (s), .int .i64 (n)] 23)).alloc (.cells #[.int .i64 (h'), .int .i64 (m'), .int .i64 (s'), .int .i64 (n')] 23)) = w0 at *
  obtain ⟨_, q0a, q0b, q0c, q0d, _⟩ := (KB.tail.head).four
  go_wp2_with fail
  clear q0a q0b q0c q0d
  refine (A1.out _ (L.mono KB.hb)).mono ?_
  rintro e w1 ⟨rfl, k⟩
  replace KB := KB.below k
  clear k
  go_upto_region 2 with (fail)
  have ig0 : w1.heap.size ≠ w.heap.size + 1 := Nat.ne_of_gt (KB.head).lt
  have og0 := Ne.symm ig0
  have ig1 : w1.heap.size ≠ w.heap.size := Nat.ne_of_gt (KB.tail.head).lt
  have og1 := Ne.symm ig1
  have ggg : w.heap.size ≤ w1.heap.size := KB.hb.size
  replace KB := KB.more4 (.int .i64 (x0)) (.int .i64 (x1)) (.int .i64 (x2)) (.int .i64 (x3)) 23
  generalize w1.alloc (.cells #[.int .i64 (x0), .int .i64 (x1), .int .i64 (x2), .int .i64 (x3)] 23) = w2 at *
  generalize w1.heap.size = g at *
  obtain ⟨_, q0a, q0b, q0c, q0d, _⟩ := (KB.tail.tail.head).four
  go_wp2_with fail
  clear q0a q0b q0c q0d
  refine (A2.out _ (L.mono KB.hb)).mono ?_
  rintro e w3 ⟨rfl, k⟩
  replace KB := KB.below k
  clear k
  go_upto_region 3 with (fail)
  have ip0 : w3.heap.size ≠ g := Nat.ne_of_gt (KB.head).lt
  have op0 := Ne.symm ip0
  have ip1 : w3.heap.size ≠ w.heap.size + 1 := Nat.ne_of_gt (KB.tail.head).lt
  have op1 := Ne.symm ip1
  have ip2 : w3.heap.size ≠ w.heap.size := Nat.ne_of_gt (KB.tail.tail.head).lt
  have op2 := Ne.symm ip2
  have ggp : w.heap.size ≤ w3.heap.size := KB.hb.size
  replace KB := KB.more4 (.int .i64 (x0)) (.int .i64 (x1)) (.int .i64 (x2)) (.int .i64 (x3)) 23
  generalize w3.alloc (.cells #[.int .i64 (x0), .int .i64 (x1), .int .i64 (x2), .int .i64 (x3)] 23) = w4 at *
  generalize w3.heap.size = p at *
  obtain ⟨_, j0a, j0b, j0c, j0d, _⟩ := (KB.head).four
  obtain ⟨_, j1a, j1b, j1c, j1d, _⟩ := (KB.tail.head).four
  obtain ⟨_, j2a, j2b, j2c, j2d, _⟩ := (KB.tail.tail.head).four
  obtain ⟨_, j3a, j3b, j3c, j3d, _⟩ := (KB.tail.tail.tail.head).four
  go_region_held3 (fun w' => w'.cell? ⟨p, 0, none⟩ = some (.int .i64 (x0)) ∧ w'.cell? ⟨p, 1, none⟩ = some (.int .i64 (x1)) ∧ w'.cell? ⟨p, 2, none⟩ = some (.int .i64 (x2)) ∧ w'.cell? ⟨p, 3, none⟩ = some (.int .i64 (x3)) ∧ w'.cell? ⟨g, 0, none⟩ = some (.int .i64 (x0)) ∧ w'.cell? ⟨g, 1, none⟩ = some (.int .i64 (x1)) ∧ w'.cell? ⟨g, 2, none⟩ = some (.int .i64 (x2)) ∧ w'.cell? ⟨g, 3, none⟩ = some (.int .i64 (x3)) ∧ w'.cell? ⟨w.heap.size + 1, 0, none⟩ = some (.int .i64 (h')) ∧ w'.cell? ⟨w.heap.size + 1, 1, none⟩ = some (.int .i64 (m')) ∧ w'.cell? ⟨w.heap.size + 1, 2, none⟩ = some (.int .i64 (s')) ∧ w'.cell? ⟨w.heap.size + 1, 3, none⟩ = some (.int .i64 (n')) ∧ w'.cell? ⟨w.heap.size, 0, none⟩ = some (.int .i64 (h)) ∧ w'.cell? ⟨w.heap.size, 1, none⟩ = some (.int .i64 (m)) ∧ w'.cell? ⟨w.heap.size, 2, none⟩ = some (.int .i64 (s)) ∧ w'.cell? ⟨w.heap.size, 3, none⟩ = some (.int .i64 (n))) (first | (with_reducible exact ⟨(KB.head).four.2.1, (KB.head).four.2.2.1, (KB.head).four.2.2.2.1, (KB.head).four.2.2.2.2.1, (KB.tail.head).four.2.1, (KB.tail.head).four.2.2.1, (KB.tail.head).four.2.2.2.1, (KB.tail.head).four.2.2.2.2.1, (KB.tail.tail.head).four.2.1, (KB.tail.tail.head).four.2.2.1, (KB.tail.tail.head).four.2.2.2.1, (KB.tail.tail.head).four.2.2.2.2.1, (KB.tail.tail.tail.head).four.2.1, (KB.tail.tail.tail.head).four.2.2.1, (KB.tail.tail.tail.head).four.2.2.2.1, (KB.tail.tail.tail.head).four.2.2.2.2.1⟩) | (with_reducible exact ⟨(KB.drew.head).four.2.1, (KB.drew.head).four.2.2.1, (KB.drew.head).four.2.2.2.1, (KB.drew.head).four.2.2.2.2.1, (KB.drew.tail.head).four.2.1, (KB.drew.tail.head).four.2.2.1, (KB.drew.tail.head).four.2.2.2.1, (KB.drew.tail.head).four.2.2.2.2.1, (KB.drew.tail.tail.head).four.2.1, (KB.drew.tail.tail.head).four.2.2.1, (KB.drew.tail.tail.head).four.2.2.2.1, (KB.drew.tail.tail.head).four.2.2.2.2.1, (KB.drew.tail.tail.tail.head).four.2.1, (KB.drew.tail.tail.tail.head).four.2.2.1, (KB.drew.tail.tail.tail.head).four.2.2.2.1, (KB.drew.tail.tail.tail.head).four.2.2.2.2.1⟩) | go_keep)
    (first
      | (go_at_call 14; (with_reducible refine (AL.out _ (by with_reducible first | exact L.mono KB.hb | exact L.mono KB.drew.hb)).mono ?_); rintro e W9 ⟨rfl, k⟩
         with_reducible (first | replace KB := KB.below k | replace KB := KB.drew.below k)
         clear k
         obtain ⟨_, k0a, k0b, k0c, k0d, _⟩ := (KB.head).four
         obtain ⟨_, k1a, k1b, k1c, k1d, _⟩ := (KB.tail.head).four
         obtain ⟨_, k2a, k2b, k2c, k2d, _⟩ := (KB.tail.tail.head).four
         obtain ⟨_, k3a, k3b, k3c, k3d, _⟩ := (KB.tail.tail.tail.head).four)
      | (go_at_call 22; (with_reducible refine (C1.out _ (by with_reducible first | exact L.mono KB.hb | exact L.mono KB.drew.hb)).mono ?_); rintro e W9 ⟨rfl, k⟩
         with_reducible (first | replace KB := KB.below k | replace KB := KB.drew.below k)
         clear k
         obtain ⟨_, k0a, k0b, k0c, k0d, _⟩ := (KB.head).four
         obtain ⟨_, k1a, k1b, k1c, k1d, _⟩ := (KB.tail.head).four
         obtain ⟨_, k2a, k2b, k2c, k2d, _⟩ := (KB.tail.tail.head).four
         obtain ⟨_, k3a, k3b, k3c, k3d, _⟩ := (KB.tail.tail.tail.head).four)
      | (go_at_call 23; (with_reducible refine (C2.out _ (by with_reducible first | exact L.mono KB.hb | exact L.mono KB.drew.hb)).mono ?_); rintro e W9 ⟨rfl, k⟩
         with_reducible (first | replace KB := KB.below k | replace KB := KB.drew.below k)
         clear k
         obtain ⟨_, k0a, k0b, k0c, k0d, _⟩ := (KB.head).four
         obtain ⟨_, k1a, k1b, k1c, k1d, _⟩ := (KB.tail.head).four
         obtain ⟨_, k2a, k2b, k2c, k2d, _⟩ := (KB.tail.tail.head).four
         obtain ⟨_, k3a, k3b, k3c, k3d, _⟩ := (KB.tail.tail.tail.head).four))
  all_goals
    go_wp2
    go_ret
    exact ⟨rfl, by first | exact KB.hb | exact KB.drew.hb⟩
theorem clockRounds_walk (C : ClockP) (h m s n h' m' s' n' ic mo : Int) (i1 : In64 h) (i2 : In64 m) (i3 : In64 s) (i4 : In64 n) (_ : In64 h') (_ : In64 m') (_ : In64 s') (_ : In64 n') (i5 : In64 ic) (i6 : In64 mo) (w : World) (L : Sizes w) :
    Calls Tryd.prog 6 #[.agg #[.int .i64 (h), .int .i64 (m), .int .i64 (s), .int .i64 (n)], .agg #[.int .i64 (h'), .int .i64 (m'), .int .i64 (s'), .int .i64 (n')], .int .i64 ic, .int .i64 mo] w (RetV w (.bool true)) := by
  have AL := Lib.hid fun W l => alive6 C W l
  have C1 := Lib.hid fun W l => C.cmp h m s n h' m' s' n' W l
  have C2 := Lib.hid fun (W : World) (_ : Sizes W) => cmpTR h m s n h' m' s' n' W
  by_cases b : ¬ okT h m s n ∨ ic < 1 ∨ 86400000000000 < ic ∨ (86400000000000 : Int) % ic ≠ 0 ∨ mo < 1 ∨ 9 < mo
  · exact rounds6_core h m s n h' m' s' n' ic mo _ _ _ _ _ _ _ (Lib.hid fun W l => C.round_bad h m s n ic mo i1 i2 i3 i4 i5 i6 b W l) (Lib.hid fun (W : World) (_ : Sizes W) => roundTR_bad b W) C1 C2 AL w L
  · have k : okT h m s n := Classical.byContradiction fun c => b (.inl c)
    have h1 : ¬ ic < 1 := fun c => b (.inr (.inl c))
    have h2 : ¬ 86400000000000 < ic := fun c => b (.inr (.inr (.inl c)))
    have h3 : (86400000000000 : Int) % ic = 0 := Classical.byContradiction fun c => b (.inr (.inr (.inr (.inl c))))
    have m1 : 1 ≤ mo := by apply Classical.byContradiction; intro c; exact b (.inr (.inr (.inr (.inr (.inl (by omega))))))
    have m9 : mo ≤ 9 := by apply Classical.byContradiction; intro c; exact b (.inr (.inr (.inr (.inr (.inr (by omega))))))
    by_cases e : rndT (numT h m s n) ic mo = 86400000000000
    · exact rounds6_core h m s n h' m' s' n' ic mo _ _ _ _ _ _ _ (Lib.hid fun W l => C.round_day h m s n ic mo k h1 h2 h3 m1 m9 e W l) (Lib.hid fun (W : World) (_ : Sizes W) => roundTR_day k h1 h2 h3 m1 m9 e W) C1 C2 AL w L
    · have r := numT_range k
      have q := rnd_range (mo := mo) r.1 r.2 (by omega) h3
      obtain ⟨x0, x1, x2, x3, hx, ex⟩ := time_of (n := rndT (numT h m s n) ic mo) q.1 (by omega)
      exact rounds6_core h m s n h' m' s' n' ic mo _ _ _ _ _ _ _ (Lib.hid fun W l => C.round_yes h m s n ic mo x0 x1 x2 x3 k h1 h2 h3 m1 m9 hx ex W l) (Lib.hid fun (W : World) (_ : Sizes W) => roundTR k h1 h2 h3 m1 m9 hx ex W) C1 C2 AL w L
end Go.Proofs.YteggdabnhdjfcaaDoor
