/- The walk of ClockRegulates: at any fields it returns true; what was there is as it was. -/
import Derived.Test.YteggdabnhdjfcaaDoorKalive
import Derived.Deep.RegionHeld3
namespace Go.Proofs.YteggdabnhdjfcaaDoor
open Go.RowKit

set_option maxRecDepth 100000 in
set_option maxHeartbeats 8000000 in
theorem regs6_core (h m s n o x0 x1 x2 x3 e : Int) (R1 : Hid (∀ W, Sizes W → Calls Tryd.prog 16 #[.int .i64 h, .int .i64 m, .int .i64 s, .int .i64 n, .int .i64 o] W (fun o w' => o = .returned (.tuple #[.agg #[.int .i64 (x0), .int .i64 (x1), .int .i64 (x2), .int .i64 (x3)], .int .i64 (e)]) ∧ Below W.heap.size W w'))) (R2 : Hid (∀ W, Sizes W → Calls Tryd.prog 17 #[.int .i64 h, .int .i64 m, .int .i64 s, .int .i64 n, .int .i64 o] W (fun o w' => o = .returned (.tuple #[.agg #[.int .i64 (x0), .int .i64 (x1), .int .i64 (x2), .int .i64 (x3)], .int .i64 (e)]) ∧ Below W.heap.size W w'))) (AL : Hid (∀ W, Sizes W → Calls Tryd.prog 14 #[] W (fun o w' => o = .returned (.bool true) ∧ Below W.heap.size W w'))) (w : World) (L : Sizes w) :
    Calls Tryd.prog 4 #[.agg #[.int .i64 h, .int .i64 m, .int .i64 s, .int .i64 n], .int .i64 o] w (RetV w (.bool true)) := by
  go_enter Tryd.func4, Tryd.ntmps4
  go_upto_region 1 with (fail)
  have KB := ((BK.nil w).more4 (.int .i64 h) (.int .i64 m) (.int .i64 s) (.int .i64 n) 33)
  generalize (w.alloc (.cells #[.int .i64 h, .int .i64 m, .int .i64 s, .int .i64 n] 33)) = w0 at *
  obtain ⟨_, q0a, q0b, q0c, q0d, _⟩ := (KB.head).four
  go_wp2_with fail
  clear q0a q0b q0c q0d
  refine (R1.out _ (L.mono KB.hb)).mono ?_
  rintro e w1 ⟨rfl, k⟩
  replace KB := KB.below k
  clear k
  go_upto_region 2 with (fail)
  have ig0 : w1.heap.size ≠ w.heap.size := Nat.ne_of_gt (KB.head).lt
  have og0 := Ne.symm ig0
  have ggg : w.heap.size ≤ w1.heap.size := KB.hb.size
  replace KB := KB.more4 (.int .i64 (x0)) (.int .i64 (x1)) (.int .i64 (x2)) (.int .i64 (x3)) 23
  generalize w1.alloc (.cells #[.int .i64 (x0), .int .i64 (x1), .int .i64 (x2), .int .i64 (x3)] 23) = w2 at *
  generalize w1.heap.size = g at *
  obtain ⟨_, q0a, q0b, q0c, q0d, _⟩ := (KB.tail.head).four
  go_wp2_with fail
  clear q0a q0b q0c q0d
  refine (R2.out _ (L.mono KB.hb)).mono ?_
  rintro e w3 ⟨rfl, k⟩
  replace KB := KB.below k
  clear k
  go_upto_region 3 with (fail)
  have ih'0 : w3.heap.size ≠ g := Nat.ne_of_gt (KB.head).lt
  have oh'0 := Ne.symm ih'0
  have ih'1 : w3.heap.size ≠ w.heap.size := Nat.ne_of_gt (KB.tail.head).lt
  have oh'1 := Ne.symm ih'1
  have ggh' : w.heap.size ≤ w3.heap.size := KB.hb.size
  replace KB := KB.more4 (.int .i64 (x0)) (.int .i64 (x1)) (.int .i64 (x2)) (.int .i64 (x3)) 23
  generalize w3.alloc (.cells #[.int .i64 (x0), .int .i64 (x1), .int .i64 (x2), .int .i64 (x3)] 23) = w4 at *
  generalize w3.heap.size = h' at *
  go_wp2_with fail
  refine (AL.out _ (L.mono KB.hb)).mono ?_
  rintro e w5 ⟨rfl, k⟩
  replace KB := KB.below k
  clear k
  obtain ⟨_, q0a, q0b, q0c, q0d, _⟩ := (KB.tail.head).four
  obtain ⟨_, q1a, q1b, q1c, q1d, _⟩ := (KB.head).four
  have HB := KB.hb
  go_wp2
  go_ret
  exact ⟨rfl, HB⟩
theorem clockRegulates_walk (C : ClockP) (h m s n o : Int) (i1 : In64 h) (i2 : In64 m) (i3 : In64 s) (i4 : In64 n) (i5 : In64 o) (w : World) (L : Sizes w) : Calls Tryd.prog 4 #[.agg #[.int .i64 h, .int .i64 m, .int .i64 s, .int .i64 n], .int .i64 o] w (RetV w (.bool true)) := by
  have AL := Lib.hid fun W l => alive6 C W l
  by_cases h1 : o = 1
  · subst h1
    by_cases k : okT h m s n
    · exact regs6_core h m s n 1 _ _ _ _ _ (Lib.hid fun W l => C.reg_yes h m s n 1 i1 i2 i3 i4 (.inl rfl) k W l) (Lib.hid fun (W : World) (_ : Sizes W) => regT_yes1 h m s n (Lib.hid fun W => by have c := rightT h m s n W; rwa [decide_eq_true k] at c) W) AL w L
    · exact regs6_core h m s n 1 _ _ _ _ _ (Lib.hid fun W l => C.reg_con h m s n i1 i2 i3 i4 k W l) (Lib.hid fun (W : World) (_ : Sizes W) => regT_con h m s n (Lib.hid fun W => by have c := rightT h m s n W; rwa [decide_eq_false k] at c) W) AL w L
  by_cases h2 : o = 2
  · subst h2
    by_cases k : okT h m s n
    · exact regs6_core h m s n 2 _ _ _ _ _ (Lib.hid fun W l => C.reg_yes h m s n 2 i1 i2 i3 i4 (.inr rfl) k W l) (Lib.hid fun (W : World) (_ : Sizes W) => regT_yes2 h m s n (Lib.hid fun W => by have c := rightT h m s n W; rwa [decide_eq_true k] at c) W) AL w L
    · exact regs6_core h m s n 2 _ _ _ _ _ (Lib.hid fun W l => C.reg_field h m s n i1 i2 i3 i4 k W l) (Lib.hid fun (W : World) (_ : Sizes W) => regT_field h m s n (Lib.hid fun W => by have c := rightT h m s n W; rwa [decide_eq_false k] at c) W) AL w L
  · exact regs6_core h m s n o _ _ _ _ _ (Lib.hid fun W l => C.reg_bad h m s n o i1 i2 i3 i4 i5 h1 h2 W l) (Lib.hid fun (W : World) (_ : Sizes W) => regT_bad h m s n o h1 h2 W) AL w L
end Go.Proofs.YteggdabnhdjfcaaDoor
