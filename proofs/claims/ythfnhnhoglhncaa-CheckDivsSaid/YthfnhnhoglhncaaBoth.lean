/- The call both: a quotient and a rest told as numbers of 64 bits. -/
import Derived.Test.YthfnhnhoglhncaaSums
namespace Go.Proofs.Ythfnhnhoglhncaa
open Go.RowKit

/-- What a call that answers three integers leaves. -/
def Ret3 (w : World) (a b c : Int) (e : Ending) (w' : World) : Prop := e = .returned (.tuple #[.int .i64 a, .int .i64 b, .int .i64 c]) ∧ Below w.heap.size w w'

set_option maxHeartbeats 1000000 in
theorem both_ok (p q : Bool) (A B : Option Addr) (n m c d : Nat) (x y : Int) (w : World) (hx : Zs w p A n c x) (hy : Zs w q B m d y) (hn : n ≤ 900000) (hm : m ≤ 900000) (h1 : In64 x) (h2 : In64 y) :
    Calls Try.prog 35 #[.agg #[.bool p, .slice A n c], .agg #[.bool q, .slice B m d]] w (Ret3 w x y 0) := by
  have e1 := Lib.hid (tv_in h1)
  have e2 := Lib.hid (te_in h1)
  have e3 := Lib.hid (tv_in h2)
  have e4 := Lib.hid (te_in h2)
  clear h1 h2
  go_enter Try.func35, Try.ntmps35
  go_wp2_with fail
  obtain ⟨b1, b2, hb0⟩ := boxes2 w p q (.slice A n c) (.slice B m d) 29
  generalize (w.alloc (.cells #[.bool p, .slice A n c] 29)).alloc (.cells #[.bool q, .slice B m d] 29) = w3 at *
  refine (told_any p A n c x _ (hx.below hb0) hn).mono ?_
  rintro e w4 ⟨rfl, k4⟩
  rw [e1.out, e2.out]
  replace b2 := b2.below' k4
  replace hb0 := below_next hb0 k4
  clear b1 k4
  obtain ⟨_, c0, c1, _, _⟩ := id b2
  go_wp2_with fail
  refine (told_any q B m d y _ (hy.below hb0) hm).mono ?_
  rintro e w5 ⟨rfl, k5⟩
  rw [e3.out, e4.out]
  replace hb0 := below_next hb0 k5
  clear b2 k5 c0 c1
  go_wp2
  go_ret3
  exact ⟨rfl, hb0⟩

set_option maxHeartbeats 1000000 in
theorem both_over (p q : Bool) (A B : Option Addr) (n m c d : Nat) (x y : Int) (w : World) (hx : Zs w p A n c x) (hy : Zs w q B m d y) (hn : n ≤ 900000) (hm : m ≤ 900000) (h1 : ¬ In64 x) :
    Calls Try.prog 35 #[.agg #[.bool p, .slice A n c], .agg #[.bool q, .slice B m d]] w (Ret3 w 0 0 2) := by
  have e1 := Lib.hid (tv_out h1)
  have e2 := Lib.hid (te_out h1)
  clear h1
  go_enter Try.func35, Try.ntmps35
  go_wp2_with fail
  obtain ⟨b1, b2, hb0⟩ := boxes2 w p q (.slice A n c) (.slice B m d) 29
  generalize (w.alloc (.cells #[.bool p, .slice A n c] 29)).alloc (.cells #[.bool q, .slice B m d] 29) = w3 at *
  refine (told_any p A n c x _ (hx.below hb0) hn).mono ?_
  rintro e w4 ⟨rfl, k4⟩
  rw [e1.out, e2.out]
  replace b2 := b2.below' k4
  replace hb0 := below_next hb0 k4
  clear b1 k4
  obtain ⟨_, c0, c1, _, _⟩ := id b2
  go_wp2_with fail
  refine (told_any q B m d y _ (hy.below hb0) hm).mono ?_
  rintro e w5 ⟨rfl, k5⟩
  replace hb0 := below_next hb0 k5
  clear b2 k5 c0 c1
  go_wp2
  go_ret3
  exact ⟨rfl, hb0⟩
end Go.Proofs.Ythfnhnhoglhncaa
