/- The walk of CivilRegulates: at any fields it returns true; what was there is as it was. -/
import Derived.Test.YtmmgppfopojnlaaDoorEalive
import Derived.Deep.RegionHeld3
namespace Go.Proofs.YtmmgppfopojnlaaDoor
open Go.RowKit

set_option maxRecDepth 100000 in
set_option maxHeartbeats 8000000 in
theorem regs_core (y m d o x0 x1 x2 n : Int) (R1 : Hid (∀ W, Lens W → Calls Tryd.prog 26 #[.int .i64 y, .int .i64 m, .int .i64 d, .int .i64 o] W (fun o w' => o = .returned (.tuple #[.agg #[.int .i64 x0, .int .i64 x1, .int .i64 x2], .int .i64 n]) ∧ Below W.heap.size W w'))) (R2 : Hid (∀ W, Lens W → Calls Tryd.prog 27 #[.int .i64 y, .int .i64 m, .int .i64 d, .int .i64 o] W (fun o w' => o = .returned (.tuple #[.agg #[.int .i64 x0, .int .i64 x1, .int .i64 x2], .int .i64 n]) ∧ Below W.heap.size W w'))) (AL : Hid (∀ W, Lens W → Calls Tryd.prog 14 #[] W (fun o w' => o = .returned (.bool true) ∧ Below W.heap.size W w'))) (w : World) (L : Lens w) :
    Calls Tryd.prog 6 #[.int .i64 y, .int .i64 m, .int .i64 d, .int .i64 o] w (RetV w (.bool true)) := by
  have KB := BK.nil w
  go_enter Tryd.func6, Tryd.ntmps6
  go_wp2_with fail
  refine (R1.out _ (L.mono KB.hb)).mono ?_
  rintro e w1 ⟨rfl, k⟩
  replace KB := KB.below k
  clear k
  go_upto_region 2 with (fail)
  replace KB := KB.more3 (.int .i64 (x0)) (.int .i64 (x1)) (.int .i64 (x2)) 23
  generalize w1.alloc (.cells #[.int .i64 (x0), .int .i64 (x1), .int .i64 (x2)] 23) = w2 at *
  generalize w1.heap.size = g at *
  go_wp2_with fail
  refine (R2.out _ (L.mono KB.hb)).mono ?_
  rintro e w3 ⟨rfl, k⟩
  replace KB := KB.below k
  clear k
  go_upto_region 3 with (fail)
  have hlh := KB.head.lt
  replace KB := KB.more3 (.int .i64 (x0)) (.int .i64 (x1)) (.int .i64 (x2)) 23
  generalize w3.alloc (.cells #[.int .i64 (x0), .int .i64 (x1), .int .i64 (x2)] 23) = w4 at *
  have ih0 : w3.heap.size ≠ g := by omega
  have oh0 := Ne.symm ih0
  generalize w3.heap.size = h at *
  go_wp2_with fail
  refine (AL.out _ (L.mono KB.hb)).mono ?_
  rintro e w5 ⟨rfl, k⟩
  replace KB := KB.below k
  clear k
  obtain ⟨_, r0, r1, r2, _⟩ := (KB.tail.head).three
  obtain ⟨_, s0, s1, s2, _⟩ := (KB.head).three
  have HB := KB.hb
  go_wp2
  go_ret
  exact ⟨rfl, HB⟩
theorem civilRegulates_walk (y m d o : Int) (_ : In64 y) (_ : In64 m) (_ : In64 d) (_ : In64 o) (w : World) (L : Lens w) : Calls Tryd.prog 6 #[.int .i64 y, .int .i64 m, .int .i64 d, .int .i64 o] w (RetV w (.bool true)) := by
  have h : ∃ x0 x1 x2 n : Int, (∀ W, Lens W → Calls Tryd.prog 26 #[.int .i64 y, .int .i64 m, .int .i64 d, .int .i64 o] W (RetDE W x0 x1 x2 n)) ∧ (∀ W, Lens W → Calls Tryd.prog 27 #[.int .i64 y, .int .i64 m, .int .i64 d, .int .i64 o] W (RetDE W x0 x1 x2 n)) := by
    by_cases h1 : o = 1
    · subst h1
      by_cases hk : okD y (clM m) (clD y (clM m) d)
      · exact ⟨_, _, _, _, fun W l => regP_cony y m d hk W l, fun W _ => regR_con_y y m d hk W⟩
      · exact ⟨_, _, _, _, fun W l => regP_conn y m d hk W l, fun W _ => regR_con_n y m d hk W⟩
    by_cases h2 : o = 2
    · subst h2
      by_cases hd : dayOk y m d
      · by_cases hk : okD y m d
        · exact ⟨_, _, _, _, fun W l => regP_rej_y y m d hk W l, fun W _ => regR_rej_y y m d hk W⟩
        · exact ⟨_, _, _, _, fun W l => regP_rej_n y m d hd hk W l, fun W _ => regR_rej_n y m d hd hk W⟩
      · exact ⟨_, _, _, _, fun W l => regP_field y m d hd W l, fun W _ => regR_field y m d hd W⟩
    · exact ⟨_, _, _, _, fun W l => regP_bad y m d o h1 h2 W l, fun W _ => regR_bad y m d o h1 h2 W⟩
  obtain ⟨x0, x1, x2, n, h1, h2⟩ := h
  exact regs_core y m d o x0 x1 x2 n (Lib.hid h1) (Lib.hid h2) (Lib.hid alive5) w L
end Go.Proofs.YtmmgppfopojnlaaDoor
