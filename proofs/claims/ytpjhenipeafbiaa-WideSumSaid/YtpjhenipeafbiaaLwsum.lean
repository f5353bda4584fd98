/- The walk of WideSum: at any row of wide numbers it returns true; what was there is as it was. -/
import Derived.Test.YtpjhenipeafbiaaWrsum
namespace Go.Proofs.Ytpjhenipeafbiaa
open Go.RowKit

set_option maxRecDepth 100000 in
set_option maxHeartbeats 8000000 in
theorem wideSum_walk (A : Option Addr) (n c : Nat) (l : List Int) (w : World) (h : Ws w A n c l) :
    Calls Try.prog 6 #[.slice A n c] w (RetV w (.bool true)) := by
  have hmx := h.cap
  have hmy := h.max
  have hmz : n ≤ 9223372036854775807 := by unfold maxLen at hmy; omega
  by_cases hn : n ≤ 200
  · have CS := Lib.hid (fun W => fun k => wideSum A n c l W (h.below k) (by omega))
    have CR := Lib.hid (fun W => fun k => rsum_any A n c l W (h.below k) (by omega))
    have s1 := Lib.hid (show l.sum.natAbs < 65536 ^ 10 by have := sum_small l h.wide n (by rw [h.len]; omega); rwa [List.take_of_length_le (by rw [h.len]; exact Nat.le_refl _)] at this)
    clear h hmx hmy
    generalize l.sum = s at *
    go_enter Try.func6, Try.ntmps6
    have KK := PairsK.nil w
    go_wp2_with fail
    refine (CS.out _ KK.hb).mono ?_
    rintro e w1 ⟨rfl, k⟩
    replace KK := KK.below k
    clear k
    go_wp2_with fail
    replace KK := KK.more (.int .i64 (hv (s))) (.int .u64 (lv (s))) 24
    generalize hw1 : w1.alloc (.cells #[.int .i64 (hv (s)), .int .u64 (lv (s))] 24) = w2 at *
    generalize hg : w1.heap.size = gs at *
    clear hw1 hg
    refine (CR.out _ KK.hb).mono ?_
    rintro e w1 ⟨p3, A3, n3, c3, rfl, z3, k⟩
    have l3 := z3.small s1.out
    replace KK := KK.below k
    clear k
    go_wp2_with fail
    refine (wtold_any p3 A3 n3 c3 _ _ z3 (by omega)).mono ?_
    rintro e w1 ⟨rfl, k⟩
    replace KK := KK.below k
    clear k z3
    go_wp2_with fail
    have hltgt := KK.head.lt
    replace KK := KK.more (.int .i64 (hv (s))) (.int .u64 (lv (s))) 24
    generalize hw1 : w1.alloc (.cells #[.int .i64 (hv (s)), .int .u64 (lv (s))] 24) = w2 at *
    generalize hg : w1.heap.size = gt at *
    clear hw1 hg
    refine (alive_any _).mono ?_
    rintro e w1 ⟨rfl, k⟩
    replace KK := KK.below k
    clear k
    obtain ⟨_, a0, a0', _, _⟩ := KK.head
    obtain ⟨_, a1, a1', _, _⟩ := KK.tail.head
    have HB := KK.hb
    go_wp2
    go_ret
    exact ⟨rfl, HB⟩
  · clear h
    go_enter Try.func6, Try.ntmps6
    go_wp2_with fail
    refine (alive_any _).mono ?_
    rintro e w1 ⟨rfl, k⟩
    go_wp2
    go_ret
    exact ⟨rfl, k⟩
end Go.Proofs.Ytpjhenipeafbiaa
