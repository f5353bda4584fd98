/- The walk of WideBack: at any two wide numbers it returns true; what was there is as it was. -/
import Derived.Test.YtpjhenipeafbiaaWprs
import Derived.Test.YtpjhenipeafbiaaWkeep
namespace Go.Proofs.Ytpjhenipeafbiaa
open Go.RowKit

/-- a number's text, read, is that number -/
theorem parse_text (a : Int) (ha : InW a) (W : World) : Calls Try.prog 33 #[.string ⟨(decZ a).toArray⟩] W (RetV W (.tuple #[.agg #[.int .i64 (hiW a), .int .u64 (loW a)], .int .i64 0])) := by
  have hl : (decZ a).length ≤ 41 := decZ_len (k := 39) (by
    unfold InW two127 at ha
    have : (10 : Nat) ^ 40 = 10000000000000000000000000000000000000000 := by decide
    rw [this]; omega)
  refine (wideParse ⟨(decZ a).toArray⟩ (by show (decZ a).toArray.size ≤ maxLen; rw [List.size_toArray]; unfold maxLen; omega) W).mono ?_
  rintro e w' ⟨h, k⟩
  rcases h with ⟨z, _, h2, rfl⟩ | ⟨h, _⟩
  · rw [decZ_inj h2]
    exact ⟨rfl, k⟩
  · exact absurd rfl (h a ha)

set_option maxRecDepth 100000 in
set_option maxHeartbeats 8000000 in
theorem wideBack_walk (a b : Int) (ha : InW a) (hb : InW b) (w : World) :
    Calls Try.prog 8 #[.agg #[.int .i64 (hiW a), .int .u64 (loW a)], .agg #[.int .i64 (hiW b), .int .u64 (loW b)]] w (RetV w (.bool true)) := by
  have TX := Lib.hid (fun W => wideText a ha W)
  have PT := Lib.hid (fun W => parse_text a ha W)
  have AB := Lib.hid (fun W => wideAdd a b ha hb W)
  have BA := Lib.hid (show ∀ W, Calls Try.prog 19 #[.agg #[.int .i64 (hiW b), .int .u64 (loW b)], .agg #[.int .i64 (hiW a), .int .u64 (loW a)]] W (RetWE W (a + b)) from fun W => by rw [Int.add_comm]; exact wideAdd b a hb ha W)
  by_cases hs : InW (a + b)
  · have VS := Lib.hid (show hv (a + b) = hiW (a + b) ∧ lv (a + b) = loW (a + b) ∧ ev (a + b) = 0 by unfold hv lv ev; rw [if_pos hs, if_pos hs, if_pos hs]; exact ⟨rfl, rfl, rfl⟩)
    have SB := Lib.hid (show ∀ W, Calls Try.prog 22 #[.agg #[.int .i64 (hiW (a + b)), .int .u64 (loW (a + b))], .agg #[.int .i64 (hiW b), .int .u64 (loW b)]] W (RetV W (.tuple #[.agg #[.int .i64 (hiW a), .int .u64 (loW a)], .int .i64 0])) from fun W => by
      have h := wideSub (a + b) b hs hb W
      rw [Int.add_sub_cancel] at h
      unfold RetWE hv lv ev at h
      rw [if_pos ha, if_pos ha, if_pos ha] at h
      exact h)
    clear ha hb hs
    go_enter Try.func8, Try.ntmps8
    go_wp2_with fail
    have KK := ((PairsK.nil w).more (.int .i64 (hiW a)) (.int .u64 (loW a)) 24).more (.int .i64 (hiW b)) (.int .u64 (loW b)) 24
    rw [World.size_alloc] at KK
    generalize (w.alloc (.cells #[.int .i64 (hiW a), .int .u64 (loW a)] 24)).alloc (.cells #[.int .i64 (hiW b), .int .u64 (loW b)] 24) = w0 at *
    refine (TX.out _).mono ?_
    rintro e w1 ⟨rfl, k⟩
    replace KK := KK.below k
    clear k
    go_wp2_with fail
    refine (PT.out _).mono ?_
    rintro e w1 ⟨rfl, k⟩
    replace KK := KK.below k
    clear k
    obtain ⟨_, a0, a0', _, _⟩ := KK.tail.head
    go_wp2_with fail
    clear a0 a0'
    have hltgw := KK.head.lt
    replace KK := KK.more (.int .i64 (hiW a)) (.int .u64 (loW a)) 24
    generalize hw1 : w1.alloc (.cells #[.int .i64 (hiW a), .int .u64 (loW a)] 24) = w2 at *
    generalize hg : w1.heap.size = gw at *
    clear hw1 hg
    refine (alive_any _).mono ?_
    rintro e w1 ⟨rfl, k⟩
    replace KK := KK.below k
    clear k
    obtain ⟨_, a0, a0', _, _⟩ := KK.tail.head
    obtain ⟨_, a1, a1', _, _⟩ := KK.tail.tail.head
    go_wp2_with fail
    clear a0 a0' a1 a1'
    refine (AB.out _).mono ?_
    rintro e w1 ⟨rfl, k⟩
    replace KK := KK.below k
    clear k
    rw [VS.out.1, VS.out.2.1, VS.out.2.2]
    obtain ⟨_, a0, a0', _, _⟩ := KK.tail.head
    obtain ⟨_, a1, a1', _, _⟩ := KK.tail.tail.head
    go_wp2_with fail
    clear a0 a0' a1 a1'
    have hltgs := KK.head.lt
    replace KK := KK.more (.int .i64 (hiW (a + b))) (.int .u64 (loW (a + b))) 24
    generalize hw1 : w1.alloc (.cells #[.int .i64 (hiW (a + b)), .int .u64 (loW (a + b))] 24) = w2 at *
    generalize hg : w1.heap.size = gs at *
    clear hw1 hg
    refine (BA.out _).mono ?_
    rintro e w1 ⟨rfl, k⟩
    replace KK := KK.below k
    clear k
    rw [VS.out.1, VS.out.2.1, VS.out.2.2]
    obtain ⟨_, a0, a0', _, _⟩ := KK.head
    obtain ⟨_, a1, a1', _, _⟩ := KK.tail.tail.head
    go_wp2_with fail
    clear a0 a0' a1 a1'
    have hltgt := KK.head.lt
    replace KK := KK.more (.int .i64 (hiW (a + b))) (.int .u64 (loW (a + b))) 24
    generalize hw1 : w1.alloc (.cells #[.int .i64 (hiW (a + b)), .int .u64 (loW (a + b))] 24) = w2 at *
    generalize hg : w1.heap.size = gt at *
    clear hw1 hg
    refine (SB.out _).mono ?_
    rintro e w1 ⟨rfl, k⟩
    replace KK := KK.below k
    clear k
    obtain ⟨_, a0, a0', _, _⟩ := KK.tail.tail.tail.tail.head
    go_wp2
    go_ret
    exact ⟨rfl, below_thru KK.hb (below_box _ _)⟩
  · have VS := Lib.hid (show hv (a + b) = 0 ∧ lv (a + b) = 0 ∧ ev (a + b) = 2 by unfold hv lv ev; rw [if_neg hs, if_neg hs, if_neg hs]; exact ⟨rfl, rfl, rfl⟩)
    clear ha hb hs
    go_enter Try.func8, Try.ntmps8
    go_wp2_with fail
    have KK := ((PairsK.nil w).more (.int .i64 (hiW a)) (.int .u64 (loW a)) 24).more (.int .i64 (hiW b)) (.int .u64 (loW b)) 24
    rw [World.size_alloc] at KK
    generalize (w.alloc (.cells #[.int .i64 (hiW a), .int .u64 (loW a)] 24)).alloc (.cells #[.int .i64 (hiW b), .int .u64 (loW b)] 24) = w0 at *
    refine (TX.out _).mono ?_
    rintro e w1 ⟨rfl, k⟩
    replace KK := KK.below k
    clear k
    go_wp2_with fail
    refine (PT.out _).mono ?_
    rintro e w1 ⟨rfl, k⟩
    replace KK := KK.below k
    clear k
    obtain ⟨_, a0, a0', _, _⟩ := KK.tail.head
    go_wp2_with fail
    clear a0 a0'
    have hltgw := KK.head.lt
    replace KK := KK.more (.int .i64 (hiW a)) (.int .u64 (loW a)) 24
    generalize hw1 : w1.alloc (.cells #[.int .i64 (hiW a), .int .u64 (loW a)] 24) = w2 at *
    generalize hg : w1.heap.size = gw at *
    clear hw1 hg
    refine (alive_any _).mono ?_
    rintro e w1 ⟨rfl, k⟩
    replace KK := KK.below k
    clear k
    obtain ⟨_, a0, a0', _, _⟩ := KK.tail.head
    obtain ⟨_, a1, a1', _, _⟩ := KK.tail.tail.head
    go_wp2_with fail
    clear a0 a0' a1 a1'
    refine (AB.out _).mono ?_
    rintro e w1 ⟨rfl, k⟩
    replace KK := KK.below k
    clear k
    rw [VS.out.1, VS.out.2.1, VS.out.2.2]
    obtain ⟨_, a0, a0', _, _⟩ := KK.tail.head
    obtain ⟨_, a1, a1', _, _⟩ := KK.tail.tail.head
    go_wp2_with fail
    clear a0 a0' a1 a1'
    have hltgs := KK.head.lt
    replace KK := KK.more (.int .i64 0) (.int .u64 0) 24
    generalize hw1 : w1.alloc (.cells #[.int .i64 0, .int .u64 0] 24) = w2 at *
    generalize hg : w1.heap.size = gs at *
    clear hw1 hg
    refine (BA.out _).mono ?_
    rintro e w1 ⟨rfl, k⟩
    replace KK := KK.below k
    clear k
    rw [VS.out.1, VS.out.2.1, VS.out.2.2]
    obtain ⟨_, a0, a0', _, _⟩ := KK.head
    obtain ⟨_, a1, a1', _, _⟩ := KK.tail.tail.head
    go_wp2_with fail
    clear a0 a0' a1 a1'
    go_ret
    exact ⟨rfl, below_thru KK.hb (below_box _ _)⟩
end Go.Proofs.Ytpjhenipeafbiaa
