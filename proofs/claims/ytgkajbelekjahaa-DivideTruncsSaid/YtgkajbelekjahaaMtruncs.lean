/- The walk of DivideTruncs: at any two wide numbers it returns true; what was there is as it was. -/
import Derived.Test.YtgkajbelekjahaaValive
import Derived.Test.YtgkajbelekjahaaDtrunc
import Derived.Deep.RegionHeld3
namespace Go.Proofs.Ytgkajbelekjahaa
open Go.RowKit

set_option maxRecDepth 100000 in
set_option maxHeartbeats 8000000 in
theorem truncs_core (a b x y u v e : Int) (TF : Hid (∀ W, Calls Try.prog 13 #[.agg #[.int .i64 (hiW a), .int .u64 (loW a)], .agg #[.int .i64 (hiW b), .int .u64 (loW b)]] W (RetHalves W x y u v e))) (RF : Hid (∀ W, Calls Try.prog 14 #[.agg #[.int .i64 (hiW a), .int .u64 (loW a)], .agg #[.int .i64 (hiW b), .int .u64 (loW b)]] W (RetHalves W x y u v e))) (w : World) :
    Calls Try.prog 4 #[.agg #[.int .i64 (hiW a), .int .u64 (loW a)], .agg #[.int .i64 (hiW b), .int .u64 (loW b)]] w (RetV w (.bool true)) := by
  go_enter Try.func4, Try.ntmps4
  go_wp2_with fail
  have KK := (((PairsK.nil w).more (.int .i64 (hiW a)) (.int .u64 (loW a)) 24).more (.int .i64 (hiW b)) (.int .u64 (loW b)) 24)
  try simp only [World.size_alloc] at KK
  generalize ((w.alloc (.cells #[.int .i64 (hiW a), .int .u64 (loW a)] 24)).alloc (.cells #[.int .i64 (hiW b), .int .u64 (loW b)] 24)) = w0 at *
  refine (TF.out _).mono ?_
  rintro e w1 ⟨rfl, k⟩
  replace KK := KK.below k
  clear k
  obtain ⟨_, aa, ab, _, _⟩ := KK.tail.head
  obtain ⟨_, ba, bb, _, _⟩ := KK.head
  go_wp2_with fail
  clear aa ab ba bb
  have hlg := KK.head.lt
  replace KK := ((KK.more (.int .i64 x) (.int .u64 y) 24).more (.int .i64 u) (.int .u64 v) 24)
  rw [World.size_alloc] at KK
  generalize ((w1.alloc (.cells #[.int .i64 x, .int .u64 y] 24)).alloc (.cells #[.int .i64 u, .int .u64 v] 24)) = w2 at *
  generalize w1.heap.size = g at *
  clear hlg
  refine (RF.out _).mono ?_
  rintro e w3 ⟨rfl, k⟩
  replace KK := KK.below k
  clear k
  go_wp2_with fail
  have hlh := KK.head.lt
  replace KK := ((KK.more (.int .i64 x) (.int .u64 y) 24).more (.int .i64 u) (.int .u64 v) 24)
  rw [World.size_alloc] at KK
  generalize ((w3.alloc (.cells #[.int .i64 x, .int .u64 y] 24)).alloc (.cells #[.int .i64 u, .int .u64 v] 24)) = w4 at *
  generalize w3.heap.size = h at *
  clear hlh
  refine (alive3 _).mono ?_
  rintro e w5 ⟨rfl, k⟩
  replace KK := KK.below k
  clear k
  obtain ⟨_, aa, ab, _, _⟩ := KK.head
  obtain ⟨_, ba, bb, _, _⟩ := KK.tail.head
  obtain ⟨_, ca, cb, _, _⟩ := KK.tail.tail.head
  obtain ⟨_, da, db, _, _⟩ := KK.tail.tail.tail.head
  have HB := KK.hb
  go_wp2
  go_ret
  exact ⟨rfl, HB⟩

theorem divideTruncs_walk (a b : Int) (ha : InW a) (hb : InW b) (w : World) :
    Calls Try.prog 4 #[.agg #[.int .i64 (hiW a), .int .u64 (loW a)], .agg #[.int .i64 (hiW b), .int .u64 (loW b)]] w (RetV w (.bool true)) := by
  by_cases hb0 : b = 0
  · subst hb0
    exact truncs_core a 0 0 0 0 0 3 (Lib.hid fun W => (truncW_zero a W).mono fun e w' ⟨h1, h2⟩ => ⟨h1, h2⟩) (Lib.hid fun W => (trunc_zero a 0 ha hb rfl W).mono fun e w' ⟨h1, h2⟩ => ⟨h1, h2⟩) w
  · exact truncs_core a b _ _ _ _ _ (Lib.hid fun W => (truncW_any a b ha hb hb0 W).mono fun e w' ⟨h1, h2⟩ => ⟨h1, h2⟩) (Lib.hid fun W => (trunc_any a b ha hb hb0 W).mono fun e w' ⟨h1, h2⟩ => ⟨h1, h2⟩) w
end Go.Proofs.Ytgkajbelekjahaa
