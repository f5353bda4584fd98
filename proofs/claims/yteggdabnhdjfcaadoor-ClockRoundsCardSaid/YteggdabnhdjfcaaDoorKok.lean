/- Package clock answers as the document says. -/
import Derived.Test.YteggdabnhdjfcaaDoorKadd
import Derived.Test.YteggdabnhdjfcaaDoorKcmp
namespace Go.Proofs.YteggdabnhdjfcaaDoor
open Go.RowKit

theorem add_in (a b : Int) (ha : InW a) (hb : InW b) (h : InW (a + b)) (W : World) : Calls Tryd.prog 30 #[.agg #[.int .i64 (hiW a), .int .u64 (loW a)], .agg #[.int .i64 (hiW b), .int .u64 (loW b)]] W (fun o w' => o = .returned (.tuple #[.agg #[.int .i64 (hiW (a + b)), .int .u64 (loW (a + b))], .int .i64 0]) ∧ Below W.heap.size W w') := by
  have c := wideAdd a b ha hb W
  unfold RetWE hv lv ev at c
  rwa [if_pos h, if_pos h, if_pos h] at c
theorem add_out (a b : Int) (ha : InW a) (hb : InW b) (h : ¬ InW (a + b)) (W : World) : Calls Tryd.prog 30 #[.agg #[.int .i64 (hiW a), .int .u64 (loW a)], .agg #[.int .i64 (hiW b), .int .u64 (loW b)]] W (fun o w' => o = .returned (.tuple #[.agg #[.int .i64 0, .int .u64 0], .int .i64 2]) ∧ Below W.heap.size W w') := by
  have c := wideAdd a b ha hb W
  unfold RetWE hv lv ev at c
  rwa [if_neg h, if_neg h, if_neg h] at c
theorem to_in (a b mo : Int) (ha : InW a) (hb : InW b) (b0 : 0 < b) (m1 : 1 ≤ mo) (m9 : mo ≤ 9) (h : InW (nearZ a b mo * b)) (W : World) : Calls Tryd.prog 38 #[.agg #[.int .i64 (hiW a), .int .u64 (loW a)], .agg #[.int .i64 (hiW b), .int .u64 (loW b)], .int .i64 mo] W (fun o w' => o = .returned (.tuple #[.agg #[.int .i64 (hiW (nearZ a b mo * b)), .int .u64 (loW (nearZ a b mo * b))], .int .i64 0]) ∧ Below W.heap.size W w') := by
  have c := roundTo_any a b mo ha hb b0 m1 m9 W
  have e : nearR a b mo = nearZ a b mo := by unfold nearR upN upD; rw [if_neg (by omega), if_neg (by omega)]
  rw [e] at c
  unfold RetWE hv lv ev at c
  rwa [if_pos h, if_pos h, if_pos h] at c
theorem nanosK_ok {h m s n : Int} (k : okT h m s n) (W : World) (l : Sizes W) : Calls Tryd.prog 9 #[.agg #[.int .i64 (h), .int .i64 (m), .int .i64 (s), .int .i64 (n)]] W (RetIB W (numT h m s n) true) := by
  have c := nanosK h m s n W l
  unfold nvT at c
  rwa [if_pos k, decide_eq_true k] at c
theorem nanosK_bad {h m s n : Int} (k : ¬ okT h m s n) (W : World) (l : Sizes W) : Calls Tryd.prog 9 #[.agg #[.int .i64 (h), .int .i64 (m), .int .i64 (s), .int .i64 (n)]] W (RetIB W 0 false) := by
  have c := nanosK h m s n W l
  unfold nvT at c
  rwa [if_neg k, decide_eq_false k] at c
theorem rightK_yes {h m s n : Int} (k : okT h m s n) (W : World) (l : Sizes W) : Calls Tryd.prog 15 #[.agg #[.int .i64 (h), .int .i64 (m), .int .i64 (s), .int .i64 (n)]] W (RetV W (.bool true)) := by
  have c := rightK h m s n W l
  rwa [decide_eq_true k] at c
theorem rightK_no {h m s n : Int} (k : ¬ okT h m s n) (W : World) (l : Sizes W) : Calls Tryd.prog 15 #[.agg #[.int .i64 (h), .int .i64 (m), .int .i64 (s), .int .i64 (n)]] W (RetV W (.bool false)) := by
  have c := rightK h m s n W l
  rwa [decide_eq_false k] at c
theorem near_ok {h m s n : Int} (k : okT h m s n) (W : World) (l : Sizes W) : Calls Tryd.prog 28 #[.agg #[.int .i64 (h), .int .i64 (m), .int .i64 (s), .int .i64 (n)]] W (RetV W (.agg #[.int .i64 (h), .int .i64 (m), .int .i64 (s), .int .i64 (n)])) := by
  have c := nearestK h m s n W l
  obtain ⟨⟨h1, h2⟩, ⟨h3, h4⟩, ⟨h5, h6⟩, h7, h8⟩ := k
  rwa [near_same.2 ⟨h1, by omega⟩, near_same.2 ⟨h3, by omega⟩, near_same.2 ⟨h5, by omega⟩, near_same.2 ⟨h7, by omega⟩] at c
theorem numT_in64 {h m s n : Int} (k : okT h m s n) : In64 (numT h m s n) := by
  have := numT_range k
  unfold In64; omega
theorem clockP : ClockP where
  right h m s n _ _ _ _ W L := rightK h m s n W L
  nanos h m s n _ _ _ _ W L := nanosK h m s n W L
  of_no N _ h W _ := ofK_no N h W
  of_yes N h m s n k e W L := ofK_yes N h m s n k e W L
  reg_bad h m s n o _ _ _ _ _ h1 h2 W _ := regK_bad h m s n o h1 h2 W
  reg_yes h m s n o _ _ _ _ ho k W L := by
    rcases ho with rfl | rfl
    · exact regK_con h m s n h m s n (Lib.hid fun W l => near_ok k W l) W L
    · exact regK_yes h m s n (Lib.hid fun W l => rightK_yes k W l) W L
  reg_field h m s n _ _ _ _ k W L := regK_field h m s n (Lib.hid fun W l => rightK_no k W l) W L
  reg_con h m s n _ _ _ _ _ W L := regK_con h m s n _ _ _ _ (Lib.hid fun W l => nearestK h m s n W l) W L
  add_bad h m s n a _ _ _ _ _ k W L := addK_bad h m s n a (Lib.hid fun W l => nanosK_bad k W l) W L
  add_over h m s n a k ha hq W L := by
    have i := numT_in64 k
    have e : numT h m s n + a = a + numT h m s n := Int.add_comm ..
    rw [e] at hq
    by_cases hs : InW (a + numT h m s n)
    · exact addK_core h m s n a _ _ _ _ _ _ _ _ _ _ _ (Lib.hid fun W l => nanosK_ok k W l) (Lib.hid fun W _ => wideOf _ i W) (Lib.hid fun W _ => add_in a _ ha (inW_of_64 i) hs W) (Lib.hid fun W l => behindK_over _ hs hq W l) W L
    · exact addK_wide h m s n a _ _ _ (Lib.hid fun W l => nanosK_ok k W l) (Lib.hid fun W _ => wideOf _ i W) (Lib.hid fun W _ => add_out a _ ha (inW_of_64 i) hs W) W L
  add_yes h m s n a x0 x1 x2 x3 k ha hq hx e W L := by
    have i := numT_in64 k
    have e' : numT h m s n + a = a + numT h m s n := Int.add_comm ..
    rw [e'] at hq e ⊢
    have hs : InW (a + numT h m s n) := by unfold In64 at hq; unfold InW two127; omega
    exact addK_core h m s n a _ _ _ _ _ _ _ _ _ _ _ (Lib.hid fun W l => nanosK_ok k W l) (Lib.hid fun W _ => wideOf _ i W) (Lib.hid fun W _ => add_in a _ ha (inW_of_64 i) hs W) (Lib.hid fun W l => behindK _ x0 x1 x2 x3 hs hq hx e W l) W L
  round_bad h m s n ic mo _ _ _ _ i5 i6 b W L := by
    by_cases k : okT h m s n
    case neg => exact roundK_t h m s n ic mo (Lib.hid fun W l => nanosK_bad k W l) W L
    have i := numT_in64 k
    by_cases h1 : ic < 1
    · exact roundK_lt h m s n ic mo _ h1 (Lib.hid fun W l => nanosK_ok k W l) W L
    by_cases h3 : (86400000000000 : Int) % ic = 0
    case neg => exact roundK_rem h m s n ic mo _ (by omega) i5.2 h3 (Lib.hid fun W l => nanosK_ok k W l) W L
    have h2 : ¬ 86400000000000 < ic := by
      intro c
      rw [Int.emod_eq_of_lt (by omega) c] at h3
      omega
    have hm : mo < 1 ∨ 9 < mo := by
      rcases b with c | c | c | c | c | c
      · exact absurd k c
      · exact absurd c h1
      · exact absurd c h2
      · exact absurd h3 c
      · exact .inl c
      · exact .inr c
    exact roundK_mode h m s n ic mo _ _ _ _ _ (by omega) i5.2 h3 (Lib.hid fun W l => nanosK_ok k W l) (Lib.hid fun W _ => wideOf _ i W) (Lib.hid fun W _ => wideOf _ i5 W) (Lib.hid fun W _ => roundTo_no _ _ mo (by omega) W) W L
  round_day h m s n ic mo k h1 h2 h3 m1 m9 e W L := by
    have i := numT_in64 k
    have i5 : In64 ic := by unfold In64; omega
    have hs : InW (nearZ (numT h m s n) ic mo * ic) := by rw [show nearZ (numT h m s n) ic mo * ic = 86400000000000 from e]; decide
    exact roundK_core h m s n ic mo _ _ _ _ _ _ _ _ _ _ _ _ _ (by omega) i5.2 h3 (Lib.hid fun W l => nanosK_ok k W l) (Lib.hid fun W _ => wideOf _ i W) (Lib.hid fun W _ => wideOf _ i5 W) (Lib.hid fun W _ => to_in _ _ mo (inW_of_64 i) (inW_of_64 i5) (by omega) m1 m9 hs W)
      (Lib.hid fun W l => by
        have c := behindK 86400000000000 0 0 0 0 (by decide) (by decide) (by decide) (by decide) W l
        rw [show nearZ (numT h m s n) ic mo * ic = 86400000000000 from e]
        exact c) W L
  round_yes h m s n ic mo x0 x1 x2 x3 k h1 h2 h3 m1 m9 hx e W L := by
    have i := numT_in64 k
    have i5 : In64 ic := by unfold In64; omega
    have r := numT_range hx
    have e' : nearZ (numT h m s n) ic mo * ic = numT x0 x1 x2 x3 := e.symm
    have hs : InW (nearZ (numT h m s n) ic mo * ic) := by rw [e']; unfold InW two127; omega
    exact roundK_core h m s n ic mo _ _ _ _ _ _ _ _ _ _ _ _ _ (by omega) i5.2 h3 (Lib.hid fun W l => nanosK_ok k W l) (Lib.hid fun W _ => wideOf _ i W) (Lib.hid fun W _ => wideOf _ i5 W) (Lib.hid fun W _ => to_in _ _ mo (inW_of_64 i) (inW_of_64 i5) (by omega) m1 m9 hs W)
      (Lib.hid fun W l => by
        have c := behindK (numT x0 x1 x2 x3) x0 x1 x2 x3 (by unfold InW two127; omega) (by unfold In64; omega) hx (by omega) W l
        rw [show numT x0 x1 x2 x3 / 86400000000000 = 0 by omega] at c
        rw [e']
        exact c) W L
  cmp h m s n h' m' s' n' W _ := cmpK h m s n h' m' s' n' W
end Go.Proofs.YteggdabnhdjfcaaDoor
