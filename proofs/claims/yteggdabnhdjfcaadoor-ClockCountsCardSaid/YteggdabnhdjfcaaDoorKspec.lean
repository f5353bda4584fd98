/- What package clock has to answer, in the document's words; what the wide numbers of its laws are. -/
import Derived.Test.YteggdabnhdjfcaaDoorKsiz
import Derived.Test.YteggdabnhdjfcaaDoorGh
import Derived.Test.YteggdabnhdjfcaaDoorGx
namespace Go.Proofs.YteggdabnhdjfcaaDoor
open Go.RowKit

/-- What a call that answers a time and a bool leaves. -/
def RetTB (w : World) (h m s n : Int) (ok : Bool) (e : Ending) (w' : World) : Prop := e = .returned (.tuple #[.agg #[.int .i64 h, .int .i64 m, .int .i64 s, .int .i64 n], .bool ok]) ∧ Below w.heap.size w w'
/-- What a call that answers a number of 64 bits and a bool leaves. -/
def RetIB (w : World) (n : Int) (ok : Bool) (e : Ending) (w' : World) : Prop := e = .returned (.tuple #[.int .i64 n, .bool ok]) ∧ Below w.heap.size w w'
/-- what Nanos tells -/
def nvT (h m s n : Int) : Int := if okT h m s n then numT h m s n else 0
structure ClockP : Prop where
  right : ∀ (h m s n : Int) (_ : In64 h) (_ : In64 m) (_ : In64 s) (_ : In64 n) (W : World), Sizes W → Calls Tryd.prog 15 #[.agg #[.int .i64 (h), .int .i64 (m), .int .i64 (s), .int .i64 (n)]] W (RetV W (.bool (decide (okT h m s n))))
  nanos : ∀ (h m s n : Int) (_ : In64 h) (_ : In64 m) (_ : In64 s) (_ : In64 n) (W : World), Sizes W → Calls Tryd.prog 9 #[.agg #[.int .i64 (h), .int .i64 (m), .int .i64 (s), .int .i64 (n)]] W (RetIB W (nvT h m s n) (decide (okT h m s n)))
  of_no : ∀ (N : Int) (_ : In64 N) (_ : N < 0 ∨ 86400000000000 ≤ N) (W : World), Sizes W → Calls Tryd.prog 11 #[.int .i64 N] W (RetTB W 0 0 0 0 false)
  of_yes : ∀ (N h m s n : Int) (_ : okT h m s n) (_ : numT h m s n = N) (W : World), Sizes W → Calls Tryd.prog 11 #[.int .i64 N] W (RetTB W h m s n true)
  reg_bad : ∀ (h m s n o : Int) (_ : In64 h) (_ : In64 m) (_ : In64 s) (_ : In64 n) (_ : In64 o) (_ : ¬ o = 1) (_ : ¬ o = 2) (W : World), Sizes W → Calls Tryd.prog 16 #[.int .i64 h, .int .i64 m, .int .i64 s, .int .i64 n, .int .i64 o] W (RetTE W 0 0 0 0 1)
  reg_yes : ∀ (h m s n o : Int) (_ : In64 h) (_ : In64 m) (_ : In64 s) (_ : In64 n) (_ : o = 1 ∨ o = 2) (_ : okT h m s n) (W : World), Sizes W → Calls Tryd.prog 16 #[.int .i64 h, .int .i64 m, .int .i64 s, .int .i64 n, .int .i64 o] W (RetTE W h m s n 0)
  reg_field : ∀ (h m s n : Int) (_ : In64 h) (_ : In64 m) (_ : In64 s) (_ : In64 n) (_ : ¬ okT h m s n) (W : World), Sizes W → Calls Tryd.prog 16 #[.int .i64 h, .int .i64 m, .int .i64 s, .int .i64 n, .int .i64 2] W (RetTE W 0 0 0 0 5)
  reg_con : ∀ (h m s n : Int) (_ : In64 h) (_ : In64 m) (_ : In64 s) (_ : In64 n) (_ : ¬ okT h m s n) (W : World), Sizes W → Calls Tryd.prog 16 #[.int .i64 h, .int .i64 m, .int .i64 s, .int .i64 n, .int .i64 1] W (RetTE W (nearT h 23) (nearT m 59) (nearT s 59) (nearT n 999999999) 0)
  add_bad : ∀ (h m s n a : Int) (_ : In64 h) (_ : In64 m) (_ : In64 s) (_ : In64 n) (_ : InW a) (_ : ¬ okT h m s n) (W : World), Sizes W → Calls Tryd.prog 18 #[.agg #[.int .i64 (h), .int .i64 (m), .int .i64 (s), .int .i64 (n)], .agg #[.int .i64 (hiW a), .int .u64 (loW a)]] W (RetTNE W 0 0 0 0 0 1)
  add_over : ∀ (h m s n a : Int) (_ : okT h m s n) (_ : InW a) (_ : ¬ In64 ((numT h m s n + a) / 86400000000000)) (W : World), Sizes W → Calls Tryd.prog 18 #[.agg #[.int .i64 (h), .int .i64 (m), .int .i64 (s), .int .i64 (n)], .agg #[.int .i64 (hiW a), .int .u64 (loW a)]] W (RetTNE W 0 0 0 0 0 2)
  add_yes : ∀ (h m s n a x0 x1 x2 x3 : Int) (_ : okT h m s n) (_ : InW a) (_ : In64 ((numT h m s n + a) / 86400000000000)) (_ : okT x0 x1 x2 x3) (_ : numT x0 x1 x2 x3 = (numT h m s n + a) % 86400000000000) (W : World), Sizes W →
    Calls Tryd.prog 18 #[.agg #[.int .i64 (h), .int .i64 (m), .int .i64 (s), .int .i64 (n)], .agg #[.int .i64 (hiW a), .int .u64 (loW a)]] W (RetTNE W x0 x1 x2 x3 ((numT h m s n + a) / 86400000000000) 0)
  round_bad : ∀ (h m s n ic mo : Int) (_ : In64 h) (_ : In64 m) (_ : In64 s) (_ : In64 n) (_ : In64 ic) (_ : In64 mo) (_ : ¬ okT h m s n ∨ ic < 1 ∨ 86400000000000 < ic ∨ (86400000000000 : Int) % ic ≠ 0 ∨ mo < 1 ∨ 9 < mo) (W : World), Sizes W → Calls Tryd.prog 20 #[.agg #[.int .i64 (h), .int .i64 (m), .int .i64 (s), .int .i64 (n)], .int .i64 ic, .int .i64 mo] W (RetTNE W 0 0 0 0 0 1)
  round_day : ∀ (h m s n ic mo : Int) (_ : okT h m s n) (_ : ¬ ic < 1) (_ : ¬ 86400000000000 < ic) (_ : (86400000000000 : Int) % ic = 0) (_ : 1 ≤ mo) (_ : mo ≤ 9) (_ : rndT (numT h m s n) ic mo = 86400000000000) (W : World), Sizes W →
    Calls Tryd.prog 20 #[.agg #[.int .i64 (h), .int .i64 (m), .int .i64 (s), .int .i64 (n)], .int .i64 ic, .int .i64 mo] W (RetTNE W 0 0 0 0 1 0)
  round_yes : ∀ (h m s n ic mo x0 x1 x2 x3 : Int) (_ : okT h m s n) (_ : ¬ ic < 1) (_ : ¬ 86400000000000 < ic) (_ : (86400000000000 : Int) % ic = 0) (_ : 1 ≤ mo) (_ : mo ≤ 9) (_ : okT x0 x1 x2 x3) (_ : numT x0 x1 x2 x3 = rndT (numT h m s n) ic mo) (W : World), Sizes W →
    Calls Tryd.prog 20 #[.agg #[.int .i64 (h), .int .i64 (m), .int .i64 (s), .int .i64 (n)], .int .i64 ic, .int .i64 mo] W (RetTNE W x0 x1 x2 x3 0 0)
  cmp : ∀ (h m s n h' m' s' n' : Int) (W : World), Sizes W → Calls Tryd.prog 22 #[.agg #[.int .i64 (h), .int .i64 (m), .int .i64 (s), .int .i64 (n)], .agg #[.int .i64 (h'), .int .i64 (m'), .int .i64 (s'), .int .i64 (n')]] W (RetV W (.int .i64 (cmpT h m s n h' m' s' n')))
theorem wideNeg_ret (a : Int) (ha : InW a) (hm : InW (-a)) (W : World) : Calls Tryd.prog 25 #[.agg #[.int .i64 (hiW a), .int .u64 (loW a)]] W (fun e w' => e = .returned (.tuple #[.agg #[.int .i64 (hiW (-a)), .int .u64 (loW (-a))], .int .i64 0]) ∧ Below W.heap.size W w') := by
  have c := wideNeg a ha W
  unfold RetWE hv lv ev at c
  rwa [if_pos hm, if_pos hm, if_pos hm] at c
/-- who is later has the greater number -/
theorem cmp_num {h m s n h' m' s' n' : Int} (k : okT h m s n) (k' : okT h' m' s' n') :
    (numT h m s n < numT h' m' s' n' → cmpT h m s n h' m' s' n' = -1) ∧ (numT h m s n = numT h' m' s' n' → cmpT h m s n h' m' s' n' = 0) ∧ (numT h' m' s' n' < numT h m s n → cmpT h m s n h' m' s' n' = 1) := by
  obtain ⟨⟨h1, h2⟩, ⟨h3, h4⟩, ⟨h5, h6⟩, h7, h8⟩ := k
  obtain ⟨⟨g1, g2⟩, ⟨g3, g4⟩, ⟨g5, g6⟩, g7, g8⟩ := k'
  unfold numT cmpT
  refine ⟨fun e => ?_, fun e => ?_, fun e => ?_⟩
  all_goals
    repeat' split
    all_goals omega
end Go.Proofs.YteggdabnhdjfcaaDoor
