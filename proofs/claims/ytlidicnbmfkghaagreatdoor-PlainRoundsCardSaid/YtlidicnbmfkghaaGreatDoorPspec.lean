/- What package plain has to answer, in the document's words, where the months' lengths lie in their table. -/
import Derived.Test.YtlidicnbmfkghaaGreatDoorXend
import Derived.Test.YtlidicnbmfkghaaGreatDoorPtab
import Derived.Test.YtlidicnbmfkghaaGreatDoorGx
namespace Go.Proofs.YtlidicnbmfkghaaGreatDoor
open Go.RowKit

/-- What a call that answers a wide number and an error's number leaves. -/
def RetWN (w : World) (z x : Int) (e : Ending) (w' : World) : Prop := e = .returned (.tuple #[.agg #[.int .i64 (hiW z), .int .u64 (loW z)], .int .i64 x]) ∧ Below w.heap.size w w'
structure PlainP : Prop where
  right : ∀ (y m d h i s n : Int) (_ : In64 y) (_ : In64 m) (_ : In64 d) (_ : In64 h) (_ : In64 i) (_ : In64 s) (_ : In64 n) (W : World), Tabs W → Calls Tryz.prog 7 #[.agg #[.int .i64 (y), .int .i64 (m), .int .i64 (d), .int .i64 (h), .int .i64 (i), .int .i64 (s), .int .i64 (n)]] W (RetV W (.bool (decide (okX y m d h i s n))))
  nanos_yes : ∀ (y m d h i s n : Int) (_ : okX y m d h i s n) (W : World), Tabs W → Calls Tryz.prog 13 #[.agg #[.int .i64 (y), .int .i64 (m), .int .i64 (d), .int .i64 (h), .int .i64 (i), .int .i64 (s), .int .i64 (n)]] W (RetWB W (hiW (numX y m d h i s n)) (loW (numX y m d h i s n)) true)
  nanos_no : ∀ (y m d h i s n : Int) (_ : In64 y) (_ : In64 m) (_ : In64 d) (_ : In64 h) (_ : In64 i) (_ : In64 s) (_ : In64 n) (_ : ¬ okX y m d h i s n) (W : World), Tabs W → Calls Tryz.prog 13 #[.agg #[.int .i64 (y), .int .i64 (m), .int .i64 (d), .int .i64 (h), .int .i64 (i), .int .i64 (s), .int .i64 (n)]] W (RetWB W 0 0 false)
  of_yes : ∀ (a y m d h i s n : Int) (_ : okX y m d h i s n) (_ : numX y m d h i s n = a) (W : World), Tabs W → Calls Tryz.prog 14 #[.agg #[.int .i64 (hiW a), .int .u64 (loW a)]] W (RetXB W y m d h i s n true)
  of_no : ∀ (a : Int) (_ : InW a) (_ : a ≤ -8640000086400000000000 ∨ 8640000086400000000000 ≤ a) (W : World), Tabs W → Calls Tryz.prog 14 #[.agg #[.int .i64 (hiW a), .int .u64 (loW a)]] W (RetXB W 0 0 0 0 0 0 0 false)
  add_bad : ∀ (y m d h i s n a : Int) (_ : In64 y) (_ : In64 m) (_ : In64 d) (_ : In64 h) (_ : In64 i) (_ : In64 s) (_ : In64 n) (_ : InW a) (_ : ¬ okX y m d h i s n) (W : World), Tabs W → Calls Tryz.prog 32 #[.agg #[.int .i64 (y), .int .i64 (m), .int .i64 (d), .int .i64 (h), .int .i64 (i), .int .i64 (s), .int .i64 (n)], .agg #[.int .i64 (hiW a), .int .u64 (loW a)]] W (RetXE W 0 0 0 0 0 0 0 1)
  add_none : ∀ (y m d h i s n a : Int) (_ : okX y m d h i s n) (_ : InW a) (_ : numX y m d h i s n + a ≤ -8640000086400000000000 ∨ 8640000086400000000000 ≤ numX y m d h i s n + a) (W : World), Tabs W → Calls Tryz.prog 32 #[.agg #[.int .i64 (y), .int .i64 (m), .int .i64 (d), .int .i64 (h), .int .i64 (i), .int .i64 (s), .int .i64 (n)], .agg #[.int .i64 (hiW a), .int .u64 (loW a)]] W (RetXE W 0 0 0 0 0 0 0 4)
  add_yes : ∀ (y m d h i s n a u0 u1 u2 u3 u4 u5 u6 : Int) (_ : okX y m d h i s n) (_ : InW a) (_ : okX u0 u1 u2 u3 u4 u5 u6) (_ : numX u0 u1 u2 u3 u4 u5 u6 = numX y m d h i s n + a) (W : World), Tabs W → Calls Tryz.prog 32 #[.agg #[.int .i64 (y), .int .i64 (m), .int .i64 (d), .int .i64 (h), .int .i64 (i), .int .i64 (s), .int .i64 (n)], .agg #[.int .i64 (hiW a), .int .u64 (loW a)]] W (RetXE W u0 u1 u2 u3 u4 u5 u6 0)
  round_bad : ∀ (y m d h i s n ic mo : Int) (_ : In64 y) (_ : In64 m) (_ : In64 d) (_ : In64 h) (_ : In64 i) (_ : In64 s) (_ : In64 n) (_ : In64 ic) (_ : In64 mo) (_ : ¬ okX y m d h i s n ∨ ¬ incOk ic mo) (W : World), Tabs W → Calls Tryz.prog 4 #[.agg #[.int .i64 (y), .int .i64 (m), .int .i64 (d), .int .i64 (h), .int .i64 (i), .int .i64 (s), .int .i64 (n)], .int .i64 ic, .int .i64 mo] W (RetXE W 0 0 0 0 0 0 0 1)
  round_over : ∀ (y m d h i s n ic mo : Int) (_ : okX y m d h i s n) (_ : incOk ic mo) (_ : rndX y m d h i s n ic mo ≤ -8640000086400000000000 ∨ 8640000086400000000000 ≤ rndX y m d h i s n ic mo) (W : World), Tabs W → Calls Tryz.prog 4 #[.agg #[.int .i64 (y), .int .i64 (m), .int .i64 (d), .int .i64 (h), .int .i64 (i), .int .i64 (s), .int .i64 (n)], .int .i64 ic, .int .i64 mo] W (RetXE W 0 0 0 0 0 0 0 4)
  round_yes : ∀ (y m d h i s n ic mo u0 u1 u2 u3 u4 u5 u6 : Int) (_ : okX y m d h i s n) (_ : incOk ic mo) (_ : okX u0 u1 u2 u3 u4 u5 u6) (_ : numX u0 u1 u2 u3 u4 u5 u6 = rndX y m d h i s n ic mo) (W : World), Tabs W →
    Calls Tryz.prog 4 #[.agg #[.int .i64 (y), .int .i64 (m), .int .i64 (d), .int .i64 (h), .int .i64 (i), .int .i64 (s), .int .i64 (n)], .int .i64 ic, .int .i64 mo] W (RetXE W u0 u1 u2 u3 u4 u5 u6 0)
end Go.Proofs.YtlidicnbmfkghaaGreatDoor
