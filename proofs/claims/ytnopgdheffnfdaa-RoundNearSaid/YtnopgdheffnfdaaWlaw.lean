/- The document's number of a wide one, as the statements of layer 2 make it. -/
import Derived.Test.YtnopgdheffnfdaaWkeep
import Derived.Test.YtnopgdheffnfdaaWtold
namespace Go.Proofs.Ytnopgdheffnfdaa
open Go.RowKit

/-- the document's number of a wide one -/
theorem wof_z (z : Int) (h : InW z) (W : World) : Calls Try.prog 19 #[.agg #[.int .i64 (hiW z), .int .u64 (loW z)]] W (RetZ W z) := by
  obtain ⟨i1, i2, i3, i4⟩ := halves h
  have := wof_any (hiW z) (loW z) i1.1 i1.2 i2 i3 W
  rw [pow64, ← i4] at this
  exact this
theorem pow_9 : (65536 : Nat) ^ 9 = 22300745198530623141535718272648361505980416 := by decide
theorem small_w {z : Int} (h : InW z) : z.natAbs < 65536 ^ 9 := by rw [pow_9]; unfold InW two127 at h; omega
theorem small_2w {z : Int} (h : z.natAbs ≤ 2 * 170141183460469231731687303715884105728) : z.natAbs < 65536 ^ 9 := by rw [pow_9]; omega
theorem abs_w {z : Int} (h : InW z) : z.natAbs ≤ 170141183460469231731687303715884105728 := by unfold InW two127 at h; omega
end Go.Proofs.Ytnopgdheffnfdaa
