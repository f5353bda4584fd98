/- What the statements of layer 2 ask besides: the three answers that every right program gives. -/
import Derived.Test.YtpjhenipeafbiaaWmul
import Derived.Test.YtpjhenipeafbiaaWprint2
namespace Go.Proofs.Ytpjhenipeafbiaa
open Go.RowKit

theorem two126 : (-9223372036854775808 : Int) * -9223372036854775808 = 85070591730234615865843651857942052864 := by decide
theorem dec_m1 : decZ (-1) = [45, 49] := by
  unfold decZ
  rw [if_pos (by decide), show ((-1 : Int)).natAbs = 1 from rfl, dec_small (by decide)]
  rfl

set_option maxHeartbeats 1000000 in
theorem alive_any (w : World) : Calls Try.prog 14 #[] w (RetV w (.bool true)) := by
  have M := fun W => wideMul (-9223372036854775808) (-9223372036854775808) (by decide) (by decide) W
  rw [two126] at M
  have O7 := fun W => wideOf (-7) (by decide) W
  have O1 := fun W => wideOf (-1) (by decide) W
  have I7 := fun W => wideInt (-7) W
  have T1 := fun W => wideText (-1) (by decide) W
  rw [dec_m1] at T1
  rw [show iv (-7) = -7 from by decide, show decide (In64 (-7)) = true from by decide] at I7
  go_enter Try.func14, Try.ntmps14
  go_wp2_with fail
  refine (M _).mono ?_
  rintro e w1 ⟨rfl, k1⟩
  rw [show hiW 85070591730234615865843651857942052864 = 4611686018427387904 from by decide, show loW 85070591730234615865843651857942052864 = 0 from by decide]
  go_wp2_with fail
  have P := Pair.new w1 (.int .i64 4611686018427387904) (.int .u64 0) 24
  have HB := below_thru k1 (below_box w1 (.cells #[.int .i64 4611686018427387904, .int .u64 0] 24))
  generalize w1.alloc (.cells #[.int .i64 4611686018427387904, .int .u64 0] 24) = w2 at *
  generalize w1.heap.size = g at *
  clear k1 M w1
  refine (O7 _).mono ?_
  rintro e w3 ⟨rfl, k⟩
  replace P := P.below k
  replace HB := below_thru HB k
  clear k O7 w2
  go_wp2_with fail
  refine (I7 _).mono ?_
  rintro e w4 ⟨rfl, k⟩
  replace P := P.below k
  replace HB := below_thru HB k
  clear k I7 w3
  obtain ⟨_, p0, p1, _, _⟩ := id P
  go_wp2_with fail
  refine (O1 _).mono ?_
  rintro e w5 ⟨rfl, k⟩
  replace HB := below_thru HB k
  clear k O1 p0 p1 P
  go_wp2_with fail
  refine (T1 _).mono ?_
  rintro e w6 ⟨rfl, k⟩
  replace HB := below_thru HB k
  clear k T1 w5
  go_wp2


  go_ret
  exact ⟨rfl, HB⟩
end Go.Proofs.Ytpjhenipeafbiaa
