/- What the statements of layer 3 ask besides: the two answers that every right program gives. -/
import Derived.Test.YtgkajbelekjahaaVby
import Derived.Deep.RegionHeld3
namespace Go.Proofs.Ytgkajbelekjahaa
open Go.RowKit

set_option maxRecDepth 100000 in
set_option maxHeartbeats 4000000 in
theorem alive3 (w : World) : Calls Try.prog 12 #[] w (RetV w (.bool true)) := by
  have O7 := Lib.hid (fun W => wideOf (-7) (by decide) W)
  have O2 := Lib.hid (fun W => wideOf 2 (by decide) W)
  have O12 := Lib.hid (fun W => wideOf (-12) (by decide) W)
  have O18 := Lib.hid (fun W => wideOf 18 (by decide) W)
  have O4 := Lib.hid (fun W => wideOf (-4) (by decide) W)
  have O1 := Lib.hid (fun W => wideOf 1 (by decide) W)
  have O6 := Lib.hid (fun W => wideOf 6 (by decide) W)
  have t4 : InW (-4) ∧ hv (-4) = hiW (-4) ∧ lv (-4) = loW (-4) ∧ ev (-4) = 0 := ⟨inW_of_64 (by decide), told_in (inW_of_64 (by decide))⟩
  have t1 : InW 1 ∧ hv 1 = hiW 1 ∧ lv 1 = loW 1 ∧ ev 1 = 0 := ⟨inW_of_64 (by decide), told_in (inW_of_64 (by decide))⟩
  have t6 : InW 6 ∧ hv 6 = hiW 6 ∧ lv 6 = loW 6 ∧ ev 6 = 0 := ⟨inW_of_64 (by decide), told_in (inW_of_64 (by decide))⟩
  have FL := Lib.hid (fun W => show Calls Try.prog 10 #[.agg #[.int .i64 (hiW (-7)), .int .u64 (loW (-7))], .agg #[.int .i64 (hiW 2), .int .u64 (loW 2)]] W (RetHalves W (hiW (-4)) (loW (-4)) (hiW 1) (loW 1) 0) from
    (floorW_any (-7) 2 (inW_of_64 (by decide)) (inW_of_64 (by decide)) (by decide) W).mono fun e w' ⟨h1, h2⟩ => ⟨by rw [h1, show (-7 : Int).fdiv 2 = -4 by decide, show (-7 : Int).fmod 2 = 1 by decide]; unfold hv2 lv2; rw [if_pos t4.1, if_pos t4.1, t4.2.1, t4.2.2.1, t4.2.2.2, t1.2.1, t1.2.2.1], h2⟩)
  have GC := Lib.hid (fun W => show Calls Try.prog 17 #[.agg #[.int .i64 (hiW (-12)), .int .u64 (loW (-12))], .agg #[.int .i64 (hiW 18), .int .u64 (loW 18)]] W (fun e w' => e = .returned (.tuple #[.agg #[.int .i64 (hiW 6), .int .u64 (loW 6)], .int .i64 0]) ∧ Below W.heap.size W w') from
    (gcdW_any (-12) 18 (inW_of_64 (by decide)) (inW_of_64 (by decide)) W).mono fun e w' ⟨h1, h2⟩ => ⟨by rw [h1, show gcdZ (-12) 18 = 6 by decide, t6.2.1, t6.2.2.1, t6.2.2.2], h2⟩)
  clear t4 t1 t6
  have OO4 := Lib.hid (fun W => show Calls Try.prog 16 #[.int .i64 (-4)] W (fun e w' => e = .returned (.agg #[.int .i64 (hiW (-4)), .int .u64 (loW (-4))]) ∧ Below W.heap.size W w') from O4.out W)
  have OO1 := Lib.hid (fun W => show Calls Try.prog 16 #[.int .i64 1] W (fun e w' => e = .returned (.agg #[.int .i64 (hiW 1), .int .u64 (loW 1)]) ∧ Below W.heap.size W w') from O1.out W)
  have OO6 := Lib.hid (fun W => show Calls Try.prog 16 #[.int .i64 6] W (fun e w' => e = .returned (.agg #[.int .i64 (hiW 6), .int .u64 (loW 6)]) ∧ Below W.heap.size W w') from O6.out W)
  clear O4 O1 O6
  generalize hiW (-4) = x0 at *
  generalize loW (-4) = x1 at *
  generalize hiW 1 = y0 at *
  generalize loW 1 = y1 at *
  generalize hiW 6 = z0 at *
  generalize loW 6 = z1 at *
  have HB := Below.refl w.heap.size w
  go_enter Try.func12, Try.ntmps12
  go_wp2_with fail
  refine (O7.out _).mono ?_
  rintro e w1 ⟨rfl, k⟩
  replace HB := below_thru HB k
  clear k
  go_wp2_with fail
  refine (O2.out _).mono ?_
  rintro e w2 ⟨rfl, k⟩
  replace HB := below_thru HB k
  clear k
  go_wp2_with fail
  refine (FL.out _).mono ?_
  rintro e w3 ⟨rfl, k⟩
  replace HB := below_thru HB k
  clear k
  go_wp2_with fail
  have P := (Pair.new w3 (.int .i64 x0) (.int .u64 x1) 24).below (below_box _ (.cells #[.int .i64 y0, .int .u64 y1] 24))
  have R := Pair.new (w3.alloc (.cells #[.int .i64 x0, .int .u64 x1] 24)) (.int .i64 y0) (.int .u64 y1) 24
  rw [World.size_alloc] at R
  replace HB := below_thru (below_thru HB (below_box _ (.cells #[.int .i64 x0, .int .u64 x1] 24))) (below_box _ (.cells #[.int .i64 y0, .int .u64 y1] 24))
  generalize (w3.alloc (.cells #[.int .i64 x0, .int .u64 x1] 24)).alloc (.cells #[.int .i64 y0, .int .u64 y1] 24) = w4 at *
  generalize w3.heap.size = g at *
  refine (O12.out _).mono ?_
  rintro e w5 ⟨rfl, k⟩
  replace P := P.below k
  replace R := R.below k
  replace HB := below_thru HB k
  clear k
  go_wp2_with fail
  refine (O18.out _).mono ?_
  rintro e w6 ⟨rfl, k⟩
  replace P := P.below k
  replace R := R.below k
  replace HB := below_thru HB k
  clear k
  go_wp2_with fail
  refine (GC.out _).mono ?_
  rintro e w7 ⟨rfl, k⟩
  replace P := P.below k
  replace R := R.below k
  replace HB := below_thru HB k
  clear k
  go_wp2_with fail
  have kb := below_box w7 (.cells #[.int .i64 z0, .int .u64 z1] 24)
  have G := Pair.new w7 (.int .i64 z0) (.int .u64 z1) 24
  replace P := P.below kb
  replace R := R.below kb
  replace HB := below_thru HB kb
  clear kb
  generalize w7.alloc (.cells #[.int .i64 z0, .int .u64 z1] 24) = w8 at *
  generalize w7.heap.size = h at *
  clear O7 O2 O12 O18 FL GC
  obtain ⟨_, p0, p1, _, _⟩ := id P
  obtain ⟨_, r0, r1, _, _⟩ := id R
  obtain ⟨_, g0, g1, _, _⟩ := id G
  go_region_held3 (fun w' => w'.cell? ⟨g, 0, none⟩ = some (.int .i64 x0) ∧ w'.cell? ⟨g, 1, none⟩ = some (.int .u64 x1) ∧ w'.cell? ⟨g + 1, 0, none⟩ = some (.int .i64 y0) ∧ w'.cell? ⟨g + 1, 1, none⟩ = some (.int .u64 y1) ∧ w'.cell? ⟨h, 0, none⟩ = some (.int .i64 z0) ∧ w'.cell? ⟨h, 1, none⟩ = some (.int .u64 z1)) (first | (with_reducible exact ⟨P.c0, P.c1, R.c0, R.c1, G.c0, G.c1⟩) | (with_reducible exact ⟨P.drew.c0, P.drew.c1, R.drew.c0, R.drew.c1, G.drew.c0, G.drew.c1⟩) | go_keep)
    (first
      | (go_at_call 16; (with_reducible refine (OO4.out _).mono ?_); rintro e x ⟨rfl, k⟩
         with_reducible (first | replace P := P.below k | replace P := P.drew.below k)
         with_reducible (first | replace R := R.below k | replace R := R.drew.below k)
         with_reducible (first | replace G := G.below k | replace G := G.drew.below k)
         with_reducible (first | replace HB := below_thru HB k | replace HB := below_thru HB.drew k)
         clear k
         obtain ⟨_, p2, p3, _, _⟩ := id P
         obtain ⟨_, r2, r3, _, _⟩ := id R
         obtain ⟨_, g2, g3, _, _⟩ := id G)
      | (go_at_call 16; (with_reducible refine (OO1.out _).mono ?_); rintro e x ⟨rfl, k⟩
         with_reducible (first | replace P := P.below k | replace P := P.drew.below k)
         with_reducible (first | replace R := R.below k | replace R := R.drew.below k)
         with_reducible (first | replace G := G.below k | replace G := G.drew.below k)
         with_reducible (first | replace HB := below_thru HB k | replace HB := below_thru HB.drew k)
         clear k
         obtain ⟨_, p2, p3, _, _⟩ := id P
         obtain ⟨_, r2, r3, _, _⟩ := id R
         obtain ⟨_, g2, g3, _, _⟩ := id G)
      | (go_at_call 16; (with_reducible refine (OO6.out _).mono ?_); rintro e x ⟨rfl, k⟩
         with_reducible (first | replace P := P.below k | replace P := P.drew.below k)
         with_reducible (first | replace R := R.below k | replace R := R.drew.below k)
         with_reducible (first | replace G := G.below k | replace G := G.drew.below k)
         with_reducible (first | replace HB := below_thru HB k | replace HB := below_thru HB.drew k)
         clear k
         obtain ⟨_, p2, p3, _, _⟩ := id P
         obtain ⟨_, r2, r3, _, _⟩ := id R
         obtain ⟨_, g2, g3, _, _⟩ := id G))
  go_wp2
  go_ret
  exact ⟨rfl, HB⟩
end Go.Proofs.Ytgkajbelekjahaa
