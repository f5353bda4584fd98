/- The walks of CheckSums and CheckSigns: at any numbers of 64 bits they return true; what was there is as it was. -/
import Derived.Test.YthfnhnhoglhncaaTold
namespace Go.Proofs.Ythfnhnhoglhncaa
open Go.RowKit

/-- What a call of package check with one number leaves. -/
def RetC (w : World) (z : Int) (e : Ending) (w' : World) : Prop := e = .returned (.tuple #[.int .i64 (tv z), .int .i64 (te z)]) ∧ w = w'
theorem tv_in {z : Int} (h : In64 z) : tv z = z := by unfold tv; rw [if_pos h]
theorem te_in {z : Int} (h : In64 z) : te z = 0 := by unfold te; rw [if_pos h]
theorem tv_out {z : Int} (h : ¬ In64 z) : tv z = 0 := by unfold tv; rw [if_neg h]
theorem te_out {z : Int} (h : ¬ In64 z) : te z = 2 := by unfold te; rw [if_neg h]

theorem cadd (a b : Int) (ha : In64 a) (hb : In64 b) (w : World) : Calls Try.prog 10 #[.int .i64 a, .int .i64 b] w (RetC w (a + b)) := by
  unfold RetC
  by_cases h : In64 (a + b)
  · rw [tv_in h, te_in h]; exact add_ok a b h w
  · rw [tv_out h, te_out h]; exact add_over a b ha hb h w
theorem csub (a b : Int) (ha : In64 a) (hb : In64 b) (w : World) : Calls Try.prog 14 #[.int .i64 a, .int .i64 b] w (RetC w (a - b)) := by
  unfold RetC
  by_cases h : In64 (a - b)
  · rw [tv_in h, te_in h]; exact sub_ok a b h w
  · rw [tv_out h, te_out h]; exact sub_over a b ha hb h w
theorem cneg (a : Int) (ha : In64 a) (w : World) : Calls Try.prog 18 #[.int .i64 a] w (RetC w (-a)) := by
  unfold RetC
  by_cases h : In64 (-a)
  · rw [tv_in h, te_in h]; exact neg_ok a h w
  · rw [tv_out h, te_out h]; exact neg_over a ha h w
theorem cabs (a : Int) (ha : In64 a) (w : World) : Calls Try.prog 20 #[.int .i64 a] w (RetC w (a.natAbs : Int)) := by
  unfold RetC
  by_cases hn : a < 0
  · rw [show ((a.natAbs : Nat) : Int) = -a from by omega]
    by_cases h : In64 (-a)
    · rw [tv_in h, te_in h]; exact abs_neg a hn h w
    · rw [tv_out h, te_out h]; exact abs_over a ha hn h w
  · rw [show ((a.natAbs : Nat) : Int) = a from by omega]
    rw [tv_in ha, te_in ha]; exact abs_pos a (by omega) w

/-- numbers of 64 bits and sums of two have few digits -/
theorem small5 {x : Int} (h : -18446744073709551616 ≤ x ∧ x ≤ 18446744073709551616) : x.natAbs < 65536 ^ 5 := by
  have : (65536 : Nat) ^ 5 = 1208925819614629174706176 := by decide
  rw [this]; omega

set_option maxRecDepth 100000 in
set_option maxHeartbeats 2000000 in
theorem checkSums_walk (a b : Int) (ha : In64 a) (hb : In64 b) (w : World) :
    Calls Try.prog 3 #[.int .i64 a, .int .i64 b] w fun e w' => e = .returned (.bool true) ∧ Below w.heap.size w w' := by
  have CA := Lib.hid (fun W => cadd a b ha hb W)
  have CS := Lib.hid (fun W => csub a b ha hb W)
  have C1 := Lib.hid (fun W => add_ok 1 2 (by decide) W)
  have OA := Lib.hid (fun W => of_any a ha.1 ha.2 W)
  have OB := Lib.hid (fun W => of_any b hb.1 hb.2 W)
  have sa := Lib.hid (small5 (x := a) (by unfold In64 at ha; omega))
  have sb := Lib.hid (small5 (x := b) (by unfold In64 at hb; omega))
  have s1 := Lib.hid (small5 (x := a + b) (by unfold In64 at ha hb; omega))
  have s2 := Lib.hid (small5 (x := a - b) (by unfold In64 at ha hb; omega))
  clear ha hb
  go_enter Try.func3, Try.ntmps3
  go_wp2_with fail
  refine (CA.out _).mono ?_
  rintro e w' ⟨rfl, rfl⟩
  go_wp2_with fail
  refine (OA.out _).mono ?_
  rintro e w1 ⟨p1, A1, n1, c1, rfl, z1, k1⟩
  have HB := k1
  go_wp2_with fail
  refine (OB.out _).mono ?_
  rintro e w2 ⟨p2, A2, n2, c2, rfl, z2, k2⟩
  replace HB := below_next HB k2
  go_wp2_with fail
  have q1 := z1.small sa.out
  have q2 := z2.small sb.out
  refine (add_any p1 p2 A1 A2 n1 n2 c1 c2 a b _ (z1.below k2) z2 (by omega) (by omega)).mono ?_
  clear k1 k2 z1 z2
  rintro e w3 ⟨p3, A3, n3, c3, rfl, z3, k3⟩
  replace HB := below_next HB k3
  have q3 := z3.small s1.out
  go_wp2_with fail
  refine (told_any p3 A3 n3 c3 _ _ z3 (by omega)).mono ?_
  rintro e w4 ⟨rfl, k4⟩
  replace HB := below_next HB k4
  clear k3 k4 z3
  go_wp2_with fail
  refine (CS.out _).mono ?_
  rintro e w' ⟨rfl, rfl⟩
  go_wp2_with fail
  refine (OA.out _).mono ?_
  rintro e w5 ⟨p5, A5, n5, c5, rfl, z5, k5⟩
  replace HB := below_next HB k5
  go_wp2_with fail
  refine (OB.out _).mono ?_
  rintro e w6 ⟨p6, A6, n6, c6, rfl, z6, k6⟩
  replace HB := below_next HB k6
  have q5 := z5.small sa.out
  have q6 := z6.small sb.out
  go_wp2_with fail
  refine (sub_any p5 p6 A5 A6 n5 n6 c5 c6 a b _ (z5.below k6) z6 (by omega) (by omega)).mono ?_
  clear k5 k6 z5 z6
  rintro e w7 ⟨p7, A7, n7, c7, rfl, z7, k7⟩
  replace HB := below_next HB k7
  have q7 := z7.small s2.out
  go_wp2_with fail
  refine (told_any p7 A7 n7 c7 _ _ z7 (by omega)).mono ?_
  rintro e w8 ⟨rfl, k8⟩
  replace HB := below_next HB k8
  clear k7 k8 z7
  go_wp2_with fail
  refine (C1.out _).mono ?_
  rintro e w' ⟨rfl, rfl⟩
  go_wp2_with fail
  go_ret
  exact ⟨rfl, HB⟩

set_option maxRecDepth 100000 in
set_option maxHeartbeats 2000000 in
theorem checkSigns_walk (a : Int) (ha : In64 a) (w : World) :
    Calls Try.prog 5 #[.int .i64 a] w fun e w' => e = .returned (.bool true) ∧ Below w.heap.size w w' := by
  have CA := Lib.hid (fun W => cneg a ha W)
  have CS := Lib.hid (fun W => cabs a ha W)
  have C1 := Lib.hid (fun W => neg_ok (-1) (by decide) W)
  have OA := Lib.hid (fun W => of_any a ha.1 ha.2 W)
  have sa := Lib.hid (small5 (x := a) (by unfold In64 at ha; omega))
  have s1 := Lib.hid (small5 (x := -a) (by unfold In64 at ha; omega))
  have s2 := Lib.hid (small5 (x := (a.natAbs : Int)) (by unfold In64 at ha; omega))
  clear ha
  generalize hm : ((a.natAbs : Nat) : Int) = m at *
  have HM := Lib.hid hm
  clear hm
  go_enter Try.func5, Try.ntmps5
  go_wp2_with fail
  refine (CA.out _).mono ?_
  rintro e w' ⟨rfl, rfl⟩
  go_wp2_with fail
  refine (OA.out _).mono ?_
  rintro e w1 ⟨p1, A1, n1, c1, rfl, z1, k1⟩
  have HB := k1
  have q1 := z1.small sa.out
  go_wp2_with fail
  refine (neg_any p1 A1 n1 c1 a _ z1 (by omega)).mono ?_
  clear k1 z1
  rintro e w3 ⟨p3, A3, n3, c3, rfl, z3, k3⟩
  replace HB := below_next HB k3
  have q3 := z3.small s1.out
  go_wp2_with fail
  refine (told_any p3 A3 n3 c3 _ _ z3 (by omega)).mono ?_
  rintro e w4 ⟨rfl, k4⟩
  replace HB := below_next HB k4
  clear k3 k4 z3
  go_wp2_with fail
  refine (CS.out _).mono ?_
  rintro e w' ⟨rfl, rfl⟩
  go_wp2_with fail
  refine (OA.out _).mono ?_
  rintro e w5 ⟨p5, A5, n5, c5, rfl, z5, k5⟩
  replace HB := below_next HB k5
  have q5 := z5.small sa.out
  go_wp2_with fail
  refine (abs_any p5 A5 n5 c5 a _ z5 (by omega)).mono ?_
  clear k5 z5
  rintro e w7 ⟨p7, A7, n7, c7, rfl, z7, k7⟩
  rw [HM.out] at z7
  replace HB := below_next HB k7
  have q7 := z7.small s2.out
  go_wp2_with fail
  refine (told_any p7 A7 n7 c7 _ _ z7 (by omega)).mono ?_
  rintro e w8 ⟨rfl, k8⟩
  replace HB := below_next HB k8
  clear k7 k8 z7
  go_wp2_with fail
  refine (C1.out _).mono ?_
  rintro e w' ⟨rfl, rfl⟩
  go_wp2_with fail
  go_ret
  exact ⟨rfl, HB⟩
end Go.Proofs.Ythfnhnhoglhncaa
