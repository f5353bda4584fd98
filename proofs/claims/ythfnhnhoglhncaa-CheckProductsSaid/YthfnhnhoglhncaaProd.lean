/- The walk of CheckProducts: at any two numbers of 64 bits it returns true; what was there is as it was. -/
import Derived.Test.YthfnhnhoglhncaaMul
import Derived.Test.YthfnhnhoglhncaaSums
namespace Go.Proofs.Ythfnhnhoglhncaa
open Go.RowKit

theorem cmul (a b : Int) (ha : In64 a) (hb : In64 b) (w : World) : Calls Try.prog 16 #[.int .i64 a, .int .i64 b] w (RetC w (a * b)) := by
  unfold RetC
  by_cases h0 : b = 0
  · subst h0
    rw [Int.mul_zero, tv_in (by decide), te_in (by decide)]
    exact mul_zero a w
  by_cases h1 : a = -9223372036854775808 ∧ b = -1
  · obtain ⟨rfl, rfl⟩ := h1
    rw [tv_out (by decide), te_out (by decide)]
    exact mul_refused w
  have hr : a ≠ -9223372036854775808 ∨ b ≠ -1 := by
    by_cases h2 : a = -9223372036854775808
    · exact .inr fun h3 => h1 ⟨h2, h3⟩
    · exact .inl h2
  by_cases h : In64 (a * b)
  · rw [tv_in h, te_in h]; exact mul_ok a b ha h0 hr h w
  · rw [tv_out h, te_out h]; exact mul_over a b ha hb h0 hr h w

theorem small9 {x y : Int} (hx : In64 x) (hy : In64 y) : (x * y).natAbs < 65536 ^ 9 := by
  rw [Int.natAbs_mul]
  have h1 : x.natAbs ≤ 9223372036854775808 := by unfold In64 at hx; omega
  have h2 : y.natAbs ≤ 9223372036854775808 := by unfold In64 at hy; omega
  have h3 : x.natAbs * y.natAbs ≤ 9223372036854775808 * 9223372036854775808 := Nat.mul_le_mul h1 h2
  have h4 : 9223372036854775808 * 9223372036854775808 < (65536 : Nat) ^ 9 := by decide
  exact Nat.lt_of_le_of_lt h3 h4

set_option maxRecDepth 100000 in
set_option maxHeartbeats 2000000 in
theorem checkProducts_walk (a b : Int) (ha : In64 a) (hb : In64 b) (w : World) :
    Calls Try.prog 4 #[.int .i64 a, .int .i64 b] w fun e w' => e = .returned (.bool true) ∧ Below w.heap.size w w' := by
  have CA := Lib.hid (fun W => cmul a b ha hb W)
  have C1 := Lib.hid (fun W => mul_ok 2 3 (by decide) (by decide) (.inl (by decide)) (by decide) W)
  have OA := Lib.hid (fun W => of_any a ha.1 ha.2 W)
  have OB := Lib.hid (fun W => of_any b hb.1 hb.2 W)
  have sa := Lib.hid (small5 (x := a) (by unfold In64 at ha; omega))
  have sb := Lib.hid (small5 (x := b) (by unfold In64 at hb; omega))
  have s1 := Lib.hid (small9 ha hb)
  clear ha hb
  generalize hm : a * b = m at *
  have HM := Lib.hid hm
  clear hm
  go_enter Try.func4, Try.ntmps4
  go_wp2_with fail
  refine (CA.out _).mono ?_
  rintro e w' ⟨rfl, rfl⟩
  go_wp2_with fail
  refine (OA.out _).mono ?_
  rintro e w1 ⟨p1, A1, n1, c1, rfl, z1, k1⟩
  have HB := k1
  go_wp2_with fail
  refine (OB.out _).mono ?_
  rintro e w2 ⟨p2, A2, n2, c2, rfl, z2, k2⟩
  replace HB := below_next HB k2
  go_wp2_with fail
  have q1 := z1.small sa.out
  have q2 := z2.small sb.out
  refine (mul_any p1 p2 A1 A2 n1 n2 c1 c2 a b _ (z1.below k2) z2 (by omega) (by omega)).mono ?_
  clear k1 k2 z1 z2
  rintro e w3 ⟨p3, A3, n3, c3, rfl, z3, k3⟩
  rw [HM.out] at z3
  replace HB := below_next HB k3
  have q3 := z3.small s1.out
  go_wp2_with fail
  refine (told_any p3 A3 n3 c3 _ _ z3 (by omega)).mono ?_
  rintro e w4 ⟨rfl, k4⟩
  replace HB := below_next HB k4
  clear k3 k4 z3
  go_wp2_with fail
  refine (C1.out _).mono ?_
  rintro e w' ⟨rfl, rfl⟩
  go_wp2_with fail
  go_ret
  exact ⟨rfl, HB⟩
end Go.Proofs.Ythfnhnhoglhncaa
