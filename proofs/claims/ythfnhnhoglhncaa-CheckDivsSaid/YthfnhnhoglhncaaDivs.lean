/- The walks of CheckDivs and CheckEuclid: at any two numbers of 64 bits they return true; what was there is as it was. -/
import Derived.Test.YthfnhnhoglhncaaQuo
namespace Go.Proofs.Ythfnhnhoglhncaa
open Go.RowKit

theorem div_ex (W : World) : Calls Try.prog 22 #[.int .i64 (-7), .int .i64 2] W fun e w' => e = .returned (.tuple #[.int .i64 (-4), .int .i64 1, .int .i64 0]) ∧ ∃ n, w' = W.drewN n :=
  div_ok (-7) 2 (by decide) (by decide) (by decide) (.inl (by decide)) W
theorem euclid_ex (W : World) : Calls Try.prog 24 #[.int .i64 (-7), .int .i64 (-2)] W fun e w' => e = .returned (.tuple #[.int .i64 4, .int .i64 1, .int .i64 0]) ∧ ∃ n, w' = W.drewN n :=
  euclid_ok (-7) (-2) (by decide) (by decide) (by decide) (.inl (by decide)) W

theorem ref_euclid (a b : Int) (ha : In64 a) (hb : In64 b) (h0 : b ≠ 0) (hr : a ≠ -9223372036854775808 ∨ b ≠ -1) (w : World) :
    Calls Try.prog 25 #[.int .i64 a, .int .i64 b] w (Ret3 w (a / b) (a % b) 0) := by
  have i2 : In64 (a % b) := by
    have h5 := Int.emod_nonneg a h0
    have h6 : a % b < b.natAbs := Int.emod_lt a h0
    unfold In64 at *
    omega
  have i1 : In64 (a / b) := by
    by_cases h : a.fmod b < 0
    · have h3 := Int.natAbs_ediv_le_natAbs a b
      have h4 := Int.mul_ediv_add_emod a b
      have h5 := Int.emod_nonneg a h0
      have h6 : a % b < b.natAbs := Int.emod_lt a h0
      unfold In64 at *
      by_cases h7 : a / b = 9223372036854775808
      · rw [h7] at h4; omega
      · omega
    · rw [(ediv_of_fdiv' a b h0 h).1]; exact fdiv_in a b ha h0 hr
  by_cases h : a.fmod b < 0
  · obtain ⟨e1, e2⟩ := ediv_of_fdiv a b h0 h
    rw [e1] at i1
    rw [e2] at i2
    rw [e1, e2]
    exact euc_neg a b ha hb h0 h i1 i2 w
  · obtain ⟨e1, e2⟩ := ediv_of_fdiv' a b h0 h
    rw [e1] at i1
    rw [e1, e2]
    exact euc_pos a b ha hb h0 h i1 w

set_option maxHeartbeats 2000000 in
theorem checkDivs_walk (a b : Int) (ha : In64 a) (hb : In64 b) (w : World) :
    Calls Try.prog 6 #[.int .i64 a, .int .i64 b] w fun e w' => e = .returned (.bool true) ∧ Below w.heap.size w w' := by
  by_cases h0 : b = 0
  · subst h0
    clear ha hb
    go_enter Try.func6, Try.ntmps6
    go_wp2_with fail
    refine (div_zero _ _).mono ?_
    rintro e w1 ⟨rfl, rfl⟩
    go_wp2_with fail
    refine (quo_zero _ _).mono ?_
    rintro e w2 ⟨rfl, k2⟩
    have HB := k2
    clear k2
    go_wp2_with fail
    refine (div_ex _).mono ?_
    rintro e w3 ⟨rfl, n3, rfl⟩
    go_wp2_with fail
    go_ret
    exact ⟨rfl, below_drewN HB _⟩
  by_cases h1 : a = -9223372036854775808 ∧ b = -1
  · obtain ⟨rfl, rfl⟩ := h1
    have R := fun W => quo_over (-9223372036854775808) (-1) (by decide) (by decide) (by decide) (by decide) W
    clear ha hb h0
    go_enter Try.func6, Try.ntmps6
    go_wp2_with fail
    refine (div_over _).mono ?_
    rintro e w1 ⟨rfl, rfl⟩
    go_wp2_with fail
    refine (R _).mono ?_
    rintro e w2 ⟨rfl, k2⟩
    have HB := k2
    clear k2
    go_wp2_with fail
    refine (div_ex _).mono ?_
    rintro e w3 ⟨rfl, n3, rfl⟩
    go_wp2_with fail
    go_ret
    exact ⟨rfl, below_drewN HB _⟩
  have hr : a ≠ -9223372036854775808 ∨ b ≠ -1 := by
    by_cases h2 : a = -9223372036854775808
    · exact .inr fun h3 => h1 ⟨h2, h3⟩
    · exact .inl h2
  · have D := Lib.hid (fun W => div_ok a b ha hb h0 hr W)
    have R := Lib.hid (fun W => quo_ok a b ha hb h0 hr W)
    clear ha hb h0 h1 hr
    generalize a.fdiv b = q at *
    generalize a.fmod b = r at *
    go_enter Try.func6, Try.ntmps6
    go_wp2_with fail
    refine (D.out _).mono ?_
    rintro e w1 ⟨rfl, n1, rfl⟩
    go_wp2_with fail
    refine (R.out _).mono ?_
    rintro e w2 ⟨rfl, k2⟩
    have HB := below_next (below_drewN (Below.refl w.heap.size w) n1) k2
    clear k2
    go_wp2_with fail
    refine (div_ex _).mono ?_
    rintro e w3 ⟨rfl, n3, rfl⟩
    go_wp2_with fail
    go_ret
    exact ⟨rfl, below_drewN HB _⟩

set_option maxHeartbeats 2000000 in
theorem checkEuclid_walk (a b : Int) (ha : In64 a) (hb : In64 b) (w : World) :
    Calls Try.prog 7 #[.int .i64 a, .int .i64 b] w fun e w' => e = .returned (.bool true) ∧ Below w.heap.size w w' := by
  by_cases h0 : b = 0
  · subst h0
    clear ha hb
    go_enter Try.func7, Try.ntmps7
    go_wp2_with fail
    refine (euclid_zero _ _).mono ?_
    rintro e w1 ⟨rfl, rfl⟩
    go_wp2_with fail
    refine (euc_zero _ _).mono ?_
    rintro e w2 ⟨rfl, k2⟩
    have HB := k2
    clear k2
    go_wp2_with fail
    refine (euclid_ex _).mono ?_
    rintro e w3 ⟨rfl, n3, rfl⟩
    go_wp2_with fail
    go_ret
    exact ⟨rfl, below_drewN HB _⟩
  by_cases h1 : a = -9223372036854775808 ∧ b = -1
  · obtain ⟨rfl, rfl⟩ := h1
    have R := fun W => euc_over (-9223372036854775808) (-1) (by decide) (by decide) (by decide) (by decide) (by decide) W
    clear ha hb h0
    go_enter Try.func7, Try.ntmps7
    go_wp2_with fail
    refine (euclid_over _).mono ?_
    rintro e w1 ⟨rfl, rfl⟩
    go_wp2_with fail
    refine (R _).mono ?_
    rintro e w2 ⟨rfl, k2⟩
    have HB := k2
    clear k2
    go_wp2_with fail
    refine (euclid_ex _).mono ?_
    rintro e w3 ⟨rfl, n3, rfl⟩
    go_wp2_with fail
    go_ret
    exact ⟨rfl, below_drewN HB _⟩
  have hr : a ≠ -9223372036854775808 ∨ b ≠ -1 := by
    by_cases h2 : a = -9223372036854775808
    · exact .inr fun h3 => h1 ⟨h2, h3⟩
    · exact .inl h2
  · have D := Lib.hid (fun W => euclid_ok a b ha hb h0 hr W)
    have R := Lib.hid (fun W => ref_euclid a b ha hb h0 hr W)
    clear ha hb h0 h1 hr
    generalize a / b = q at *
    generalize a % b = r at *
    go_enter Try.func7, Try.ntmps7
    go_wp2_with fail
    refine (D.out _).mono ?_
    rintro e w1 ⟨rfl, n1, rfl⟩
    go_wp2_with fail
    refine (R.out _).mono ?_
    rintro e w2 ⟨rfl, k2⟩
    have HB := below_next (below_drewN (Below.refl w.heap.size w) n1) k2
    clear k2
    go_wp2_with fail
    refine (euclid_ex _).mono ?_
    rintro e w3 ⟨rfl, n3, rfl⟩
    go_wp2_with fail
    go_ret
    exact ⟨rfl, below_drewN HB _⟩
end Go.Proofs.Ythfnhnhoglhncaa
