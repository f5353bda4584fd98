/- The walk of CheckRests: at any two numbers of 64 bits it returns true, and leaves memory as it was, but for draws. -/
import Derived.Test.YthfnhnhoglhncaaCk
import Derived.Test.YthfnhnhoglhncaaPost
namespace Go.Proofs.Ythfnhnhoglhncaa
open Go.RowKit

theorem mul_in (a b : Int) (ha : In64 a) (h : In64 (a * b)) (w : World) :
    Calls Try.prog 16 #[.int .i64 a, .int .i64 b] w fun e w' => e = .returned (.tuple #[.int .i64 (a * b), .int .i64 0]) ∧ w = w' := by
  by_cases h0 : b = 0
  · subst h0
    rw [Int.mul_zero]
    exact mul_zero a w
  · refine mul_ok a b ha h0 ?_ h w
    by_cases h1 : a = -9223372036854775808
    · right; intro h2; subst h1; subst h2; revert h; decide
    · exact .inl h1
theorem mul_out (a b : Int) (ha : In64 a) (hb : In64 b) (h : ¬ In64 (a * b)) (w : World) :
    Calls Try.prog 16 #[.int .i64 a, .int .i64 b] w fun e w' => e = .returned (.tuple #[.int .i64 0, .int .i64 2]) ∧ w = w' := by
  have h0 : ¬ b = 0 := by
    intro h0; subst h0; rw [Int.mul_zero] at h; exact h (by decide)
  by_cases h1 : a = -9223372036854775808 ∧ b = -1
  · obtain ⟨rfl, rfl⟩ := h1
    exact mul_refused w
  · refine mul_over a b ha hb h0 ?_ h w
    by_cases h2 : a = -9223372036854775808
    · exact .inr fun h3 => h1 ⟨h2, h3⟩
    · exact .inl h2

/-- a product and a rest that is added: the number, or the product has no room -/
theorem make_up (a b q r : Int) (ha : In64 a) (hb : In64 b) (hq : In64 q) (hr : In64 r) (h : b * q + r = a) :
    ∃ p g s : Int, (∀ W, Calls Try.prog 16 #[.int .i64 q, .int .i64 b] W fun e w' => e = .returned (.tuple #[.int .i64 p, .int .i64 g]) ∧ W = w') ∧
      (∀ W, Calls Try.prog 10 #[.int .i64 p, .int .i64 r] W fun e w' => e = .returned (.tuple #[.int .i64 s, .int .i64 0]) ∧ W = w') ∧ ((g = 0 ∧ s = a) ∨ g = 2) := by
  by_cases hm : In64 (q * b)
  · refine ⟨q * b, 0, a, fun W => mul_in q b hq hm W, fun W => ?_, .inl ⟨rfl, rfl⟩⟩
    have e : q * b + r = a := by rw [Int.mul_comm]; exact h
    have := add_ok (q * b) r (by rw [e]; exact ha) W
    rw [e] at this
    exact this
  · refine ⟨0, 2, r, fun W => mul_out q b hq hb hm W, fun W => ?_, .inr rfl⟩
    have := add_ok 0 r (by rw [Int.zero_add]; exact hr) W
    rw [Int.zero_add] at this
    exact this

theorem nine (W : World) : Calls Try.prog 22 #[.int .i64 9, .int .i64 3] W fun e w' => e = .returned (.tuple #[.int .i64 3, .int .i64 0, .int .i64 0]) ∧ ∃ n, w' = W.drewN n :=
  div_ok 9 3 (by decide) (by decide) (by decide) (.inl (by decide)) W

set_option maxRecDepth 100000 in
set_option maxHeartbeats 2000000 in
theorem checkRests_walk (a b : Int) (ha : In64 a) (hb : In64 b) (w : World) :
    Calls Try.prog 9 #[.int .i64 a, .int .i64 b] w fun e w' => e = .returned (.bool true) ∧ Below w.heap.size w w' := by
  by_cases h0 : b = 0
  · subst h0
    clear ha hb
    go_enter Try.func9, Try.ntmps9
    go_wp2_with fail
    refine (div_zero _ _).mono ?_; rintro e w' ⟨rfl, rfl⟩
    go_wp2_with fail
    refine (euclid_zero _ _).mono ?_; rintro e w' ⟨rfl, rfl⟩
    go_wp2_with fail
    refine (nine _).mono ?_; rintro e w' ⟨rfl, n, rfl⟩
    go_wp2_with fail
    go_ret
    exact ⟨rfl, below_drewN (Below.refl _ _) _⟩
  by_cases hr : a = -9223372036854775808 ∧ b = -1
  · obtain ⟨rfl, rfl⟩ := hr
    clear ha hb h0
    go_enter Try.func9, Try.ntmps9
    go_wp2_with fail
    refine (div_over _).mono ?_; rintro e w' ⟨rfl, rfl⟩
    go_wp2_with fail
    refine (euclid_over _).mono ?_; rintro e w' ⟨rfl, rfl⟩
    go_wp2_with fail
    refine (nine _).mono ?_; rintro e w' ⟨rfl, n, rfl⟩
    go_wp2_with fail
    go_ret
    exact ⟨rfl, below_drewN (Below.refl _ _) _⟩
  have hr' : a ≠ -9223372036854775808 ∨ b ≠ -1 := by
    by_cases h2 : a = -9223372036854775808
    · exact .inr fun h3 => hr ⟨h2, h3⟩
    · exact .inl h2
  have D := fun W => div_ok a b ha hb h0 hr' W
  have E := fun W => euclid_ok a b ha hb h0 hr' W
  have hq := fdiv_in a b ha h0 hr'
  have hm := fmod_in a b hb h0
  have hx : In64 (a / b) := by
    by_cases h : a.fmod b < 0
    · have h3 := Int.natAbs_ediv_le_natAbs a b
      have h4 := Int.mul_ediv_add_emod a b
      have h5 := Int.emod_nonneg a h0
      have h6 : a % b < b.natAbs := Int.emod_lt a h0
      unfold In64 at *
      by_cases h7 : a / b = 9223372036854775808
      · rw [h7] at h4; omega
      · omega
    · rw [(ediv_of_fdiv' a b h0 h).1]; exact hq
  have hy : In64 (a % b) := by
    have h5 := Int.emod_nonneg a h0
    have h6 : a % b < b.natAbs := Int.emod_lt a h0
    unfold In64 at *
    omega
  obtain ⟨p, g, s, M, A, hc⟩ := make_up a b _ _ ha hb hq hm (Int.mul_fdiv_add_fmod a b)
  obtain ⟨p', g', s', M', A', hc'⟩ := make_up a b _ _ ha hb hx hy (Int.mul_ediv_add_emod a b)
  have y0 := Int.emod_nonneg a h0
  have y1 : a % b < b.natAbs := Int.emod_lt a h0
  have r1 : (0 < b → 0 ≤ a.fmod b ∧ a.fmod b < b) ∧ (b < 0 → b < a.fmod b ∧ a.fmod b ≤ 0) := by
    refine ⟨fun h => ⟨Int.fmod_nonneg_of_pos a h, Int.fmod_lt_of_pos a h⟩, fun h => ?_⟩
    have := ((Int.fdiv_fmod_unique' h).1 ⟨rfl, rfl⟩ : a.fmod b + b * a.fdiv b = a ∧ b < a.fmod b ∧ a.fmod b ≤ 0)
    exact this.2
  generalize a.fdiv b = q at *
  generalize a.fmod b = r at *
  generalize a / b = x at *
  generalize a % b = y at *
  unfold In64 at ha hb
  clear hq hm hx hy hr hr'
  have hz : (b == 0) = false := by simpa using h0
  have hz' : (b != 0) = true := by simpa using h0
  rcases Int.lt_or_lt_of_ne h0 with hs | hs
  · obtain ⟨r3, r4⟩ := r1.2 hs
    have y2 : b < -y := by omega
    have s1 : ¬ (0 < b) := by omega
    clear r1 y1 ha h0
    by_cases hr0 : r = 0
    · subst hr0
      rcases hc with ⟨rfl, rfl⟩ | rfl <;> rcases hc' with ⟨rfl, rfl⟩ | rfl
      all_goals
        go_enter Try.func9, Try.ntmps9
        go_wp2_with fail
        refine (D _).mono ?_; rintro e w' ⟨rfl, n, rfl⟩
        go_wp2_with fail
        refine (E _).mono ?_; rintro e w' ⟨rfl, n, rfl⟩
        go_wp2_with fail
        refine (M _).mono ?_; rintro e w' ⟨rfl, rfl⟩
        go_wp2_with fail
        refine (A _).mono ?_; rintro e w' ⟨rfl, rfl⟩
        go_wp2_with fail
        refine (M' _).mono ?_; rintro e w' ⟨rfl, rfl⟩
        go_wp2_with fail
        refine (A' _).mono ?_; rintro e w' ⟨rfl, rfl⟩
        go_wp2_with fail
        refine (nine _).mono ?_; rintro e w' ⟨rfl, n, rfl⟩
        go_wp2_with fail
        go_ret
        exact ⟨rfl, below_drewN (Below.refl _ _) _⟩
    · have r5 : (r != 0) = true := by simpa using hr0
      have r6 : r < 0 := by omega
      clear hr0
      rcases hc with ⟨rfl, rfl⟩ | rfl <;> rcases hc' with ⟨rfl, rfl⟩ | rfl
      all_goals
        go_enter Try.func9, Try.ntmps9
        go_wp2_with fail
        refine (D _).mono ?_; rintro e w' ⟨rfl, n, rfl⟩
        go_wp2_with fail
        refine (E _).mono ?_; rintro e w' ⟨rfl, n, rfl⟩
        go_wp2_with fail
        refine (M _).mono ?_; rintro e w' ⟨rfl, rfl⟩
        go_wp2_with fail
        refine (A _).mono ?_; rintro e w' ⟨rfl, rfl⟩
        go_wp2_with fail
        refine (M' _).mono ?_; rintro e w' ⟨rfl, rfl⟩
        go_wp2_with fail
        refine (A' _).mono ?_; rintro e w' ⟨rfl, rfl⟩
        go_wp2_with fail
        refine (nine _).mono ?_; rintro e w' ⟨rfl, n, rfl⟩
        go_wp2_with fail
        go_ret
        exact ⟨rfl, below_drewN (Below.refl _ _) _⟩
  · obtain ⟨r3, r4⟩ := r1.1 hs
    have y2 : y < b := by omega
    have s1 : ¬ (b < 0) := by omega
    clear r1 y1 ha h0
    by_cases hr0 : r = 0
    · subst hr0
      rcases hc with ⟨rfl, rfl⟩ | rfl <;> rcases hc' with ⟨rfl, rfl⟩ | rfl
      all_goals
        go_enter Try.func9, Try.ntmps9
        go_wp2_with fail
        refine (D _).mono ?_; rintro e w' ⟨rfl, n, rfl⟩
        go_wp2_with fail
        refine (E _).mono ?_; rintro e w' ⟨rfl, n, rfl⟩
        go_wp2_with fail
        refine (M _).mono ?_; rintro e w' ⟨rfl, rfl⟩
        go_wp2_with fail
        refine (A _).mono ?_; rintro e w' ⟨rfl, rfl⟩
        go_wp2_with fail
        refine (M' _).mono ?_; rintro e w' ⟨rfl, rfl⟩
        go_wp2_with fail
        refine (A' _).mono ?_; rintro e w' ⟨rfl, rfl⟩
        go_wp2_with fail
        refine (nine _).mono ?_; rintro e w' ⟨rfl, n, rfl⟩
        go_wp2_with fail
        go_ret
        exact ⟨rfl, below_drewN (Below.refl _ _) _⟩
    · have r5 : (r != 0) = true := by simpa using hr0
      have r6 : 0 < r := by omega
      have r7 : ¬ (r < 0) := by omega
      clear hr0
      rcases hc with ⟨rfl, rfl⟩ | rfl <;> rcases hc' with ⟨rfl, rfl⟩ | rfl
      all_goals
        go_enter Try.func9, Try.ntmps9
        go_wp2_with fail
        refine (D _).mono ?_; rintro e w' ⟨rfl, n, rfl⟩
        go_wp2_with fail
        refine (E _).mono ?_; rintro e w' ⟨rfl, n, rfl⟩
        go_wp2_with fail
        refine (M _).mono ?_; rintro e w' ⟨rfl, rfl⟩
        go_wp2_with fail
        refine (A _).mono ?_; rintro e w' ⟨rfl, rfl⟩
        go_wp2_with fail
        refine (M' _).mono ?_; rintro e w' ⟨rfl, rfl⟩
        go_wp2_with fail
        refine (A' _).mono ?_; rintro e w' ⟨rfl, rfl⟩
        go_wp2_with fail
        refine (nine _).mono ?_; rintro e w' ⟨rfl, n, rfl⟩
        go_wp2_with fail
        go_ret
        exact ⟨rfl, below_drewN (Below.refl _ _) _⟩
end Go.Proofs.Ythfnhnhoglhncaa
