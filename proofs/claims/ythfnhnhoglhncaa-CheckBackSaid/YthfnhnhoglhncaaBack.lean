/- The walk of CheckBack: at any two numbers of 64 bits it returns true, and leaves memory as it was, but for draws. -/
import Derived.Test.YthfnhnhoglhncaaCk
import Derived.Test.YthfnhnhoglhncaaPost
namespace Go.Proofs.Ythfnhnhoglhncaa
open Go.RowKit

theorem back_add (a b : Int) (ha : In64 a) (hb : In64 b) (h : In64 (a + b)) : In64 (a + b - b) ∧ In64 (a + b - a) := by
  unfold In64 at *; omega

set_option maxHeartbeats 400000 in
theorem checkBack_walk (a b : Int) (ha : In64 a) (hb : In64 b) (w : World) :
    Calls Try.prog 8 #[.int .i64 a, .int .i64 b] w fun e w' => e = .returned (.bool true) ∧ Below w.heap.size w w' := by
  have one := fun W => add_ok 0 1 (by decide) W
  simp only [Int.zero_add] at one
  by_cases hs : In64 (a + b)
  · have A := fun W => add_ok a b hs W
    have S1 := fun W => sub_ok (a + b) b (back_add a b ha hb hs).1 W
    have S2 := fun W => sub_ok (a + b) a (back_add a b ha hb hs).2 W
    rw [show a + b - b = a from by omega] at S1
    rw [show a + b - a = b from by omega] at S2
    by_cases hm : In64 (a * 2)
    · have M := fun W => mul_ok a 2 ha (by decide) (.inr (by decide)) hm W
      have D := fun W => div_ok (a * 2) 2 hm (by decide) (by decide) (.inr (by decide)) W
      rw [show (a * 2).fdiv 2 = a from by rw [Int.fdiv_eq_ediv_of_nonneg _ (by decide)]; omega, show (a * 2).fmod 2 = 0 from by rw [Int.fmod_eq_emod_of_nonneg _ (by decide)]; omega] at D
      clear ha hb hs hm
      go_enter Try.func8, Try.ntmps8
      go_wp2_with fail
      refine (A _).mono ?_; rintro e w' ⟨rfl, rfl⟩
      go_wp2_with fail
      refine (S1 _).mono ?_; rintro e w' ⟨rfl, rfl⟩
      go_wp2_with fail
      refine (S2 _).mono ?_; rintro e w' ⟨rfl, rfl⟩
      go_wp2_with fail
      refine (M _).mono ?_; rintro e w' ⟨rfl, rfl⟩
      go_wp2_with fail
      refine (D _).mono ?_; rintro e w' ⟨rfl, n, rfl⟩
      go_wp2_with fail
      refine (one _).mono ?_; rintro e w' ⟨rfl, rfl⟩
      go_wp2_with fail
      go_ret
      exact ⟨rfl, below_drewN (Below.refl _ _) _⟩
    · have M := fun W => mul_over a 2 ha (by decide) (by decide) (.inr (by decide)) hm W
      clear ha hb hs hm
      go_enter Try.func8, Try.ntmps8
      go_wp2_with fail
      refine (A _).mono ?_; rintro e w' ⟨rfl, rfl⟩
      go_wp2_with fail
      refine (S1 _).mono ?_; rintro e w' ⟨rfl, rfl⟩
      go_wp2_with fail
      refine (S2 _).mono ?_; rintro e w' ⟨rfl, rfl⟩
      go_wp2_with fail
      refine (M _).mono ?_; rintro e w' ⟨rfl, rfl⟩
      go_wp2_with fail
      refine (one _).mono ?_; rintro e w' ⟨rfl, rfl⟩
      go_wp2_with fail
      go_ret
      exact ⟨rfl, Below.refl _ _⟩
  · have A := fun W => add_over a b ha hb hs W
    by_cases hm : In64 (a * 2)
    · have M := fun W => mul_ok a 2 ha (by decide) (.inr (by decide)) hm W
      have D := fun W => div_ok (a * 2) 2 hm (by decide) (by decide) (.inr (by decide)) W
      rw [show (a * 2).fdiv 2 = a from by rw [Int.fdiv_eq_ediv_of_nonneg _ (by decide)]; omega, show (a * 2).fmod 2 = 0 from by rw [Int.fmod_eq_emod_of_nonneg _ (by decide)]; omega] at D
      clear ha hb hs hm
      go_enter Try.func8, Try.ntmps8
      go_wp2_with fail
      refine (A _).mono ?_; rintro e w' ⟨rfl, rfl⟩
      go_wp2_with fail
      refine (M _).mono ?_; rintro e w' ⟨rfl, rfl⟩
      go_wp2_with fail
      refine (D _).mono ?_; rintro e w' ⟨rfl, n, rfl⟩
      go_wp2_with fail
      refine (one _).mono ?_; rintro e w' ⟨rfl, rfl⟩
      go_wp2_with fail
      go_ret
      exact ⟨rfl, below_drewN (Below.refl _ _) _⟩
    · have M := fun W => mul_over a 2 ha (by decide) (by decide) (.inr (by decide)) hm W
      clear ha hb hs hm
      go_enter Try.func8, Try.ntmps8
      go_wp2_with fail
      refine (A _).mono ?_; rintro e w' ⟨rfl, rfl⟩
      go_wp2_with fail
      refine (M _).mono ?_; rintro e w' ⟨rfl, rfl⟩
      go_wp2_with fail
      refine (one _).mono ?_; rintro e w' ⟨rfl, rfl⟩
      go_wp2_with fail
      go_ret
      exact ⟨rfl, Below.refl _ _⟩
end Go.Proofs.Ythfnhnhoglhncaa
