/- The walk of DivideRests: at any two wide numbers it returns true; what was there is as it was. -/
import Derived.Test.YtgkajbelekjahaaMrests
namespace Go.Proofs.Ytgkajbelekjahaa
open Go.RowKit

theorem tdiv_over_b {a b : Int} (ha : InW a) (hb0 : b ≠ 0) (h : ¬ InW (a.tdiv b)) : b = -1 := by
  have u := tdiv_over ha hb0 h
  have e := Int.tmod_add_mul_tdiv a b
  have q := tdiv_le a b
  have aa := abs_w ha
  have ht : a.tdiv b = 170141183460469231731687303715884105728 := by unfold InW two127 at h; omega
  rw [ht, u] at e
  unfold InW two127 at ha
  omega
theorem sign_fmod {a b : Int} (hb0 : b ≠ 0) : ord (a.fmod b) 0 = 0 ∨ (ord (a.fmod b) 0 == 0) = false ∧ ord (a.fmod b) 0 = ord b 0 := by
  by_cases h0 : a.fmod b = 0
  · exact .inl (by rw [h0]; exact ord_eq rfl)
  · refine .inr ?_
    have hs : a.fmod b < 0 ∧ b < 0 ∨ 0 < a.fmod b ∧ 0 < b := by
      rcases Int.lt_trichotomy b 0 with k | k | k
      · exact .inl ⟨by have := ((Int.fdiv_fmod_unique' (a := a) (r := a.fmod b) (q := a.fdiv b) k).1 ⟨rfl, rfl⟩).2.2; omega, k⟩
      · exact absurd k hb0
      · exact .inr ⟨by have := Int.fmod_nonneg_of_pos a k; omega, k⟩
    rcases hs with ⟨u, k⟩ | ⟨u, k⟩
    · rw [ord_lt u, ord_lt k]; exact ⟨by decide, rfl⟩
    · rw [ord_gt u, ord_gt k]; exact ⟨by decide, rfl⟩
theorem sign_tmod (a b : Int) : ord (a.tmod b) 0 = 0 ∨ (ord (a.tmod b) 0 == 0) = false ∧ ord (a.tmod b) 0 = ord a 0 := by
  by_cases h0 : a.tmod b = 0
  · exact .inl (by rw [h0]; exact ord_eq rfl)
  · refine .inr ?_
    rcases Int.lt_trichotomy a 0 with k | k | k
    · have : a.tmod b ≤ 0 := by
        have := Int.tmod_nonneg (a := -a) b (by omega)
        rw [Int.neg_tmod] at this
        omega
      rw [ord_lt (show a.tmod b < 0 by omega), ord_lt k]; exact ⟨by decide, rfl⟩
    · subst k; simp at h0
    · have : 0 ≤ a.tmod b := Int.tmod_nonneg b (by omega)
      rw [ord_gt (show 0 < a.tmod b by omega), ord_gt k]; exact ⟨by decide, rfl⟩
theorem fdiv_in {a b : Int} (ha : InW a) (hb : InW b) (hb0 : b ≠ 0) (iT : InW (a.tdiv b)) : InW (a.fdiv b) := by
  by_cases h : a.tmod b = 0 ∨ ord (a.tmod b) 0 = ord b 0
  · rw [(floor_same hb0 h).1]; exact iT
  · have h0 : a.tmod b ≠ 0 := fun e => h (.inl e)
    have hs : ord (a.tmod b) 0 ≠ ord b 0 := fun e => h (.inr e)
    rw [(floor_down hb0 h0 hs).1]
    exact (down_in ha hb hb0 iT h0 hs).1

theorem divideRests_walk (a b : Int) (ha : InW a) (hb : InW b) (w : World) :
    Calls Try.prog 8 #[.agg #[.int .i64 (hiW a), .int .u64 (loW a)], .agg #[.int .i64 (hiW b), .int .u64 (loW b)]] w (RetV w (.bool true)) := by
  by_cases hb0 : b = 0
  · subst hb0
    exact rests_zero a 0 (Lib.hid fun W => (floorW_zero a W).mono fun e w' ⟨h1, h2⟩ => ⟨h1, h2⟩) (Lib.hid fun W => (truncW_zero a W).mono fun e w' ⟨h1, h2⟩ => ⟨h1, h2⟩)
      (Lib.hid fun W => wof_z a ha W) (Lib.hid (small_w ha)) (Lib.hid fun W => wof_z 0 hb W) (Lib.hid (small_w hb)) (Lib.hid fun W => wideSign 0 W) w
  · by_cases iT : InW (a.tdiv b)
    · have iF := fdiv_in ha hb hb0 iT
      have lf := (fdiv_le a b hb0).2
      have lt := tmod_lt a b hb0
      have ab := abs_w hb
      have iU := tmod_in (a := a) hb hb0
      have iM : InW (a.fmod b) := by unfold InW two127; omega
      obtain ⟨f1, f2, f3⟩ := told_in iF
      obtain ⟨t1, t2, t3⟩ := told_in iT
      obtain ⟨m1, m2, _⟩ := told_in iM
      obtain ⟨u1, u2, _⟩ := told_in iU
      have ef : a.fdiv b * b + a.fmod b = a := by have := Int.fmod_add_mul_fdiv a b; rw [Int.mul_comm] at this; omega
      have et : a.tdiv b * b + a.tmod b = a := by have := Int.tmod_add_mul_tdiv a b; rw [Int.mul_comm] at this; omega
      exact rests_fine a b (a.fdiv b) (a.fmod b) (a.tdiv b) (a.tmod b) (ord b 0) (ord a 0) (ord (a.fmod b) 0) (ord (a.tmod b) 0)
        (Lib.hid fun W => (floorW_any a b ha hb hb0 W).mono fun e w' ⟨h1, h2⟩ => ⟨by rw [h1]; unfold hv2 lv2; rw [if_pos iF, if_pos iF, f1, f2, f3, m1, m2], h2⟩)
        (Lib.hid fun W => (truncW_any a b ha hb hb0 W).mono fun e w' ⟨h1, h2⟩ => ⟨by rw [h1]; unfold hv2 lv2; rw [if_pos iT, if_pos iT, t1, t2, t3, u1, u2], h2⟩)
        (Lib.hid fun W => wof_z a ha W) (Lib.hid (small_w ha)) (Lib.hid fun W => wof_z b hb W) (Lib.hid (small_w hb)) (Lib.hid fun W => wof_z _ iF W) (Lib.hid (small_w iF)) (Lib.hid fun W => wof_z _ iM W) (Lib.hid (small_w iM)) (Lib.hid fun W => wof_z _ iT W) (Lib.hid (small_w iT)) (Lib.hid fun W => wof_z _ iU W) (Lib.hid (small_w iU))
        (Lib.hid fun W => wideSign b W) (Lib.hid fun W => wideSign a W) (Lib.hid fun W => wideSign _ W) (Lib.hid fun W => wideSign _ W) (Lib.hid ef) (Lib.hid et) (Lib.hid lf) (Lib.hid lt) (sign_fmod hb0) (sign_tmod a b) w
    · have h0 := tdiv_over ha hb0 iT
      have h1 := tdiv_over_b ha hb0 iT
      obtain ⟨f1, f2⟩ := floor_same hb0 (.inl h0)
      obtain ⟨t1, t2, t3⟩ := told_no iT
      exact rests_over a b (ord b 0)
        (Lib.hid fun W => (floorW_any a b ha hb hb0 W).mono fun e w' ⟨h1, h2⟩ => ⟨by rw [h1, f1]; unfold hv2 lv2; rw [if_neg iT, if_neg iT, t1, t2, t3], h2⟩)
        (Lib.hid fun W => (truncW_any a b ha hb hb0 W).mono fun e w' ⟨h1, h2⟩ => ⟨by rw [h1]; unfold hv2 lv2; rw [if_neg iT, if_neg iT, t1, t2, t3], h2⟩)
        (Lib.hid fun W => wof_z a ha W) (Lib.hid (small_w ha)) (Lib.hid fun W => wof_z b hb W) (Lib.hid (small_w hb))
        (Lib.hid fun W => wideSign b W) (by rw [h1]; rfl) (Lib.hid fun W => by rw [h1]; exact wideOf (-1) (by decide) W) w
end Go.Proofs.Ytgkajbelekjahaa
