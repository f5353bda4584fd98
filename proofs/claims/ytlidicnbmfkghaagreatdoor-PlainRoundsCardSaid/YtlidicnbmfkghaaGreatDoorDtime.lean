/- Dates with times, as numbers. No program here. -/
import Derived.Test.YtlidicnbmfkghaaGreatDoorGc
import Derived.Test.YtlidicnbmfkghaaGreatDoorGh
namespace Go.Proofs.YtlidicnbmfkghaaGreatDoor

/-- a date-time's number -/
def numX (y m d h i s n : Int) : Int := numD y m d * 86400000000000 + numT h i s n
/-- a right date-time -/
def okX (y m d h i s n : Int) : Prop := okD y m d ∧ okT h i s n ∧ -8640000086400000000000 < numX y m d h i s n
instance (y m d h i s n : Int) : Decidable (okX y m d h i s n) := by unfold okX; infer_instance
theorem numX_parts {y m d h i s n : Int} (k : okT h i s n) : numX y m d h i s n / 86400000000000 = numD y m d ∧ numX y m d h i s n % 86400000000000 = numT h i s n := by
  have r := numT_range k
  unfold numX
  omega
theorem numX_range {y m d h i s n : Int} (k : okX y m d h i s n) : -8640000086400000000000 < numX y m d h i s n ∧ numX y m d h i s n < 8640000086400000000000 := by
  obtain ⟨⟨_, d1, d2⟩, t, lo⟩ := k
  have r := numT_range t
  refine ⟨lo, ?_⟩
  unfold numX
  omega
/-- the first midnight of all is none -/
theorem okX_first {y m d h i s n : Int} (k : okD y m d) (t : okT h i s n) : okX y m d h i s n ↔ ¬ (numD y m d = -100000001 ∧ numT h i s n = 0) := by
  have d1 := k.2.1
  have r := numT_range t
  have e : numX y m d h i s n = numD y m d * 86400000000000 + numT h i s n := rfl
  constructor
  · rintro ⟨_, _, lo⟩ ⟨a, b⟩
    omega
  · intro c
    exact ⟨k, t, by
      rw [e]
      apply Classical.byContradiction
      intro g
      exact c (by omega)⟩
theorem time_zero {h i s n : Int} (t : okT h i s n) : numT h i s n = 0 ↔ (h = 0 ∧ i = 0 ∧ s = 0 ∧ n = 0) := by
  obtain ⟨⟨h1, h2⟩, ⟨h3, h4⟩, ⟨h5, h6⟩, h7, h8⟩ := t
  unfold numT
  omega
theorem numX_inj {y m d h i s n y' m' d' h' i' s' n' : Int} (k : okX y m d h i s n) (k' : okX y' m' d' h' i' s' n') (e : numX y m d h i s n = numX y' m' d' h' i' s' n') :
    (y = y' ∧ m = m' ∧ d = d') ∧ h = h' ∧ i = i' ∧ s = s' ∧ n = n' := by
  obtain ⟨a1, a2⟩ := numX_parts (y := y) (m := m) (d := d) k.2.1
  obtain ⟨b1, b2⟩ := numX_parts (y := y') (m := m') (d := d') k'.2.1
  exact ⟨num_inj k.1.1 k'.1.1 (by rw [← a1, ← b1, e]), numT_inj k.2.1 k'.2.1 (by rw [← a2, ← b2, e])⟩
/-- every number within the bounds has its date-time -/
theorem both_of {N : Int} (lo : -8640000086400000000000 < N) (hi : N < 8640000086400000000000) : ∃ y m d h i s n : Int, okX y m d h i s n ∧ numX y m d h i s n = N ∧ numD y m d = N / 86400000000000 ∧ numT h i s n = N % 86400000000000 := by
  obtain ⟨y, m, d, k, e⟩ := day_of (N / 86400000000000)
  obtain ⟨h, i, s, n, t, f⟩ := time_of (n := N % 86400000000000) (by omega) (by omega)
  have eX : numX y m d h i s n = N := by unfold numX; omega
  exact ⟨y, m, d, h, i, s, n, ⟨⟨k, by omega, by omega⟩, t, by omega⟩, eX, e, f⟩
/-- which of two date-times is ahead -/
theorem okX_date {y m d h i s n : Int} (k : okX y m d h i s n) : okD y m d := k.1
end Go.Proofs.YtlidicnbmfkghaaGreatDoor
