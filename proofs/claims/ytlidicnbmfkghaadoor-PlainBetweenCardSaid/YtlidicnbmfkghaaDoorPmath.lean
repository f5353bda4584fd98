/- Layer 7's numbers: who is later has the greater number; what is rounded lies near, and stays. No program here. -/
import Derived.Test.YtlidicnbmfkghaaDoorPspec
namespace Go.Proofs.YtlidicnbmfkghaaDoor

theorem cmpD_ord {y m d y' m' d' : Int} (k : dayOk y m d) (k' : dayOk y' m' d') (ne : ¬ (y = y' ∧ m = m' ∧ d = d')) :
    (numD y m d < numD y' m' d' ∧ cmpD y m d y' m' d' = -1) ∨ (numD y' m' d' < numD y m d ∧ cmpD y m d y' m' d' = 1) := by
  have less : ∀ {y m d y' m' d' : Int}, dayOk y m d → dayOk y' m' d' → (y < y' ∨ y = y' ∧ (m < m' ∨ m = m' ∧ d < d')) → numD y m d < numD y' m' d' := by
    intro y m d y' m' d' k k' h
    rcases h with h | ⟨rfl, h | ⟨rfl, h⟩⟩
    · have a := num_year k
      have b := num_year k'
      have := jan_le (show y + 1 ≤ y' by omega)
      omega
    · obtain ⟨a1, a2, a3, a4⟩ := k
      obtain ⟨b1, b2, b3, b4⟩ := k'
      have := cum_lt (y := y) a1 h (by omega)
      unfold numD
      omega
    · unfold numD
      omega
  by_cases c1 : y < y' ∨ y = y' ∧ (m < m' ∨ m = m' ∧ d < d')
  · refine .inl ⟨less k k' c1, ?_⟩
    unfold cmpD
    rcases c1 with h | ⟨rfl, h | ⟨rfl, h⟩⟩
    · rw [if_pos h]
    · rw [if_neg (by omega), if_neg (by omega), if_pos h]
    · rw [if_neg (by omega), if_neg (by omega), if_neg (by omega), if_neg (by omega), if_pos h]
  · have c2 : y' < y ∨ y' = y ∧ (m' < m ∨ m' = m ∧ d' < d) := by omega
    refine .inr ⟨less k' k c2, ?_⟩
    unfold cmpD
    rcases c2 with h | ⟨rfl, h | ⟨rfl, h⟩⟩
    · rw [if_neg (by omega), if_pos h]
    · rw [if_neg (by omega), if_neg (by omega), if_neg (by omega), if_pos h]
    · rw [if_neg (by omega), if_neg (by omega), if_neg (by omega), if_neg (by omega), if_neg (by omega), if_pos h]
theorem cmpT_ord {h m s n h' m' s' n' : Int} (k : okT h m s n) (k' : okT h' m' s' n') : cmpT h m s n h' m' s' n' = ord (numT h m s n) (numT h' m' s' n') := by
  obtain ⟨⟨h1, h2⟩, ⟨h3, h4⟩, ⟨h5, h6⟩, h7, h8⟩ := k
  obtain ⟨⟨g1, g2⟩, ⟨g3, g4⟩, ⟨g5, g6⟩, g7, g8⟩ := k'
  unfold ord numT cmpT
  repeat' split
  all_goals omega
theorem cmpX_ord {y m d h i s n y' m' d' h' i' s' n' : Int} (k : okX y m d h i s n) (k' : okX y' m' d' h' i' s' n') : cmpX y m d h i s n y' m' d' h' i' s' n' = ord (numX y m d h i s n) (numX y' m' d' h' i' s' n') := by
  have r := numT_range k.2.1
  have r' := numT_range k'.2.1
  have e : numX y m d h i s n = numD y m d * 86400000000000 + numT h i s n := rfl
  have e' : numX y' m' d' h' i' s' n' = numD y' m' d' * 86400000000000 + numT h' i' s' n' := rfl
  unfold cmpX
  by_cases c : y = y' ∧ m = m' ∧ d = d'
  · rw [if_pos c, cmpT_ord k.2.1 k'.2.1]
    obtain ⟨rfl, rfl, rfl⟩ := c
    unfold ord
    repeat' split
    all_goals omega
  · rw [if_neg c]
    rcases cmpD_ord k.1.1 k'.1.1 c with ⟨l, q⟩ | ⟨l, q⟩
    · rw [q, ord_lt (by omega)]
    · rw [q, ord_gt (by omega)]
theorem ord_diff (x a : Int) : ord (x + a) x = ord a 0 := by
  unfold ord
  repeat' split
  all_goals omega
theorem rnd_near {x ic mo : Int} (i0 : 0 < ic) : -ic < rndT x ic mo - x ∧ rndT x ic mo - x < ic := by
  have e := Int.emod_add_mul_ediv x ic
  have r0 := Int.emod_nonneg x (b := ic) (by omega)
  have r1 := Int.emod_lt_of_pos x i0
  unfold rndT
  rcases near_two (n := x) (d := ic) (m := mo) with k | ⟨k, ne⟩
  · rw [k, Int.mul_comm]; omega
  · rw [k, Int.add_mul, Int.one_mul, Int.mul_comm]; omega
theorem rnd_stays {x ic mo : Int} (_i0 : 0 < ic) (h : x % ic = 0) : rndT x ic mo = x := by
  unfold rndT nearZ
  rw [if_pos h]
  exact Int.ediv_mul_cancel (Int.dvd_of_emod_eq_zero h)
theorem rnd_mod (x ic mo : Int) : rndT x ic mo % ic = 0 := by unfold rndT; exact Int.mul_emod_left _ _
theorem rndX_near {y m d h i s n ic mo : Int} (i0 : 0 < ic) : -ic < rndX y m d h i s n ic mo - numX y m d h i s n ∧ rndX y m d h i s n ic mo - numX y m d h i s n < ic := by
  have := rnd_near (x := numT h i s n) (mo := mo) i0
  unfold rndX numX
  omega
theorem rndX_stays {y m d h i s n ic mo : Int} (g : incOk ic mo) (kt : okT h i s n) {u0 u1 u2 u3 u4 u5 u6 : Int} (ku : okX u0 u1 u2 u3 u4 u5 u6) (e : numX u0 u1 u2 u3 u4 u5 u6 = rndX y m d h i s n ic mo) : rndX u0 u1 u2 u3 u4 u5 u6 ic mo = numX u0 u1 u2 u3 u4 u5 u6 := by
  obtain ⟨g1, g2, g3, _, _⟩ := g
  have r := numT_range kt
  have ur := numT_range ku.2.1
  have q := rnd_range (mo := mo) r.1 r.2 (by omega) g3
  have md := rnd_mod (numT h i s n) ic mo
  have eU : numX u0 u1 u2 u3 u4 u5 u6 = numD u0 u1 u2 * 86400000000000 + numT u3 u4 u5 u6 := rfl
  have eX : rndX y m d h i s n ic mo = numD y m d * 86400000000000 + rndT (numT h i s n) ic mo := rfl
  have key : numT u3 u4 u5 u6 % ic = 0 := by
    by_cases f : rndT (numT h i s n) ic mo = 86400000000000
    · have z : numT u3 u4 u5 u6 = 0 := by omega
      rw [z]; exact Int.zero_emod _
    · have z : numT u3 u4 u5 u6 = rndT (numT h i s n) ic mo := by omega
      rw [z]; exact md
  unfold rndX
  rw [rnd_stays (by omega) key, eU]
end Go.Proofs.YtlidicnbmfkghaaDoor
