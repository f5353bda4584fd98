/- Fractions rounded to whole numbers by nine modes: which one is taken, and what follows. No walk here, and no program. -/
import Derived.Test.YtnopgdheffnfdaaNum
namespace Go.Proofs.Ytnopgdheffnfdaa

/-- of two neighbours, is it the upper one? (d above 0, a rest left) -/
def upR (n d m : Int) : Bool :=
  if 5 ≤ m ∧ 2 * (n % d) < d then false
  else if 5 ≤ m ∧ d < 2 * (n % d) then true
  else if m = 1 ∨ m = 5 then true
  else if m = 2 ∨ m = 6 then false
  else if m = 3 ∨ m = 7 then decide (0 ≤ n)
  else if m = 4 ∨ m = 8 then decide (n < 0)
  else decide ((n / d) % 2 ≠ 0)
/-- the fraction n by d, rounded by mode m -/
def nearZ (n d m : Int) : Int := if n % d = 0 then n / d else if upR n d m = true then n / d + 1 else n / d

theorem near_two {n d m : Int} : nearZ n d m = n / d ∨ nearZ n d m = n / d + 1 ∧ n % d ≠ 0 := by
  unfold nearZ
  split
  · exact .inl rfl
  · split
    · exact .inr ⟨rfl, ‹_›⟩
    · exact .inl rfl
theorem parts {n d : Int} (hd : 0 < d) : n = d * (n / d) + n % d ∧ 0 ≤ n % d ∧ n % d < d :=
  ⟨(Int.mul_ediv_add_emod n d).symm, Int.emod_nonneg n (by omega), Int.emod_lt_of_pos n hd⟩
/-- it lies less than a step away -/
theorem near_dist {n d m : Int} (hd : 0 < d) : (n - d * nearZ n d m).natAbs < d.natAbs := by
  obtain ⟨h1, h2, h3⟩ := parts (n := n) hd
  rcases near_two (n := n) (d := d) (m := m) with h | ⟨h, h0⟩
  · rw [h]; omega
  · rw [h, Int.mul_add]; omega
/-- the half modes: at most half a step -/
theorem near_half {n d m : Int} (hd : 0 < d) (hm : 5 ≤ m) : 2 * (n - d * nearZ n d m).natAbs ≤ d.natAbs := by
  obtain ⟨h1, h2, h3⟩ := parts (n := n) hd
  unfold nearZ
  by_cases h0 : n % d = 0
  · rw [if_pos h0]; omega
  · rw [if_neg h0]
    by_cases ha : 2 * (n % d) < d
    · have : upR n d m = false := by unfold upR; rw [if_pos ⟨hm, ha⟩]
      rw [this]; simp only [Bool.false_eq_true, if_false]; omega
    · by_cases hb : d < 2 * (n % d)
      · have : upR n d m = true := by unfold upR; rw [if_neg (by omega), if_pos ⟨hm, hb⟩]
        rw [this]; simp only [if_true, Int.mul_add]; omega
      · split <;> (try rw [Int.mul_add]) <;> omega
/-- a multiple stays -/
theorem near_stay {k d m : Int} (hd : 0 < d) : nearZ (k * d) d m = k := by
  have h : k * d % d = 0 := Int.mul_emod_left k d
  unfold nearZ
  rw [if_pos h, Int.mul_ediv_cancel _ (by omega)]
theorem near_mult {k d m : Int} (hd : 0 < d) : nearZ (d * k) d m = k := by rw [Int.mul_comm]; exact near_stay hd
/-- who is greater doesn't become less -/
theorem near_mono {a b d m : Int} (hd : 0 < d) (hm : 1 ≤ m ∧ m ≤ 9) (h : a ≤ b) : nearZ a d m ≤ nearZ b d m := by
  obtain ⟨a1, a2, a3⟩ := parts (n := a) hd
  obtain ⟨b1, b2, b3⟩ := parts (n := b) hd
  have hq : a / d ≤ b / d := Int.ediv_le_ediv hd h
  by_cases hlt : a / d < b / d
  · rcases near_two (n := a) (d := d) (m := m) with e | ⟨e, _⟩ <;> rcases near_two (n := b) (d := d) (m := m) with f | ⟨f, _⟩ <;> omega
  · have hqe : a / d = b / d := by omega
    have hr : a % d ≤ b % d := by rw [hqe] at a1; omega
    by_cases h0 : a % d = 0
    · have e : nearZ a d m = a / d := by unfold nearZ; rw [if_pos h0]
      rcases near_two (n := b) (d := d) (m := m) with f | ⟨f, _⟩ <;> omega
    · have hb0 : b % d ≠ 0 := by omega
      have up : upR a d m = true → upR b d m = true := by
        unfold upR
        rw [hqe]
        intro hu
        by_cases c1 : 5 ≤ m ∧ 2 * (a % d) < d
        · rw [if_pos c1] at hu; exact absurd hu (by decide)
        · rw [if_neg c1] at hu
          rw [if_neg (by omega)]
          by_cases c2 : 5 ≤ m ∧ d < 2 * (b % d)
          · rw [if_pos c2]
          · rw [if_neg c2]
            rw [if_neg (by omega)] at hu
            by_cases e : a = b
            · rw [e] at hu; exact hu
            · have m5 : ¬ 5 ≤ m := by
                intro m5
                have : a % d = b % d := by omega
                rw [hqe, this] at a1
                omega
              by_cases k1 : m = 1 ∨ m = 5
              · rw [if_pos k1]
              · rw [if_neg k1] at hu ⊢
                by_cases k2 : m = 2 ∨ m = 6
                · rw [if_pos k2] at hu; exact absurd hu (by decide)
                · rw [if_neg k2] at hu ⊢
                  by_cases k3 : m = 3 ∨ m = 7
                  · rw [if_pos k3] at hu ⊢
                    have := of_decide_eq_true hu
                    exact decide_eq_true (by omega)
                  · rw [if_neg k3] at hu ⊢
                    have k4 : m = 4 ∨ m = 8 := by omega
                    rw [if_pos k4] at hu ⊢
                    have h4 := of_decide_eq_true hu
                    have hneg : b / d < 0 := by rw [← hqe]; exact Int.ediv_neg_of_neg_of_pos h4 hd
                    have : d * (b / d) ≤ d * (-1) := Int.mul_le_mul_of_nonneg_left (by omega) (by omega)
                    exact decide_eq_true (by omega)
      unfold nearZ
      rw [if_neg h0, if_neg hb0, hqe]
      by_cases u : upR a d m = true
      · rw [if_pos u, if_pos (up u)]; omega
      · rw [if_neg u]; split <;> omega
/-- the mirrored mode -/
def mirM (m : Int) : Int := if m = 1 then 2 else if m = 2 then 1 else if m = 5 then 6 else if m = 6 then 5 else m
theorem neg_parts {n d : Int} (hd : 0 < d) (h0 : n % d ≠ 0) : (-n) / d = -(n / d) - 1 ∧ (-n) % d = d - n % d := by
  obtain ⟨h1, h2, h3⟩ := parts (n := n) hd
  have := (Int.ediv_emod_unique hd (a := -n) (r := d - n % d) (q := -(n / d) - 1)).2 ⟨by rw [Int.mul_sub, Int.mul_neg]; omega, by omega, by omega⟩
  exact this
theorem neg_exact {n d : Int} (h0 : n % d = 0) : (-n) / d = -(n / d) ∧ (-n) % d = 0 := by
  have hv : d ∣ n := Int.dvd_of_emod_eq_zero h0
  exact ⟨Int.neg_ediv_of_dvd hv, Int.emod_eq_zero_of_dvd ((Int.dvd_neg).2 hv)⟩
/-- a number and the one of the other sign, by the mirrored mode -/
theorem near_mirror {n d m : Int} (hd : 0 < d) (hm : 1 ≤ m ∧ m ≤ 9) : nearZ (-n) d (mirM m) = -nearZ n d m := by
  by_cases h0 : n % d = 0
  · obtain ⟨e1, e2⟩ := neg_exact h0
    unfold nearZ
    rw [if_pos h0, if_pos e2, e1]
  · obtain ⟨e1, e2⟩ := neg_parts hd h0
    obtain ⟨h1, h2, h3⟩ := parts (n := n) hd
    have hn : n ≠ 0 := by intro c; rw [c] at h0; simp at h0
    have key : upR (-n) d (mirM m) = !upR n d m := by
      unfold upR
      rw [e1, e2]
      have hm' : m = 1 ∨ m = 2 ∨ m = 3 ∨ m = 4 ∨ m = 5 ∨ m = 6 ∨ m = 7 ∨ m = 8 ∨ m = 9 := by omega
      have c1 : ∀ k : Int, (5 ≤ k ∧ 2 * (d - n % d) < d) ↔ (5 ≤ k ∧ d < 2 * (n % d)) := fun k => by omega
      have c2 : ∀ k : Int, (5 ≤ k ∧ d < 2 * (d - n % d)) ↔ (5 ≤ k ∧ 2 * (n % d) < d) := fun k => by omega
      simp only [c1, c2]
      have t1 : n ≤ 0 ↔ ¬ 0 ≤ n := by omega
      have t2 : 0 < n ↔ ¬ n < 0 := by omega
      have t3 : (-(n / d) - 1) % 2 = 0 ↔ ¬ n / d % 2 = 0 := by omega
      have t5 : decide (n < 0) = !decide (0 ≤ n) := by by_cases c : 0 ≤ n <;> simp [c] <;> omega
      have t6 : decide (0 ≤ n) = !decide (n < 0) := by rw [t5, Bool.not_not]
      by_cases x1 : d < 2 * (n % d)
      · have x2 : ¬ 2 * (n % d) < d := by omega
        rcases hm' with rfl | rfl | rfl | rfl | rfl | rfl | rfl | rfl | rfl <;> simp [mirM, x1, x2, t1, t2] <;> first | exact t5 | exact t6 | omega
      · by_cases x2 : 2 * (n % d) < d
        · rcases hm' with rfl | rfl | rfl | rfl | rfl | rfl | rfl | rfl | rfl <;> simp [mirM, x1, x2, t1, t2] <;> first | exact t5 | exact t6 | omega
        · rcases hm' with rfl | rfl | rfl | rfl | rfl | rfl | rfl | rfl | rfl <;> simp [mirM, x1, x2, t1, t2, t3] <;> first | exact t5 | exact t6 | omega
    unfold nearZ
    rw [if_neg h0, if_neg (by rw [e2]; omega), key, e1]
    cases upR n d m <;> simp <;> omega
/-- the document's quotient and rest are these -/
theorem floor_parts {n d : Int} (hd : 0 < d) : n.fdiv d = n / d ∧ n.fmod d = n % d := ⟨Int.fdiv_eq_ediv_of_nonneg n (by omega), Int.fmod_eq_emod_of_nonneg n (by omega)⟩
end Go.Proofs.Ytnopgdheffnfdaa
