/- Package rules: a stable sort past one block: rotations and merges in place, as arrays. No program here. -/
import Derived.Test.YtkkdclibbdeejaaDoorXGed
set_option maxRecDepth 100000
set_option maxHeartbeats 64000000
namespace Go.Proofs.YtkkdclibbdeejaaDoor
open Go.RowKit
def SwR (d d' : Array Tg) (a b n : Nat) : Prop := d'.size = d.size ∧ Sort.PermIn a (b + n) d d' ∧ ∀ k, d'[k]! = if a ≤ k ∧ k < a + n then d[k + b - a]! else if b ≤ k ∧ k < b + n then d[k + a - b]! else d[k]!
theorem SwR.zero (d : Array Tg) (a b : Nat) : SwR d d a b 0 := ⟨rfl, Sort.permIn_refl _ _ _, fun k => by rw [if_neg (by omega), if_neg (by omega)]⟩
theorem SwR.step {d d' : Array Tg} {a b i : Nat} (h : SwR d d' a b i) (hi : a + i < b) (hb : b + i < d.size) : SwR d (Sort.swp d' (a + i) (b + i)) a b (i + 1) := by
  obtain ⟨h1, h2, h3⟩ := h
  refine ⟨by rw [Sort.size_swp]; exact h1, ?_, fun k => ?_⟩
  · exact Sort.permIn_trans _ _ _ _ _ (Sort.permIn_mono _ _ _ _ _ _ (Nat.le_refl _) (by omega) (by omega) h2) (Sort.swp_permIn _ _ _ _ _ (by omega) (by omega) (by omega) (by omega) (by omega))
  · rw [get_swp d' (by omega) (by omega) (by omega), h3, h3, h3]
    by_cases e1 : k = b + i
    · subst e1
      rw [if_pos rfl, if_neg (by omega), if_neg (by omega), if_neg (by omega), if_pos (by omega)]
      congr 1; omega
    · rw [if_neg e1]
      by_cases e2 : k = a + i
      · subst e2
        rw [if_pos rfl, if_neg (by omega), if_neg (by omega), if_pos (by omega)]
        congr 1; omega
      · rw [if_neg e2]
        by_cases c1 : a ≤ k ∧ k < a + i
        · rw [if_pos c1, if_pos (by omega)]
        · rw [if_neg c1]
          by_cases c2 : b ≤ k ∧ k < b + i
          · rw [if_pos c2, if_neg (by omega), if_pos (by omega)]
          · rw [if_neg c2, if_neg (by omega), if_neg (by omega)]
def Rot (d d' : Array Tg) (a m b : Nat) : Prop := d'.size = d.size ∧ Sort.PermIn a b d d' ∧ ∀ k, d'[k]! = if a ≤ k ∧ k < a + (b - m) then d[k + (m - a)]! else if a + (b - m) ≤ k ∧ k < b then d[k - (b - m)]! else d[k]!
theorem Rot.left (d : Array Tg) (a b : Nat) (h : a ≤ b) : Rot d d a a b := ⟨rfl, Sort.permIn_refl _ _ _, fun k => by
  by_cases c : a ≤ k ∧ k < a + (b - a)
  · rw [if_pos c]; congr 1; omega
  · rw [if_neg c, if_neg (by omega)]⟩
theorem Rot.right (d : Array Tg) (a b : Nat) : Rot d d a b b := ⟨rfl, Sort.permIn_refl _ _ _, fun k => by
  rw [if_neg (by omega)]
  by_cases c : a + (b - b) ≤ k ∧ k < b
  · rw [if_pos c]; congr 1; omega
  · rw [if_neg c]⟩
theorem Rot.up {d d' : Array Tg} {a i : Nat} (h : Rot d d' a (a + 1) (i + 1)) (hi : a ≤ i) (hb : i + 1 < d.size) : Rot d (Sort.swp d' i (i + 1)) a (a + 1) (i + 2) := by
  obtain ⟨h1, h2, h3⟩ := h
  refine ⟨by rw [Sort.size_swp]; exact h1, ?_, fun k => ?_⟩
  · exact Sort.permIn_trans _ _ _ _ _ (Sort.permIn_mono _ _ _ _ _ _ (Nat.le_refl _) (by omega) (by omega) h2) (Sort.swp_permIn _ _ _ _ _ (by omega) (by omega) (by omega) (by omega) (by omega))
  · rw [get_swp d' (by omega) (by omega) (by omega), h3, h3, h3]
    by_cases e1 : k = i + 1
    · subst e1
      rw [if_pos rfl, if_neg (by omega), if_pos (by omega), if_neg (by omega), if_pos (by omega)]
      congr 1; omega
    · rw [if_neg e1]
      by_cases e2 : k = i
      · subst e2
        rw [if_pos rfl, if_neg (by omega), if_neg (by omega), if_pos (by omega)]
        congr 1; omega
      · rw [if_neg e2]
        by_cases c1 : a ≤ k ∧ k < a + (i + 1 - (a + 1))
        · rw [if_pos c1, if_pos (by omega)]
        · rw [if_neg c1]
          rw [if_neg (by omega), if_neg (by omega), if_neg (by omega)]
theorem Rot.down {d d' : Array Tg} {m i : Nat} (h : Rot d d' (i + 1) m (m + 1)) (hi : i + 1 ≤ m) (hb : m < d.size) : Rot d (Sort.swp d' (i + 1) i) i m (m + 1) := by
  obtain ⟨h1, h2, h3⟩ := h
  refine ⟨by rw [Sort.size_swp]; exact h1, ?_, fun k => ?_⟩
  · exact Sort.permIn_trans _ _ _ _ _ (Sort.permIn_mono _ _ _ _ _ _ (by omega) (Nat.le_refl _) (by omega) h2) (Sort.swp_permIn _ _ _ _ _ (by omega) (by omega) (by omega) (by omega) (by omega))
  · rw [get_swp d' (by omega) (by omega) (by omega), h3, h3, h3]
    by_cases e1 : k = i
    · subst e1
      rw [if_pos rfl, if_pos (by omega), if_pos (by omega)]
      congr 1; omega
    · rw [if_neg e1]
      by_cases e2 : k = i + 1
      · subst e2
        rw [if_pos rfl, if_neg (by omega), if_neg (by omega), if_neg (by omega), if_pos (by omega)]
        congr 1; omega
      · rw [if_neg e2, if_neg (by omega)]
        by_cases c1 : i + 1 + (m + 1 - m) ≤ k ∧ k < m + 1
        · rw [if_pos c1, if_neg (by omega), if_pos (by omega)]
        · rw [if_neg c1, if_neg (by omega), if_neg (by omega)]
theorem Rot.gt {d d2 d' : Array Tg} {m i j : Nat} (h : SwR d d2 (m - i) m j) (hr : Rot d2 d' (m - (i - j)) m (m + j)) (hj : j < i) (hi : i ≤ m) (hb : m + j ≤ d.size) : Rot d d' (m - i) m (m + j) := by
  obtain ⟨h1, h2, h3⟩ := h
  obtain ⟨k1, k2, k3⟩ := hr
  refine ⟨k1.trans h1, Sort.permIn_trans _ _ _ _ _ h2 (Sort.permIn_mono _ _ _ _ _ _ (by omega) (Nat.le_refl _) (by omega) k2), fun k => ?_⟩
  rw [k3, h3, h3, h3]
  by_cases c1 : m - (i - j) ≤ k ∧ k < m - (i - j) + (m + j - m)
  · rw [if_pos c1, if_neg (by omega), if_pos (by omega), if_neg (by omega), if_pos (by omega)]
    congr 1; omega
  · rw [if_neg c1]
    by_cases c2 : m - (i - j) + (m + j - m) ≤ k ∧ k < m + j
    · rw [if_pos c2, if_neg (by omega), if_neg (by omega), if_neg (by omega), if_pos (by omega)]
    · rw [if_neg c2]
      by_cases c3 : m - i ≤ k ∧ k < m - i + j
      · rw [if_pos c3, if_pos (by omega)]
        congr 1; omega
      · rw [if_neg c3, if_neg (by omega), if_neg (by omega), if_neg (by omega)]
theorem Rot.lt {d d2 d' : Array Tg} {m i j : Nat} (h : SwR d d2 (m - i) (m + j - i) i) (hr : Rot d2 d' (m - i) m (m + (j - i))) (hj : i < j) (hi : i ≤ m) (hb : m + j ≤ d.size) : Rot d d' (m - i) m (m + j) := by
  obtain ⟨h1, h2, h3⟩ := h
  obtain ⟨k1, k2, k3⟩ := hr
  rw [show m + j - i + i = m + j by omega] at h2
  refine ⟨k1.trans h1, Sort.permIn_trans _ _ _ _ _ h2 (Sort.permIn_mono _ _ _ _ _ _ (Nat.le_refl _) (by omega) (by omega) k2), fun k => ?_⟩
  rw [k3, h3, h3, h3]
  by_cases c1 : m - i ≤ k ∧ k < m - i + (m + (j - i) - m)
  · rw [if_pos c1, if_neg (by omega), if_neg (by omega), if_pos (by omega)]
  · rw [if_neg c1]
    by_cases c2 : m - i + (m + (j - i) - m) ≤ k ∧ k < m + (j - i)
    · rw [if_pos c2, if_pos (by omega)]
      by_cases c4 : k < m - i + j
      · rw [if_pos (by omega)]; congr 1; omega
      · exact absurd c4 (by omega)
    · rw [if_neg c2]
      by_cases c3 : m + j - i ≤ k ∧ k < m + j - i + i
      · rw [if_neg (by omega), if_pos c3, if_neg (by omega), if_pos (by omega)]
        congr 1; omega
      · rw [if_neg (by omega), if_neg c3, if_neg (by omega), if_neg (by omega)]
theorem Rot.eq {d d' : Array Tg} {m i : Nat} (h : SwR d d' (m - i) m i) (hi : i ≤ m) : Rot d d' (m - i) m (m + i) := by
  obtain ⟨h1, h2, h3⟩ := h
  refine ⟨h1, h2, fun k => ?_⟩
  rw [h3]
  by_cases c1 : m - i ≤ k ∧ k < m - i + i
  · rw [if_pos c1, if_pos (by omega)]; congr 1; omega
  · rw [if_neg c1]
    by_cases c2 : m ≤ k ∧ k < m + i
    · rw [if_pos c2, if_neg (by omega), if_pos (by omega)]; congr 1; omega
    · rw [if_neg c2, if_neg (by omega), if_neg (by omega)]
end Go.Proofs.YtkkdclibbdeejaaDoor
