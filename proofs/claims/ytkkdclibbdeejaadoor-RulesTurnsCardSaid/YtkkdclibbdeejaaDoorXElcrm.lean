/- Package rules: a stable sort past one block: what a merge in place makes of two sorted stretches. No program here. -/
import Derived.Test.YtkkdclibbdeejaaDoorXElcrp
set_option maxRecDepth 100000
set_option maxHeartbeats 64000000
namespace Go.Proofs.YtkkdclibbdeejaaDoor
open Go.RowKit
def PreM (a m b : Nat) (d : Array Tg) : Prop := Sort.SortedIn lexB a m d ∧ Sort.SortedIn lexB m b d ∧ ∀ p q, a ≤ p → p < m → m ≤ q → q < b → d[p]!.2 < d[q]!.2
def Mgd (a b : Nat) (d d' : Array Tg) : Prop := Sort.PermIn a b d d' ∧ Sort.SortedIn lexB a b d'
theorem cfT_neg {x y : Tg} : cfT x y < 0 ↔ x.1.at_ < y.1.at_ := by
  have h := congrFun (congrFun ltOf_cfT x) y
  unfold ltOf keyB at h
  exact decide_eq_decide.1 h
theorem sorted_at {d : Array Tg} {a b p q : Nat} (h : Sort.SortedIn lexB a b d) (h1 : a ≤ p) (h2 : p ≤ q) (h3 : q < b) : d[p]!.1.at_ ≤ d[q]!.1.at_ := by
  by_cases e : p = q
  · rw [e]; exact Int.le_refl _
  · exact lexLe_at (h p q h1 (by omega) h3)
theorem lexF {x y : Tg} (h : y.1.at_ < x.1.at_ ∨ (y.1.at_ ≤ x.1.at_ ∧ y.2 < x.2)) : lexB x y = false := by
  unfold lexB
  rw [decide_eq_false_iff_not]
  omega
theorem PreM.trivL {a b : Nat} {d : Array Tg} (h : PreM a a b d) : Mgd a b d d := ⟨Sort.permIn_refl _ _ _, h.2.1⟩
theorem PreM.trivR {a b : Nat} {d : Array Tg} (h : PreM a b b d) : Mgd a b d d := ⟨Sort.permIn_refl _ _ _, h.1⟩
theorem PreM.left {a b i : Nat} {d d' : Array Tg} (h : PreM a (a + 1) b d) (hb : b ≤ d.size) (h1 : a + 1 ≤ i) (h2 : i ≤ b) (lo : i = a + 1 ∨ cfT d[i - 1]! d[a]! < 0) (up : i = b ∨ ¬ cfT d[i]! d[a]! < 0) (hr : Rot d d' a (a + 1) i) : Mgd a b d d' := by
  obtain ⟨s1, s2, tg⟩ := h
  obtain ⟨r1, r2, r3⟩ := hr
  rw [cfT_neg] at lo up
  refine ⟨Sort.permIn_mono _ _ _ _ _ _ (Nat.le_refl _) h2 hb r2, fun p q hp hpq hq => ?_⟩
  rw [r3, r3]
  by_cases c1 : q < i - 1
  · rw [if_pos (by omega), if_pos (by omega)]
    exact s2 _ _ (by omega) (by omega) (by omega)
  · by_cases c2 : q = i - 1
    · rw [if_neg (by omega), if_pos (by omega), if_pos (by omega), show q - (i - (a + 1)) = a by omega, show p + (a + 1 - a) = p + 1 by omega]
      rcases lo with e | lo
      · omega
      · have := sorted_at s2 (p := p + 1) (q := i - 1) (by omega) (by omega) (by omega)
        exact lexF (Or.inl (by omega))
    · rw [if_neg (by omega), if_neg (by omega)]
      by_cases c3 : p < i - 1
      · rw [if_pos (by omega)]
        exact s2 _ _ (by omega) (by omega) (by omega)
      · rw [if_neg (by omega)]
        by_cases c4 : p = i - 1
        · rw [if_pos (by omega), show p - (i - (a + 1)) = a by omega]
          rcases up with e | up
          · omega
          · have := sorted_at s2 (p := i) (q := q) (by omega) (by omega) (by omega)
            exact lexF (Or.inr ⟨by omega, tg a q (Nat.le_refl _) (by omega) (by omega) hq⟩)
        · rw [if_neg (by omega)]
          exact s2 _ _ (by omega) (by omega) (by omega)
theorem PreM.right {a m i : Nat} {d d' : Array Tg} (h : PreM a m (m + 1) d) (hb : m + 1 ≤ d.size) (h1 : a ≤ i) (h2 : i ≤ m) (lo : i = a ∨ ¬ cfT d[m]! d[i - 1]! < 0) (up : i = m ∨ cfT d[m]! d[i]! < 0) (hr : Rot d d' i m (m + 1)) : Mgd a (m + 1) d d' := by
  obtain ⟨s1, s2, tg⟩ := h
  obtain ⟨r1, r2, r3⟩ := hr
  rw [cfT_neg] at lo up
  refine ⟨Sort.permIn_mono _ _ _ _ _ _ h1 (Nat.le_refl _) hb r2, fun p q hp hpq hq => ?_⟩
  rw [r3, r3]
  by_cases c1 : q < i
  · rw [if_neg (by omega), if_neg (by omega), if_neg (by omega), if_neg (by omega)]
    exact s1 _ _ hp hpq (by omega)
  · by_cases c2 : q = i
    · rw [if_pos (by omega), if_neg (by omega), if_neg (by omega), show q + (m - i) = m by omega]
      rcases lo with e | lo
      · omega
      · have := sorted_at s1 (p := p) (q := i - 1) (by omega) (by omega) (by omega)
        exact lexF (Or.inr ⟨by omega, tg p m hp (by omega) (Nat.le_refl _) (by omega)⟩)
    · rw [if_neg (by omega), if_pos (by omega)]
      by_cases c3 : p < i
      · rw [if_neg (by omega), if_neg (by omega)]
        exact s1 _ _ (by omega) (by omega) (by omega)
      · by_cases c4 : p = i
        · rw [if_pos (by omega), show p + (m - i) = m by omega]
          rcases up with e | up
          · omega
          · have := sorted_at s1 (p := i) (q := q - (m + 1 - m)) (by omega) (by omega) (by omega)
            exact lexF (Or.inl (by omega))
        · rw [if_neg (by omega), if_pos (by omega)]
          exact s1 _ _ (by omega) (by omega) (by omega)
theorem PreM.cut {a m b s s0 r0 mid : Nat} {d d1 : Array Tg} (h : PreM a m b d) (hb : b ≤ d.size) (ham : a < m) (hmb : m < b) (hmid : mid = (a + b) / 2)
    (k1 : mid < m → s0 = mid + m - b ∧ r0 = mid) (k2 : ¬ mid < m → s0 = a ∧ r0 = m) (h1 : s0 ≤ s) (h2 : s ≤ r0)
    (lo : s = s0 ∨ ¬ cfT d[mid + m - s]! d[s - 1]! < 0) (up : s = r0 ∨ cfT d[mid + m - s - 1]! d[s]! < 0) (hr : Rot d d1 s m (mid + m - s)) :
    a ≤ s ∧ s ≤ m ∧ s ≤ mid ∧ m ≤ mid + m - s ∧ mid ≤ mid + m - s ∧ mid + m - s ≤ b ∧ PreM a s mid d1 ∧ ∀ d2, Mgd a mid d1 d2 → PreM mid (mid + m - s) b d2 ∧ ∀ d3, Mgd mid b d2 d3 → Mgd a b d d3 := by
  obtain ⟨s1, s2, tg⟩ := h
  obtain ⟨r1, r2, r3⟩ := hr
  rw [cfT_neg] at lo up
  have g : a ≤ s ∧ s ≤ m ∧ s ≤ mid ∧ mid + m - s ≤ b ∧ (s = s0 → s = a ∨ mid + m - s = b) ∧ (s = r0 → s = m ∨ s = mid) := by
    by_cases c : mid < m
    · have := k1 c; omega
    · have := k2 c; omega
  clear k1 k2 h1 h2
  obtain ⟨g1, g2, g3, g4, g5, g6⟩ := g
  have lo' : s = a ∨ mid + m - s = b ∨ ¬ d[mid + m - s]!.1.at_ < d[s - 1]!.1.at_ := by
    rcases lo with e | l
    · rcases g5 e with e | e
      · exact Or.inl e
      · exact Or.inr (Or.inl e)
    · exact Or.inr (Or.inr l)
  have up' : s = m ∨ s = mid ∨ d[mid + m - s - 1]!.1.at_ < d[s]!.1.at_ := by
    rcases up with e | l
    · rcases g6 e with e | e
      · exact Or.inl e
      · exact Or.inr (Or.inl e)
    · exact Or.inr (Or.inr l)
  clear lo up g5 g6
  generalize he : mid + m - s = e at r2 r3 g4 lo' up' ⊢
  have hmid2 : mid = s + (e - m) := by omega
  have hlt : a < mid ∧ mid < b := by omega
  clear hmid
  have v1 : ∀ k, k < s → d1[k]! = d[k]! := fun k hk => by rw [r3, if_neg (by omega), if_neg (by omega)]
  have v2 : ∀ k, s ≤ k → k < mid → d1[k]! = d[k + (m - s)]! := fun k hk hk2 => by rw [r3, if_pos (by omega)]
  have v3 : ∀ k, mid ≤ k → k < e → d1[k]! = d[k - (e - m)]! := fun k hk hk2 => by rw [r3, if_neg (by omega), if_pos (by omega)]
  have v4 : ∀ k, e ≤ k → d1[k]! = d[k]! := fun k hk => by rw [r3, if_neg (by omega), if_neg (by omega)]
  clear r3
  have P1 : PreM a s mid d1 := by
    refine ⟨fun p q hp hpq hq => ?_, fun p q hp hpq hq => ?_, fun p q hp h2 h3 h4 => ?_⟩
    · rw [v1 p (by omega), v1 q hq]; exact s1 p q hp hpq (by omega)
    · rw [v2 p hp (by omega), v2 q (by omega) hq]; exact s2 _ _ (by omega) (by omega) (by omega)
    · rw [v1 p h2, v2 q h3 h4]; exact tg _ _ hp (by omega) (by omega) (by omega)
  have P2 : PreM mid e b d1 := by
    refine ⟨fun p q hp hpq hq => ?_, fun p q hp hpq hq => ?_, fun p q hp h2 h3 h4 => ?_⟩
    · rw [v3 p hp (by omega), v3 q (by omega) hq]; exact s1 _ _ (by omega) (by omega) (by omega)
    · rw [v4 p hp, v4 q (by omega)]; exact s2 _ _ (by omega) (by omega) (by omega)
    · rw [v3 p hp h2, v4 q h3]; exact tg _ _ (by omega) (by omega) (by omega) h4
  have cross : ∀ p, a ≤ p → p < mid → ∀ q, mid ≤ q → q < b → lexB d1[q]! d1[p]! = false := fun p hp hp2 q hq hq2 => by
    by_cases c1 : p < s
    · by_cases c2 : q < e
      · rw [v1 p c1, v3 q hq c2]; exact s1 _ _ hp (by omega) (by omega)
      · rw [v1 p c1, v4 q (by omega)]
        rcases lo' with x | x | x
        · omega
        · omega
        · have y1 := sorted_at s1 (p := p) (q := s - 1) hp (by omega) (by omega)
          have y2 := sorted_at s2 (p := e) (q := q) (by omega) (by omega) hq2
          exact lexF (Or.inr ⟨by omega, tg p q hp (by omega) (by omega) hq2⟩)
    · by_cases c2 : q < e
      · rw [v2 p (by omega) hp2, v3 q hq c2]
        rcases up' with x | x | x
        · omega
        · omega
        · have y1 := sorted_at s2 (p := p + (m - s)) (q := e - 1) (by omega) (by omega) (by omega)
          have y2 := sorted_at s1 (p := s) (q := q - (e - m)) (by omega) (by omega) (by omega)
          exact lexF (Or.inl (by omega))
      · rw [v2 p (by omega) hp2, v4 q (by omega)]; exact s2 _ _ (by omega) (by omega) hq2
  refine ⟨g1, g2, g3, by omega, by omega, g4, P1, fun d2 ⟨m1, m2⟩ => ⟨?_, fun d3 ⟨n1, n2⟩ => ⟨?_, ?_⟩⟩⟩
  · have o : ∀ k, mid ≤ k → d2[k]! = d1[k]! := fun k hk => m1.2.1 k (Or.inr hk)
    refine ⟨fun p q hp hpq hq => ?_, fun p q hp hpq hq => ?_, fun p q hp h2 h3 h4 => ?_⟩
    · rw [o p hp, o q (by omega)]; exact P2.1 p q hp hpq hq
    · rw [o p (by omega), o q (by omega)]; exact P2.2.1 p q hp hpq hq
    · rw [o p hp, o q (by omega)]; exact P2.2.2 p q hp h2 h3 h4
  · have z1 : d1.size = d.size := r1
    have z2 : d2.size = d.size := m1.1.trans z1
    exact Sort.permIn_trans _ _ _ _ _ (Sort.permIn_mono _ _ _ _ _ _ g1 g4 hb r2) (Sort.permIn_trans _ _ _ _ _ (Sort.permIn_mono _ _ _ _ _ _ (Nat.le_refl _) (by omega) (by omega) m1) (Sort.permIn_mono _ _ _ _ _ _ (by omega) (Nat.le_refl _) (by omega) n1))
  · have z1 : d1.size = d.size := r1
    have z2 : d2.size = d.size := m1.1.trans z1
    intro p q hp hpq hq
    by_cases c1 : q < mid
    · rw [n1.2.1 p (Or.inl (by omega)), n1.2.1 q (Or.inl c1)]
      exact m2 p q hp hpq c1
    · by_cases c2 : mid ≤ p
      · exact n2 p q c2 hpq hq
      · rw [n1.2.1 p (Or.inl (by omega))]
        have x1 := Sort.permIn_all d1 d2 a mid (fun y => ∀ q, mid ≤ q → q < b → lexB d1[q]! y = false) (by omega) m1 (fun p hp hp2 => cross p hp hp2) p hp (by omega)
        exact Sort.permIn_all d2 d3 mid b (fun x => lexB x d2[p]! = false) (by omega) n1 (fun q hq hq2 => by rw [m1.2.1 q (Or.inr hq)]; exact x1 q hq hq2) q (by omega) hq
end Go.Proofs.YtkkdclibbdeejaaDoor
