/- Package rules: a stable sort of at most 60: the blocks, as arrays. No program here. -/
import Derived.Test.YtkkdclibbdeejaaDoorXElcrm
set_option maxRecDepth 100000
set_option maxHeartbeats 64000000
namespace Go.Proofs.YtkkdclibbdeejaaDoor
open Go.RowKit
def B1 (a n : Nat) (d dk : Array Tg) : Prop := Sort.PermIn 0 n d dk ∧ (∀ p q, p < q → q < a → p / 20 = q / 20 → lexB dk[q]! dk[p]! = false) ∧ (∀ p q, p < q → q < n → p / 20 < q / 20 → dk[p]!.2 < dk[q]!.2) ∧ ∀ p q, a ≤ p → p < q → q < n → dk[p]!.2 < dk[q]!.2
def Bk (S n : Nat) (d dk : Array Tg) : Prop := Sort.PermIn 0 n d dk ∧ (∀ p q, p < q → q < n → p / S = q / S → lexB dk[q]! dk[p]! = false) ∧ ∀ p q, p < q → q < n → p / S < q / S → dk[p]!.2 < dk[q]!.2
theorem B1.start {n : Nat} {d : Array Tg} (h : ∀ p q, p < q → q < n → d[p]!.2 < d[q]!.2) : B1 0 n d d := ⟨Sort.permIn_refl _ _ _, fun p q _ h2 => absurd h2 (by omega), fun p q h1 h2 _ => h p q h1 h2, fun p q _ h1 h2 => h p q h1 h2⟩
theorem B1.ins {a b n : Nat} {d dk d' : Array Tg} (h : B1 a n d dk) (ha : a = 0 ∨ a = 20 ∨ a = 40 ∨ a = 60) (hab : a ≤ b) (hb : b ≤ a + 20) (hn : b ≤ n) (hs : n ≤ d.size) (h1 : Sort.PermIn a b dk d') (h2 : Sort.SortedIn lexB a b d') : B1 b n d d' := by
  obtain ⟨b1, b2, b3, b4⟩ := h
  have zs : dk.size = d.size := b1.1
  have o : ∀ k, k < a ∨ b ≤ k → d'[k]! = dk[k]! := h1.2.1
  refine ⟨Sort.permIn_trans _ _ _ _ _ b1 (Sort.permIn_mono _ _ _ _ _ _ (Nat.zero_le _) hn (by omega) h1), fun p q hpq hq he => ?_, fun p q hpq hq hl => ?_, fun p q hp hpq hq => ?_⟩
  · by_cases c : q < a
    · rw [o p (by omega), o q (by omega)]; exact b2 p q hpq c he
    · exact h2 p q (by omega) hpq hq
  · by_cases c1 : a ≤ p ∧ p < b
    · rw [o q (by omega)]
      exact Sort.permIn_all dk d' a b (fun x => x.2 < dk[q]!.2) (by omega) h1 (fun p' x1 x2 => b3 p' q (by omega) hq (by omega)) p c1.1 c1.2
    · rw [o p (by omega)]
      by_cases c2 : a ≤ q ∧ q < b
      · exact Sort.permIn_all dk d' a b (fun x => dk[p]!.2 < x.2) (by omega) h1 (fun q' x1 x2 => b3 p q' (by omega) (by omega) (by omega)) q c2.1 c2.2
      · rw [o q (by omega)]; exact b3 p q hpq hq hl
  · rw [o p (by omega), o q (by omega)]; exact b4 p q (by omega) hpq hq
theorem B1.step {a b n : Nat} {d dk : Array Tg} (h : B1 a n d dk) (ha : a = 0 ∨ a = 20 ∨ a = 40 ∨ a = 60) (hab : a ≤ b) (hb : b ≤ a + 20) (hn : b ≤ n) (hs : n ≤ d.size) : B1 b n d (Sort.insertionSort (ltOf cfT) dk a b) := by
  have zs : dk.size = d.size := h.1.1
  obtain ⟨h1, h2⟩ := ins_stable (d := dk) (a := a) (b := b) hab (by omega) (fun p q x1 x2 x3 => h.2.2.2 p q x1 x2 (by omega))
  exact h.ins ha hab hb hn hs h1 h2
theorem B1.full {n : Nat} {d dk : Array Tg} (h : B1 n n d dk) : Bk 20 n d dk := ⟨h.1, h.2.1, h.2.2.1⟩
theorem Bk.pre20 {e n : Nat} {d dk : Array Tg} (h : Bk 20 n d dk) (he : e ≤ 40) (hn : e ≤ n) (h20 : 20 ≤ n) : PreM 0 20 e dk :=
  ⟨fun p q _ x2 x3 => h.2.1 p q x2 (by omega) (by omega), fun p q x1 x2 x3 => h.2.1 p q x2 (by omega) (by omega), fun p q _ x2 x3 x4 => h.2.2 p q (by omega) (by omega) (by omega)⟩
theorem Bk.pre40 {n : Nat} {d dk : Array Tg} (h : Bk 40 n d dk) (hn : n ≤ 80) (h40 : 40 ≤ n) : PreM 0 40 n dk :=
  ⟨fun p q _ x2 x3 => h.2.1 p q x2 (by omega) (by omega), fun p q x1 x2 x3 => h.2.1 p q x2 x3 (by omega), fun p q _ x2 x3 x4 => h.2.2 p q (by omega) x4 (by omega)⟩
theorem Bk.two {n : Nat} {d dk d' : Array Tg} (h : Bk 20 n d dk) (h40 : 40 ≤ n) (h60 : n ≤ 60) (hs : n ≤ d.size) (m : Mgd 0 40 dk d') : Bk 40 n d d' := by
  obtain ⟨b1, b2, b3⟩ := h
  obtain ⟨m1, m2⟩ := m
  have zs : dk.size = d.size := b1.1
  have o : ∀ k, 40 ≤ k → d'[k]! = dk[k]! := fun k hk => m1.2.1 k (Or.inr hk)
  refine ⟨Sort.permIn_trans _ _ _ _ _ b1 (Sort.permIn_mono _ _ _ _ _ _ (Nat.le_refl _) h40 (by omega) m1), fun p q hpq hq he => ?_, fun p q hpq hq hl => ?_⟩
  · by_cases c : q < 40
    · exact m2 p q (Nat.zero_le _) hpq c
    · rw [o p (by omega), o q (by omega)]; exact b2 p q hpq hq (by omega)
  · rw [o q (by omega)]
    exact Sort.permIn_all dk d' 0 40 (fun x => x.2 < dk[q]!.2) (by omega) m1 (fun p' _ x2 => b3 p' q (by omega) hq (by omega)) p (Nat.zero_le _) (by omega)
theorem Bk.one {S T n : Nat} {d dk d' : Array Tg} (h : Bk S n d dk) (hT : n ≤ T) (m : Mgd 0 n dk d') : Bk T n d d' :=
  ⟨Sort.permIn_trans _ _ _ _ _ h.1 m.1, fun p q hpq hq _ => m.2 p q (Nat.zero_le _) hpq hq, fun p q hpq hq hl => by
    rw [Nat.div_eq_of_lt (by omega), Nat.div_eq_of_lt (by omega)] at hl
    exact absurd hl (by omega)⟩
theorem Bk.done {S n : Nat} {d dk : Array Tg} (h : Bk S n d dk) (hS : n ≤ S) : Sort.PermIn 0 n d dk ∧ Sort.SortedIn lexB 0 n dk :=
  ⟨h.1, fun p q _ hpq hq => h.2.1 p q hpq hq (by rw [Nat.div_eq_of_lt (by omega), Nat.div_eq_of_lt (by omega)])⟩
end Go.Proofs.YtkkdclibbdeejaaDoor
