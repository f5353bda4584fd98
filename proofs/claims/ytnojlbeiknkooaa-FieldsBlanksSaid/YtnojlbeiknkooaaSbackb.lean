/- What was joined is split into the same: the whole line. -/
import Derived.Test.YtnojlbeiknkooaaSback
namespace Go.Proofs.Ytnojlbeiknkooaa
open Go.RowKit
def AtB (s : ByteArray) (p : Nat) (u : ByteArray) : Prop := ∃ a b, s = a ++ u ++ b ∧ a.size = p
theorem at_size {s : ByteArray} {p : Nat} {u : ByteArray} (h : AtB s p u) : p + u.size ≤ s.size := by
  obtain ⟨a, b, rfl, rfl⟩ := h
  simp only [size_app]
  omega
theorem at_byte {s : ByteArray} {p : Nat} {u : ByteArray} (h : AtB s p u) (j : Nat) (hj : j < u.size) (hs : p + j < s.size) : s[p + j] = u[j] := by
  obtain ⟨a, b, rfl, rfl⟩ := h
  rw [ByteArray.getElem_append_left (by simp only [size_app]; omega), ByteArray.getElem_append_right (by omega)]
  congr 1
  omega
theorem at_get {s : ByteArray} {p : Nat} {u : ByteArray} (h : AtB s p u) {P : UInt8 → Prop} (hu : ∀ (j : Nat) (hj : j < u.size), P u[j]) : ∀ (j : Nat) (hj : j < s.size), p ≤ j → j < p + u.size → P s[j] := by
  intro j hj h1 h2
  have := at_byte h (j - p) (by omega) (by omega)
  have e : p + (j - p) = j := by omega
  simp only [e] at this
  rw [this]
  exact hu _ _
theorem at_extract {s : ByteArray} {p : Nat} {u : ByteArray} (h : AtB s p u) : s.extract p (p + u.size) = u := by
  obtain ⟨a, b, rfl, rfl⟩ := h
  rw [ByteArray.append_assoc, ByteArray.extract_append]
  rw [show a.extract a.size (a.size + u.size) = ByteArray.empty from by apply ByteArray.ext_getElem (by simp) (by intro i hi; simp at hi)]
  rw [ByteArray.empty_append, show a.size - a.size = 0 by omega, show a.size + u.size - a.size = u.size by omega, ByteArray.extract_append, ByteArray.extract_zero_size]
  rw [show b.extract (0 - u.size) (u.size - u.size) = ByteArray.empty from by apply ByteArray.ext_getElem (by simp) (by intro i hi; simp at hi)]
  exact ByteArray.append_empty
theorem at_left {s : ByteArray} {p : Nat} {u v : ByteArray} (h : AtB s p (u ++ v)) : AtB s p u := by
  obtain ⟨a, b, rfl, rfl⟩ := h
  exact ⟨a, v ++ b, by simp only [ByteArray.append_assoc], rfl⟩
theorem at_right {s : ByteArray} {p : Nat} {u v : ByteArray} (h : AtB s p (u ++ v)) : AtB s (p + u.size) v := by
  obtain ⟨a, b, rfl, rfl⟩ := h
  exact ⟨a ++ u, b, by simp only [ByteArray.append_assoc], size_app _ _⟩
def enc (t : ByteArray) : ByteArray := if plainT t = true then t else ⟨#[34]⟩ ++ t ++ ⟨#[34]⟩
theorem plain_pre {t : ByteArray} : ∀ k, k ≤ t.size → barePre t k = true → 0 < t.size ∧ ∀ (j : Nat) (h : j < t.size), j < k → bareB t[j].toNat = true := by
  intro k
  induction k with
  | zero => intro _ h; exact ⟨of_decide_eq_true h, fun _ _ h => absurd h (by omega)⟩
  | succ k ih =>
    intro hk h
    rw [bare_succ (by omega), Bool.and_eq_true] at h
    obtain ⟨p, q⟩ := ih (by omega) h.1
    refine ⟨p, fun j hj hlt => ?_⟩
    by_cases e : j = k
    · subst e; exact h.2
    · exact q j hj (by omega)
theorem take_enc {s t : ByteArray} {p f : Nat} {out : List (ByteArray × Int)} (h : AtB s p (enc t)) (ok : okText t) (fr : free s (p + (enc t).size)) (n16 : ¬ out.length = 16) :
    splitGo s (f + 1) out p = splitGo s f (out ++ [(t, (p : Int))]) (p + (enc t).size) := by
  cases pl : plainT t with
  | true =>
    have e : enc t = t := if_pos pl
    rw [e] at h fr ⊢
    obtain ⟨h0, hb⟩ := plain_pre t.size (Nat.le_refl _) pl
    have := take_plain (f := f) (out := out) h0 (at_size h) (at_get h (P := fun c => bareB c.toNat = true) fun j hj => hb j hj hj) fr n16
    rw [at_extract h] at this
    exact this
  | false =>
    have e : enc t = ⟨#[34]⟩ ++ t ++ ⟨#[34]⟩ := if_neg (by rw [pl]; decide)
    have z : (⟨#[34]⟩ : ByteArray).size = 1 := rfl
    have es : (enc t).size = t.size + 2 := by rw [e]; simp only [size_app, z]; omega
    rw [e] at h
    have ha := at_left (at_left h)
    have hb := at_right (at_left h)
    have hc := at_right h
    rw [z] at hb
    rw [size_app, z] at hc
    have zs := at_size hc
    rw [z] at zs
    rw [es] at fr ⊢
    have q1 : s[p]'(by omega) = 34 := at_byte ha 0 (by decide) (by omega)
    have q2 : s[p + (1 + t.size)]'(by omega) = 34 := at_byte hc 0 (by decide) (by omega)
    have e1 : p + (1 + t.size) = p + 1 + t.size := by omega
    have e2 : p + 1 + t.size + 1 = p + (t.size + 2) := by omega
    simp only [e1] at q2
    have := take_quoted (f := f) (out := out) (i := p) (e := p + 1 + t.size) (by omega) q1 (by omega) (by omega) q2 (at_get hb (P := fun c => okB c.toNat = true) fun j hj => ok j hj hj) (by rw [e2]; exact fr) n16
    rw [at_extract hb, e2] at this
    exact this
end Go.Proofs.Ytnojlbeiknkooaa
