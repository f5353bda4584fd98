/- The document's answer of layer 9: no long text is a clock's time. No walk here. -/
import Derived.Test.YtipohfaapiiopaaDoorGu
namespace Go.Proofs.YtipohfaapiiopaaDoor
open Go.RowKit

theorem num_size {s : ByteArray} {a b : Int} (h : ¬ numRes s a b < 0) : (s.size : Int) ≤ b := by
  unfold numRes at h
  by_cases c : (s.size : Int) < a ∨ b < s.size
  · rw [if_pos c] at h; omega
  · omega
theorem bg_size {l : List ByteArray} : ∀ (d i : Nat) (n u v : Int), l.length - i ≤ d → bareGo l i n u = some v → ∀ (j : Nat) (h : j < l.length), i ≤ j → l[j].size ≤ 2 := by
  intro d
  induction d with
  | zero => intro i n u v h _ j hj hi; omega
  | succ d ih =>
    intro i n u v h hv j hj hi
    have hl : i < l.length := by omega
    by_cases b : numRes l[i] 2 2 < 0 ∨ 59 < numRes l[i] 2 2
    · rw [bg_no hl b] at hv; cases hv
    · rw [bg_on hl b] at hv
      by_cases e : i = j
      · subst e
        have := num_size (fun k => b (.inl k))
        omega
      · exact ih (i + 1) _ _ v (by omega) hv j hj (by omega)
def sumS : List ByteArray → Nat
  | [] => 0
  | a :: l => a.size + 1 + sumS l
theorem parts_sum {s : ByteArray} : ∀ (d k : Nat) (cur : ByteArray), s.size - k ≤ d → sumS (partsOf s k cur) = cur.size + (s.size - k) + 1 := by
  intro d
  induction d with
  | zero => intro k cur h; rw [parts_end (by omega)]; show cur.size + 1 + 0 = _; omega
  | succ d ih =>
    intro k cur h
    by_cases hk : k < s.size
    · by_cases e : s[k].toNat = 58
      · rw [parts_cut hk e]
        have := ih (k + 1) ⟨#[]⟩ (by omega)
        show cur.size + 1 + sumS _ = _
        rw [this]
        show cur.size + 1 + (0 + _ + 1) = _
        omega
      · rw [parts_on hk e, ih (k + 1) _ (by omega), ByteArray.size_append, ByteArray.size_extract]
        omega
    · rw [parts_end hk]; show cur.size + 1 + 0 = _; omega
theorem bare_short {s : ByteArray} {v : Int} (h : bareRes s = some v) : s.size ≤ 9 := by
  have e := parts_sum (s := s) s.size 0 ⟨#[]⟩ (by omega)
  unfold bareRes at h
  generalize partsOf s 0 ⟨#[]⟩ = l at *
  unfold bareOf at h
  by_cases c : 3 < l.length ∨ numRes (firstOf l) 1 3 < 0 ∨ 167 < numRes (firstOf l) 1 3
  · rw [if_pos c] at h; cases h
  rw [if_neg c] at h
  have f := num_size (fun k => c (.inr (.inl k)))
  have g := bg_size l.length 1 _ _ v (by omega) h
  have e' : sumS l = 0 + (s.size - 0) + 1 := e
  match l, c with
  | [], _ => simp [sumS] at e'
  | [a], _ => have f : (a.size : Int) ≤ 3 := f; simp [sumS] at e'; omega
  | [a, b], _ => have f : (a.size : Int) ≤ 3 := f; have g1 : b.size ≤ 2 := g 1 (by simp) (by omega); simp [sumS] at e'; omega
  | [a, b, d], _ => have f : (a.size : Int) ≤ 3 := f; have g1 : b.size ≤ 2 := g 1 (by simp) (by omega); have g2 : d.size ≤ 2 := g 2 (by simp) (by omega); simp [sumS] at e'; omega
  | _ :: _ :: _ :: _ :: _, c => exact absurd (.inl (by simp)) c
theorem bare_long {s : ByteArray} (h : 9 < s.size) : bareRes s = none := by
  cases e : bareRes s with
  | none => rfl
  | some v => have := bare_short e; omega
theorem span_long {s : ByteArray} (h : 10 < s.size) : spanRes s = none := by
  have n : ¬ s = ⟨#[45]⟩ := by rintro rfl; exact absurd h (by decide)
  by_cases e : s[0].toNat = 45
  · rw [span_neg n (by omega) e, bare_long (by rw [ByteArray.size_extract]; omega)]; rfl
  · rw [span_pos n (by omega) e, bare_long (by omega)]
theorem clock_long {s : ByteArray} (h : 11 < s.size) : clockRes s = none := by
  by_cases e : refOf s[s.size - 1].toNat < 0
  · rw [ck_bare (by omega) e, span_long (by omega)]; rfl
  · by_cases d : s.extract 0 (s.size - 1) = ⟨#[45]⟩
    · exact ck_dash (by omega) e d
    · rw [ck_ref (by omega) e d, span_long (by rw [ByteArray.size_extract]; omega)]; rfl
end Go.Proofs.YtipohfaapiiopaaDoor
