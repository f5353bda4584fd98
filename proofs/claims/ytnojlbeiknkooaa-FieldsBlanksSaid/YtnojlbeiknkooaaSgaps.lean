/- Blanks more, and a remark at the end, turn nothing but places. -/
import Derived.Test.YtnojlbeiknkooaaSbackc
namespace Go.Proofs.Ytnojlbeiknkooaa
open Go.RowKit
theorem blank_not {c : UInt8} (h : blankB c.toNat = true) : ¬ c = 35 := by
  rintro rfl
  cases h
theorem blank_run {s : ByteArray} {out : List (ByteArray × Int)} : ∀ (m i f : Nat), i + m ≤ s.size → (∀ (j : Nat) (h : j < s.size), i ≤ j → j < i + m → blankB s[j].toNat = true) → splitGo s (f + m) out i = splitGo s f out (i + m) := by
  intro m
  induction m with
  | zero => intro i f _ _; rfl
  | succ m ih =>
    intro i f hm h
    have hi : i < s.size := by omega
    have b := h i hi (by omega) (by omega)
    rw [show f + (m + 1) = f + m + 1 by omega, sp_blank hi (blank_not b) b, ih (i + 1) f (by omega) (fun j hj h1 h2 => h j hj (by omega) (by omega))]
    congr 1
    omega
/-- what may stand ahead of a field -/
def padOk (u : ByteArray) : Prop := 0 < u.size ∧ ∀ (j : Nat) (h : j < u.size), blankB u[j].toNat = true
/-- the line of the first i fields, each behind its blanks -/
def gapGo (l : List ByteArray) (pads : Nat → ByteArray) : Nat → ByteArray
  | 0 => ⟨#[]⟩
  | i + 1 => if h : i < l.length then gapGo l pads i ++ pads i ++ enc l[i] else gapGo l pads i
theorem gap_eq {l : List ByteArray} {pads : Nat → ByteArray} {i : Nat} (h : i < l.length) : gapGo l pads (i + 1) = gapGo l pads i ++ (pads i ++ enc l[i]) := by
  show (if h : i < l.length then _ else _ : ByteArray) = _
  rw [dif_pos h, ByteArray.append_assoc]
theorem gap_pre {l : List ByteArray} {pads : Nat → ByteArray} : ∀ (d i : Nat), i + d ≤ l.length → ∃ b, gapGo l pads (i + d) = gapGo l pads i ++ b := by
  intro d
  induction d with
  | zero => intro i _; exact ⟨⟨#[]⟩, (append_nil' _).symm⟩
  | succ d ih =>
    intro i h
    obtain ⟨b, hb⟩ := ih i (by omega)
    refine ⟨b ++ (pads (i + d) ++ enc (l[i + d]'(by omega))), ?_⟩
    rw [show i + (d + 1) = i + d + 1 by omega, gap_eq (by omega), hb, ByteArray.append_assoc]
/-- the whole line -/
def gapped (l : List ByteArray) (pads : Nat → ByteArray) (rem : ByteArray) : ByteArray := gapGo l pads l.length ++ ⟨#[32, 35]⟩ ++ rem
theorem gap_atB {l : List ByteArray} {pads : Nat → ByteArray} {rem : ByteArray} {i : Nat} (h : i < l.length) : AtB (gapped l pads rem) (gapGo l pads i).size (pads i ++ enc l[i]) := by
  obtain ⟨b, hb⟩ := gap_pre (l := l) (pads := pads) (l.length - (i + 1)) (i + 1) (by omega)
  have e : i + 1 + (l.length - (i + 1)) = l.length := by omega
  rw [e] at hb
  refine ⟨gapGo l pads i, b ++ ⟨#[32, 35]⟩ ++ rem, ?_, rfl⟩
  unfold gapped
  rw [hb, gap_eq h]
  simp only [ByteArray.append_assoc]
theorem gap_end {l : List ByteArray} {pads : Nat → ByteArray} {rem : ByteArray} : AtB (gapped l pads rem) (gapGo l pads l.length).size ⟨#[32, 35]⟩ := ⟨_, rem, rfl, rfl⟩
theorem gap_free {l : List ByteArray} {pads : Nat → ByteArray} {rem : ByteArray} (hp : ∀ i, padOk (pads i)) {i : Nat} (h : i < l.length) : free (gapped l pads rem) (gapGo l pads (i + 1)).size := by
  intro hj
  by_cases e : i + 1 = l.length
  · have a := gap_end (l := l) (pads := pads) (rem := rem)
    rw [← e] at a
    have b : (gapped l pads rem)[(gapGo l pads (i + 1)).size] = 32 := at_byte a 0 (by decide) hj
    exact .inl (by rw [b]; rfl)
  · have a := at_left (gap_atB (l := l) (pads := pads) (rem := rem) (i := i + 1) (by omega))
    have b : (gapped l pads rem)[(gapGo l pads (i + 1)).size] = (pads (i + 1))[0]'(hp (i + 1)).1 := at_byte a 0 (hp (i + 1)).1 hj
    exact .inl (by rw [b]; exact (hp (i + 1)).2 0 _)
theorem enc_pos (t : ByteArray) : 0 < (enc t).size := by
  unfold enc
  split
  · rename_i pl; exact (plain_pre _ (Nat.le_refl _) pl).1
  · have z : (⟨#[34]⟩ : ByteArray).size = 1 := rfl
    simp only [size_app, z]; omega
theorem gap_go {l : List ByteArray} {pads : Nat → ByteArray} {rem : ByteArray} (hp : ∀ i, padOk (pads i)) (ok : allOk l) (hl : l.length ≤ 16) : ∀ i, i ≤ l.length → ∃ (out : List (ByteArray × Int)) (f : Nat), out.map (·.1) = l.take i ∧ (gapped l pads rem).size - (gapGo l pads i).size < f ∧
    splitGo (gapped l pads rem) f out (gapGo l pads i).size = splitGo (gapped l pads rem) ((gapped l pads rem).size + 1) [] 0 := by
  intro i
  induction i with
  | zero => intro _; exact ⟨[], (gapped l pads rem).size + 1, by simp, by omega, rfl⟩
  | succ i ih =>
    intro hi
    have il : i < l.length := by omega
    obtain ⟨out, f, ho, hf, hs⟩ := ih (by omega)
    have at0 := gap_atB (pads := pads) (rem := rem) il
    have fr := gap_free (rem := rem) hp il
    have sz : (gapGo l pads (i + 1)).size = (gapGo l pads i).size + ((pads i).size + (enc l[i]).size) := by rw [gap_eq il]; simp only [size_app]
    have tot := at_size at0
    rw [size_app] at tot
    have lo : out.length = i := by have := congrArg List.length ho; rw [List.length_map, List.length_take] at this; omega
    have ep := enc_pos l[i]
    have tk : ∀ (x : Int), (out ++ [(l[i], x)]).map (·.1) = l.take (i + 1) := by
      intro x
      rw [List.map_append, ho, List.take_add_one, List.getElem?_eq_getElem il]
      rfl
    have ae := at_right at0
    have ab := at_left at0
    obtain ⟨f, rfl⟩ : ∃ g, f = g + 1 + (pads i).size := ⟨f - 1 - (pads i).size, by omega⟩
    rw [blank_run (pads i).size _ (f + 1) (by omega) (at_get ab (P := fun c => blankB c.toNat = true) (hp i).2)] at hs
    have e2 : (gapGo l pads i).size + (pads i).size + (enc l[i]).size = (gapGo l pads (i + 1)).size := by omega
    rw [take_enc ae (ok i il) (by rw [e2]; exact fr) (by omega), e2] at hs
    exact ⟨_, f, tk _, by omega, hs⟩
/-- blanks more, and a remark at the end: the same fields -/
theorem gaps {l : List ByteArray} {pads : Nat → ByteArray} {rem : ByteArray} (hp : ∀ i, padOk (pads i)) (ok : allOk l) (hl : l.length ≤ 16) (h500 : (gapped l pads rem).size ≤ 500) : ∃ r, splitRes (gapped l pads rem) = (r, 0, 0) ∧ r.map (·.1) = l := by
  obtain ⟨out, f, ho, hf, hs⟩ := gap_go (rem := rem) hp ok hl l.length (Nat.le_refl _)
  have ge := gap_end (l := l) (pads := pads) (rem := rem)
  have z : (⟨#[32, 35]⟩ : ByteArray).size = 2 := rfl
  have tot := at_size ge
  rw [z] at tot
  have b1 : (gapped l pads rem)[(gapGo l pads l.length).size]'(by omega) = 32 := at_byte ge 0 (by decide) (by omega)
  have b2 : (gapped l pads rem)[(gapGo l pads l.length).size + 1]'(by omega) = 35 := at_byte ge 1 (by decide) (by omega)
  obtain ⟨f, rfl⟩ : ∃ g, f = g + 2 := ⟨f - 2, by omega⟩
  rw [sp_blank (by omega) (by rw [b1]; decide) (by rw [b1]; rfl), sp_remark (by omega) b2] at hs
  refine ⟨out, ?_, by rw [ho, List.take_length]⟩
  rw [hs]
  exact if_neg (by omega)
end Go.Proofs.Ytnojlbeiknkooaa
