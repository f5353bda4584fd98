/- Stage 10's laws: lines without fields, and remarks. -/
import Derived.Test.YtnkmlfbnfndfpaaGreatDoorZHalive
import Derived.Test.YtnkmlfbnfndfpaaGreatDoorZJrem
import Derived.Test.YtnkmlfbnfndfpaaGreatDoorZSsplit
import Derived.Test.YtnkmlfbnfndfpaaGreatDoorZQlines
namespace Go.Proofs.YtnkmlfbnfndfpaaGreatDoor
open Go.RowKit
theorem lns_small {s : ByteArray} : ∀ (d a k : Nat), s.size - k ≤ d → ∀ t ∈ lnsFrom s a k, t.size ≤ s.size := by
  intro d
  induction d with
  | zero =>
    intro a k hd t ht
    rw [lns_end (by omega)] at ht
    split at ht
    · rw [List.mem_singleton.1 ht]; simp only [ByteArray.size_extract]; omega
    · cases ht
  | succ d ih =>
    intro a k hd t ht
    by_cases h : k < s.size
    · by_cases n : s[k] = 10
      · rw [lns_cut h n] at ht
        rcases List.mem_cons.1 ht with rfl | ht
        · simp only [ByteArray.size_extract]; omega
        · exact ih (k + 1) (k + 1) (by omega) t ht
      · rw [lns_on h n] at ht; exact ih a (k + 1) (by omega) t ht
    · rw [lns_end h] at ht
      split at ht
      · rw [List.mem_singleton.1 ht]; simp only [ByteArray.size_extract]; omega
      · cases ht
theorem remk_app (k : Nat) : ∀ (l m : List ByteArray) (i : Nat), remk k i (l ++ m) = remk k i l ++ remk k (i + l.length) m
  | [], m, i => rfl
  | t :: r, m, i => by
    show (if i % k = 0 then [moreT, ⟨#[]⟩] else []) ++ remLine t :: remk k (i + 1) (r ++ m) = ((if i % k = 0 then [moreT, ⟨#[]⟩] else []) ++ remLine t :: remk k (i + 1) r) ++ _
    rw [remk_app k r m (i + 1), List.append_assoc, List.length_cons, show i + 1 + r.length = i + (r.length + 1) from by omega]
    rfl
def outAt (k : Nat) (l : List ByteArray) (i : Nat) : ByteArray := textB (remk k 0 (l.take i))
def more2 : ByteArray := ⟨#[32, 35, 32, 109, 111, 114, 101, 10, 10]⟩
theorem app_nil (a : ByteArray) : a ++ ⟨#[]⟩ = a := by apply ByteArray.ext; simp
theorem out_next {k i : Nat} {l : List ByteArray} {t : ByteArray} (h : l[i]? = some t) :
    outAt k l (i + 1) = ((if i % k = 0 then outAt k l i ++ more2 else outAt k l i) ++ (if (splitRes t).2.2 = 0 ∧ t.size < 400 then t ++ soT else t)) ++ nlT := by
  obtain ⟨hi, e⟩ := List.getElem?_eq_some_iff.1 h
  have et : l.take (i + 1) = l.take i ++ [t] := by rw [List.take_add_one, h]; rfl
  have el : (l.take i).length = i := by rw [List.length_take]; omega
  unfold outAt
  rw [et, remk_app, el, Nat.zero_add, textB_app]
  have e1 : textB (remk k i [t]) = (if i % k = 0 then more2 else ⟨#[]⟩) ++ (remLine t ++ nlT) := by
    show textB ((if i % k = 0 then [moreT, ⟨#[]⟩] else []) ++ [remLine t]) = _
    rw [textB_app, show textB [remLine t] = remLine t ++ nlT from app_nil _]
    split
    · congr 1
    · rfl
  rw [e1]
  unfold remLine
  split
  · rw [ByteArray.append_assoc (a := textB _) (b := more2), ByteArray.append_assoc (a := textB _), ByteArray.append_assoc (a := more2)]
  · rw [show (⟨#[]⟩ : ByteArray) ++ ((if (splitRes t).2.2 = 0 ∧ t.size < 400 then t ++ soT else t) ++ nlT) = (if (splitRes t).2.2 = 0 ∧ t.size < 400 then t ++ soT else t) ++ nlT from by apply ByteArray.ext; simp, ByteArray.append_assoc]
theorem out_size {k : Nat} {l : List ByteArray} (hl : ∀ t ∈ l, t.size ≤ 20000) : ∀ i, i ≤ l.length → (outAt k l i).size ≤ 20015 * i := by
  intro i
  induction i with
  | zero => intro _; exact Nat.le_refl _
  | succ i ih =>
    intro hi
    have h : l[i]? = some l[i] := List.getElem?_eq_getElem (by omega)
    have ht := hl _ (List.getElem_mem (show i < l.length by omega))
    rw [out_next h]
    have := ih (by omega)
    have e1 : more2.size = 9 := rfl
    have e2 : soT.size = 5 := rfl
    have e3 : nlT.size = 1 := rfl
    split <;> split <;> simp only [size_app, e1, e2, e3] <;> omega
theorem out_all (k : Nat) (l : List ByteArray) : outAt k l l.length = textB (remk k 0 l) := by unfold outAt; rw [List.take_length]
end Go.Proofs.YtnkmlfbnfndfpaaGreatDoor
