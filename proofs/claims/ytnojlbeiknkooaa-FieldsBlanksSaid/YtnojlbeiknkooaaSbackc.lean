/- What was joined is split into the same. -/
import Derived.Test.YtnojlbeiknkooaaSbackb
namespace Go.Proofs.Ytnojlbeiknkooaa
open Go.RowKit
def sepT (i : Nat) : ByteArray := if 0 < i then ⟨#[32]⟩ else ⟨#[]⟩
theorem nil_append (b : ByteArray) : (⟨#[]⟩ : ByteArray) ++ b = b := ByteArray.empty_append
theorem append_nil' (b : ByteArray) : b ++ (⟨#[]⟩ : ByteArray) = b := ByteArray.append_empty
theorem join_eq {l : List ByteArray} {i : Nat} (h : i < l.length) : joinGo l (i + 1) = joinGo l i ++ (sepT i ++ enc l[i]) := by
  have e : (if 0 < i then joinGo l i ++ ⟨#[32]⟩ else joinGo l i) = joinGo l i ++ sepT i := by
    unfold sepT
    split
    · rfl
    · rw [append_nil']
  rw [join_succ h, e]
  unfold enc
  split
  · rw [ByteArray.append_assoc]
  · simp only [ByteArray.append_assoc]
theorem join_pre {l : List ByteArray} : ∀ (d i : Nat), i + d ≤ l.length → ∃ b, joinGo l (i + d) = joinGo l i ++ b := by
  intro d
  induction d with
  | zero => intro i _; exact ⟨⟨#[]⟩, (append_nil' _).symm⟩
  | succ d ih =>
    intro i h
    obtain ⟨b, hb⟩ := ih i (by omega)
    refine ⟨b ++ (sepT (i + d) ++ enc (l[i + d]'(by omega))), ?_⟩
    rw [show i + (d + 1) = i + d + 1 by omega, join_eq (by omega), hb, ByteArray.append_assoc]
theorem join_atB {l : List ByteArray} {i : Nat} (h : i < l.length) : AtB (joinGo l l.length) (joinGo l i).size (sepT i ++ enc l[i]) := by
  obtain ⟨b, hb⟩ := join_pre (l := l) (l.length - (i + 1)) (i + 1) (by omega)
  refine ⟨joinGo l i, b, ?_, rfl⟩
  rw [← join_eq h, ← hb]
  congr 1
  omega
theorem join_free {l : List ByteArray} {i : Nat} (h : i < l.length) : free (joinGo l l.length) (joinGo l (i + 1)).size := by
  intro hj
  by_cases e : i + 1 = l.length
  · rw [e] at hj; exact absurd hj (by omega)
  · have a := at_left (join_atB (l := l) (i := i + 1) (by omega))
    have e1 : sepT (i + 1) = ⟨#[32]⟩ := if_pos (by omega)
    rw [e1] at a
    have b : (joinGo l l.length)[(joinGo l (i + 1)).size] = 32 := at_byte a 0 (by decide) hj
    exact .inl (by rw [b]; rfl)
theorem back_go {l : List ByteArray} (ok : allOk l) (hl : l.length ≤ 16) : ∀ i, i ≤ l.length → ∃ (out : List (ByteArray × Int)) (f : Nat), out.map (·.1) = l.take i ∧ (joinGo l l.length).size - (joinGo l i).size < f ∧
    splitGo (joinGo l l.length) f out (joinGo l i).size = splitGo (joinGo l l.length) ((joinGo l l.length).size + 1) [] 0 := by
  intro i
  induction i with
  | zero => intro _; exact ⟨[], (joinGo l l.length).size + 1, by simp, by omega, rfl⟩
  | succ i ih =>
    intro hi
    have il : i < l.length := by omega
    obtain ⟨out, f, ho, hf, hs⟩ := ih (by omega)
    have at0 := join_atB il
    have fr := join_free il
    have sz : (joinGo l (i + 1)).size = (joinGo l i).size + ((sepT i).size + (enc l[i]).size) := by rw [join_eq il]; simp only [size_app]
    have tot := at_size at0
    rw [size_app] at tot
    have lo : out.length = i := by have := congrArg List.length ho; rw [List.length_map, List.length_take] at this; omega
    have ep : 0 < (enc l[i]).size := by
      unfold enc
      split
      · rename_i pl; exact (plain_pre _ (Nat.le_refl _) pl).1
      · have z : (⟨#[34]⟩ : ByteArray).size = 1 := rfl
        simp only [size_app, z]; omega
    have tk : ∀ (x : Int), (out ++ [(l[i], x)]).map (·.1) = l.take (i + 1) := by
      intro x
      rw [List.map_append, ho, List.take_add_one, List.getElem?_eq_getElem il]
      rfl
    have ae := at_right at0
    by_cases i0 : 0 < i
    · have e1 : sepT i = ⟨#[32]⟩ := if_pos i0
      have z : (⟨#[32]⟩ : ByteArray).size = 1 := rfl
      have a32 := at_left at0
      rw [e1] at a32 ae
      rw [e1, z] at sz tot
      rw [z] at ae
      obtain ⟨f, rfl⟩ : ∃ g, f = g + 2 := ⟨f - 2, by omega⟩
      have hp : (joinGo l i).size < (joinGo l l.length).size := by omega
      have b : (joinGo l l.length)[(joinGo l i).size] = 32 := at_byte a32 0 (by decide) hp
      rw [sp_blank hp (by rw [b]; decide) (by rw [b]; rfl)] at hs
      have e2 : (joinGo l i).size + 1 + (enc l[i]).size = (joinGo l (i + 1)).size := by omega
      rw [take_enc ae (ok i il) (by rw [e2]; exact fr) (by omega), e2] at hs
      exact ⟨_, f, tk _, by omega, hs⟩
    · have e1 : sepT i = ⟨#[]⟩ := if_neg i0
      have z : (⟨#[]⟩ : ByteArray).size = 0 := rfl
      rw [e1] at ae
      rw [e1, z] at sz tot
      rw [z, Nat.add_zero] at ae
      obtain ⟨f, rfl⟩ : ∃ g, f = g + 1 := ⟨f - 1, by omega⟩
      have e2 : (joinGo l i).size + (enc l[i]).size = (joinGo l (i + 1)).size := by omega
      rw [take_enc ae (ok i il) (by rw [e2]; exact fr) (by omega), e2] at hs
      exact ⟨_, f, tk _, by omega, hs⟩
/-- what was joined is split into the same -/
theorem back {l : List ByteArray} {s : ByteArray} (h : joinRes l = (s, 0)) : ∃ r, splitRes s = (r, 0, 0) ∧ r.map (·.1) = l := by
  unfold joinRes at h
  split at h
  · rename_i ok
    split at h
    · exact absurd (congrArg Prod.snd h) (by show ¬ (12 : Int) = 0; decide)
    · rename_i n12
      obtain rfl : joinGo l l.length = s := congrArg Prod.fst h
      obtain ⟨out, f, ho, hf, hs⟩ := back_go ok (by omega) l.length (Nat.le_refl _)
      obtain ⟨f, rfl⟩ : ∃ g, f = g + 1 := ⟨f - 1, by omega⟩
      rw [sp_end (by omega)] at hs
      refine ⟨out, ?_, by rw [ho, List.take_length]⟩
      rw [hs]
      exact if_neg (by omega)
  · exact absurd (congrArg Prod.snd h) (by show ¬ (6 : Int) = 0; decide)
end Go.Proofs.Ytnojlbeiknkooaa
