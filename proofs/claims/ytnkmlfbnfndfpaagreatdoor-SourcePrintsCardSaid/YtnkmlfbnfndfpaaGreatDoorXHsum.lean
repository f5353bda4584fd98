/- What writing a source puts together, text by text. No program here. -/
import Derived.Test.YtnkmlfbnfndfpaaGreatDoorXGp
import Derived.Test.YtnkmlfbnfndfpaaGreatDoorXHthree
set_option maxRecDepth 100000
set_option maxHeartbeats 64000000
namespace Go.Proofs.YtnkmlfbnfndfpaaGreatDoor
open Go.RowKit
theorem rule_sum (x : Rl) (o : ByteArray) : o ++ ⟨#[82, 117, 108, 101, 32]⟩ ++ x.name ++ ⟨#[32]⟩ ++ yearT x.fr ++ ⟨#[32]⟩ ++ untilT x ++ ⟨#[32, 45]⟩ ++ threeT x.sp ++ ⟨#[32]⟩ ++ timeB x.save ++ ⟨#[32]⟩ ++ dashB x.letter ++ ⟨#[10]⟩ = o ++ spc (ruleTexts x) ++ nlT := by
  unfold ruleTexts spTexts threeT
  simp only [List.cons_append, List.nil_append, spc]
  rw [show (⟨#[82, 117, 108, 101, 32]⟩ : ByteArray) = ruleT ++ ⟨#[32]⟩ from rfl, show (⟨#[32, 45]⟩ : ByteArray) = ⟨#[32]⟩ ++ dashT from rfl, show nlT = ⟨#[10]⟩ from rfl]
  simp only [ByteArray.append_assoc]
theorem era_sum0 (x : Er) (h : x.til = false) (o : ByteArray) : o ++ timeB x.off ++ ⟨#[32]⟩ ++ saveT x ++ ⟨#[32]⟩ ++ x.fmt ++ ⟨#[10]⟩ = o ++ spc (eraTexts x) ++ nlT := by
  unfold eraTexts
  rw [if_neg (by rw [h]; decide)]
  simp only [List.cons_append, List.nil_append, spc]
  rw [show nlT = ⟨#[10]⟩ from rfl]
  simp only [ByteArray.append_assoc]
theorem era_sum1 (x : Er) (h : x.til = true) (o : ByteArray) : o ++ timeB x.off ++ ⟨#[32]⟩ ++ saveT x ++ ⟨#[32]⟩ ++ x.fmt ++ ⟨#[32]⟩ ++ yearT x.year ++ threeT x.sp ++ ⟨#[10]⟩ = o ++ spc (eraTexts x) ++ nlT := by
  unfold eraTexts
  rw [if_pos h]
  unfold spTexts threeT
  simp only [List.cons_append, List.nil_append, spc]
  rw [show nlT = ⟨#[10]⟩ from rfl]
  simp only [ByteArray.append_assoc]
theorem link_sum (x : Lk) (o : ByteArray) : o ++ ⟨#[76, 105, 110, 107, 32]⟩ ++ x.target ++ ⟨#[32]⟩ ++ x.name ++ ⟨#[10]⟩ = o ++ spc (linkTexts x) ++ nlT := by
  unfold linkTexts
  simp only [spc]
  rw [show (⟨#[76, 105, 110, 107, 32]⟩ : ByteArray) = linkT ++ ⟨#[32]⟩ from rfl, show nlT = ⟨#[10]⟩ from rfl]
  simp only [ByteArray.append_assoc]
def zHead (z : Zn) (k : Nat) : ByteArray := if k = 0 then ⟨#[90, 111, 110, 101, 32]⟩ ++ z.name ++ ⟨#[32]⟩ else textOf ((zoneLines z).take k)
theorem zHead_next {z : Zn} {k : Nat} {x : Er} (h : z.eras[k]? = some x) : zHead z k ++ spc (eraTexts x) ++ nlT = zHead z (k + 1) := by
  have e : zHead z (k + 1) = textOf ((zoneLines z).take k) ++ spc (lead z k ++ eraTexts x) ++ nlT := by
    unfold zHead
    rw [if_neg (by omega), zone_next h, textOf_snoc]
  rw [e]
  unfold zHead lead
  by_cases h0 : k = 0
  · subst h0
    rw [if_pos rfl, if_pos rfl, List.take_zero]
    obtain ⟨a, r, ha⟩ : ∃ a r, eraTexts x = a :: r := by unfold eraTexts; exact ⟨_, _, rfl⟩
    rw [ha]
    show _ = ⟨#[]⟩ ++ (zoneT ++ ⟨#[32]⟩ ++ (z.name ++ ⟨#[32]⟩ ++ spc (a :: r))) ++ nlT
    rw [nil_append, show (⟨#[90, 111, 110, 101, 32]⟩ : ByteArray) = zoneT ++ ⟨#[32]⟩ from rfl]
    simp only [ByteArray.append_assoc]
  · rw [if_neg h0, if_neg h0, List.nil_append]
theorem zHead_all {z : Zn} (h : z.eras ≠ []) : zHead z z.eras.length = textOf (zoneLines z) := by
  unfold zHead
  have l := zone_len h
  rw [if_neg (by rw [List.length_eq_zero_iff]; exact h), List.take_of_length_le (by omega)]
theorem year_is {n : Int} (h : 1 ≤ n) : dPre n.toNat ⟨#[]⟩ = yearT n := by
  unfold dPre yearT
  rw [if_neg (by omega), append_nil']
theorem digY (n : Int) (h : 1 ≤ n) (h2 : n ≤ 1000000) (w : World) : Calls Tryz.prog 56 #[.int .i64 n] w (RetV w (.string (yearT n))) := by
  have := DigitsR n.toNat (by omega) (by omega) w
  rw [year_is h, show ((n.toNat : Nat) : Int) = n by omega] at this
  exact this
theorem yearT_le {n : Int} (h : 1 ≤ n) (h2 : n ≤ 1000000) : (yearT n).size ≤ 20 := by
  have := decB_le (n := n.toNat) (by omega)
  unfold yearT
  omega
theorem until_le {x : Rl} (h : x.ok) : (untilT x).size ≤ 20 := by
  unfold untilT
  split
  · decide
  · split
    · decide
    · exact yearT_le h.2.1.1 (by have := h.2.1.2; omega)
theorem dash_le {s : ByteArray} (h : s.size ≤ 20) : (dashB s).size ≤ 20 := by
  unfold dashB
  split
  · decide
  · exact h
theorem save_le {x : Er} (h : x.ok) : (saveT x).size ≤ 40 := by
  unfold saveT
  split
  · exact Nat.le_trans (timeB_le _ (by have := h.2.1.1; omega) (by have := h.2.1.2; omega)) (by decide)
  · refine Nat.le_trans (dash_le ?_) (by decide)
    by_cases k : x.kind = 2
    · exact (set_bare (h.2.2.2.2.2.2.1 k)).2.1
    · rw [h.2.2.2.2.2.1 k]; decide
end Go.Proofs.YtnkmlfbnfndfpaaGreatDoor
