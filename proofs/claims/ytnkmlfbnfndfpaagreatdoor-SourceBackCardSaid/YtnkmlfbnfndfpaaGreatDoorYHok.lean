/- A source that may be: all its numbers and texts are small; no program. -/
import Derived.Test.YtnkmlfbnfndfpaaGreatDoorYHspec
namespace Go.Proofs.YtnkmlfbnfndfpaaGreatDoor
open Go.RowKit
theorem okSr_of {S : Sr} (h : okSr S = true) : S.ok := @of_decide_eq_true _ (Classical.propDecidable _) h
theorem sp_in64 {x : Sp} (h : x.ok) : x.in64 := by
  unfold Sp.ok at h
  unfold Sp.in64 In64
  omega
theorem small_len {n : Nat} (h : n ≤ 1000) : n ≤ maxLen := by unfold maxLen; omega
theorem ok_in64 {S : Sr} (h : S.ok) : S.in64 := by
  obtain ⟨_, _, _, h1, h2, h3⟩ := h
  refine ⟨fun x hx => ?_, fun z hz => ?_, fun x hx => ?_⟩
  · obtain ⟨a, b, c, d, e, f, g⟩ := h1 x hx
    refine ⟨small_len (by have := (set_bare e).2.1; omega), by unfold In64; omega, by unfold In64; omega, sp_in64 c, by unfold In64; omega, small_len ?_⟩
    rcases g with g | g
    · rw [g]; exact Nat.zero_le _
    · have := (letters_bare g).2.1; omega
  · obtain ⟨a, b, c, d⟩ := h2 z hz
    refine ⟨small_len (by have := (place_bare a).2.1; omega), small_len (by omega), fun x hx => ?_⟩
    obtain ⟨q1, q2, q3, q4, q5, q6, q7, q8, q9⟩ := c x hx
    refine ⟨by unfold In64; omega, by unfold In64; omega, by unfold In64; omega, small_len ?_, small_len (by have := (format_bare q3).2.1; omega), ?_, ?_⟩
    · by_cases k : x.kind = 2
      · have := (set_bare (q7 k)).2.1; omega
      · rw [q6 k]; exact Nat.zero_le _
    · cases ht : x.til with
      | true => have := (q8 ht).1; unfold In64; omega
      | false => rw [(q9 ht).1]; unfold In64; decide
    · cases ht : x.til with
      | true => exact sp_in64 (q8 ht).2
      | false => rw [(q9 ht).2]; unfold Sp.in64 In64 Sp.zero; decide
  · obtain ⟨a, b⟩ := h3 x hx
    exact ⟨small_len (by have := (place_bare a).2.1; omega), small_len (by have := (place_bare b).2.1; omega)⟩
end Go.Proofs.YtnkmlfbnfndfpaaGreatDoor
