/- Stage 8's laws: lines. -/
import Derived.Test.YtnkmlfbnfndfpaaGreatDoorZGq
namespace Go.Proofs.YtnkmlfbnfndfpaaGreatDoor
open Go.RowKit
theorem lns_len {s : ByteArray} : ∀ (d a k : Nat), s.size - k ≤ d → (lnsFrom s a k).length ≤ d + 1 := by
  intro d
  induction d with
  | zero => intro a k h; rw [lns_end (by omega)]; split <;> simp
  | succ d ih =>
    intro a k h
    by_cases g : k < s.size
    · by_cases c : s[k] = 10
      · rw [lns_cut g c]; have := ih (k + 1) (k + 1) (by omega); simp; omega
      · rw [lns_on g c]; have := ih a (k + 1) (by omega); omega
    · rw [lns_end g]; split <;> simp
end Go.Proofs.YtnkmlfbnfndfpaaGreatDoor
