/- The document's answer of layer 9: right spots. -/
import Derived.Test.YtnkmlfbnfndfpaaGreatDoorZUparsed
import Derived.Deep.RegionHeld3
import Derived.Outline
namespace Go.Proofs.YtnkmlfbnfndfpaaGreatDoor
open Go.RowKit
/-- may a spot be? -/
def Sp.ok (x : Sp) : Prop := (1 ≤ x.mo ∧ x.mo ≤ 12) ∧ (0 ≤ x.ki ∧ x.ki ≤ 3) ∧ (-604799 ≤ x.ti ∧ x.ti ≤ 604799) ∧ (0 ≤ x.re ∧ x.re ≤ 2) ∧ (x.ki = 0 → x.wd = 0) ∧ (x.ki ≠ 0 → 1 ≤ x.wd ∧ x.wd ≤ 7) ∧ (x.ki = 1 → x.da = 0) ∧ (x.ki ≠ 1 → 1 ≤ x.da ∧ x.da ≤ 31)
instance (x : Sp) : Decidable x.ok := by unfold Sp.ok; infer_instance
end Go.Proofs.YtnkmlfbnfndfpaaGreatDoor
