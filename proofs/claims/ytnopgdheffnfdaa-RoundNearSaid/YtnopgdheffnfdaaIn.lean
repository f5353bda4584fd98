/- Numbers of 64 bits: what it is to be one. -/
import Derived.Test.YtnopgdheffnfdaaRows
import Derived.WalkKit
import Derived.ProofKit
import Derived.OpenShut
namespace Go.Proofs.Ytnopgdheffnfdaa
open Go.RowKit

/-- a number of 64 bits -/
def In64 (x : Int) : Prop := -9223372036854775808 ≤ x ∧ x ≤ 9223372036854775807
instance (x : Int) : Decidable (In64 x) := by unfold In64; infer_instance
theorem in64 {x : Int} (h : (Lit.int .i64 x).wf = true) : In64 x := by
  exact bounds_i64 h
end Go.Proofs.Ytnopgdheffnfdaa
