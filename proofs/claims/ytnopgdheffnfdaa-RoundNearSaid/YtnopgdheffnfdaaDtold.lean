/- The document's answer of layer 3: a quotient and a rest told as wide numbers. -/
import Derived.Test.YtnopgdheffnfdaaWlaw
namespace Go.Proofs.Ytnopgdheffnfdaa
open Go.RowKit

/-- the rest's halves, told beside a quotient -/
def hv2 (Q R : Int) : Int := if InW Q then hv R else 0
def lv2 (Q R : Int) : Int := if InW Q then lv R else 0
/-- What a call that answers two wide numbers and an error's number leaves. -/
def RetWWE (w : World) (Q R : Int) (e : Ending) (w' : World) : Prop :=
  e = .returned (.tuple #[.agg #[.int .i64 (hv Q), .int .u64 (lv Q)], .agg #[.int .i64 (hv2 Q R), .int .u64 (lv2 Q R)], .int .i64 (ev Q)]) ∧ Below w.heap.size w w'

/-- two numbers' blocks and two wide ones', just made -/
theorem start4 (w : World) (p q : Bool) (u v : Value) (t t' : TypeId) :
    ∃ W, W = (((w.alloc (.cells #[.bool p, u] t)).alloc (.cells #[.bool q, v] t)).alloc (.cells #[.int .i64 0, .int .u64 0] t')).alloc (.cells #[.int .i64 0, .int .u64 0] t') ∧
      Box W w.heap.size p u ∧ Box W (w.heap.size + 1) q v ∧ PairsK w [(w.heap.size + 1 + 1 + 1, .int .i64 0, .int .u64 0), (w.heap.size + 1 + 1, .int .i64 0, .int .u64 0)] W := by
  refine ⟨_, rfl, ?_, ?_, ?_⟩
  · exact (((Box.new w p u t).below' (below_alloc2 _ _)).below' (below_alloc2 _ _)).below' (below_alloc2 _ _)
  · have := ((Box.new (w.alloc (.cells #[.bool p, u] t)) q v t).below' (below_alloc2 _ (.cells #[.int .i64 0, .int .u64 0] t'))).below' (below_alloc2 _ (.cells #[.int .i64 0, .int .u64 0] t'))
    rwa [World.size_alloc] at this
  · have k : PairsK w [] ((w.alloc (.cells #[.bool p, u] t)).alloc (.cells #[.bool q, v] t)) := ((PairsK.nil w).below (below_alloc2 _ _)).below (below_alloc2 _ _)
    have := (k.more (.int .i64 0) (.int .u64 0) t').more (.int .i64 0) (.int .u64 0) t'
    simp only [World.size_alloc] at this
    exact this

end Go.Proofs.Ytnopgdheffnfdaa
