/- Blocks of two, three, four or seven cells that a statement makes anywhere among its calls; blocks of seven cells. No walk here. -/
import Derived.Test.YtmhpnmlgfdomkaaGreatDoorZGm
set_option maxRecDepth 100000
set_option maxHeartbeats 64000000
namespace Go.Proofs.YtmhpnmlgfdomkaaGreatDoor
open Go.RowKit
section
variable {w W W' : World} {L : List (Nat × List Value)}
end
section
variable {lo : Nat} {K : World → Prop} {zs : List Value} {W W' : World} {L : List Nat} {g : Nat}
theorem PreB.a2 {z0 z1 : Value} (s : PreB lo K [z0, z1] W L) (t : TypeId) : PreB lo K [z0, z1] (W.alloc (.cells #[z0, z1] t)) (W.heap.size :: L) := s.made _ (Blk.new2 _ _ _ _ )
theorem PreB.p2 {z0 z1 : Value} (s : PreB lo K [z0, z1] W (g :: L)) (x0 x1 : Value) : OneB lo K ((W.setCell ⟨g, 0, none⟩ x0).setCell ⟨g, 1, none⟩ x1) g [x0, x1] :=
  ⟨s.keep, s.keep.setAll (s.ge g (List.mem_cons_self ..)) [x0, x1] W 0 s.k, (s.al g (List.mem_cons_self ..)).self [x0, x1] rfl, s.ge g (List.mem_cons_self ..)⟩
theorem PreB.q2 (s : PreB lo K zs W L) (x0 x1 : Value) (t : TypeId) : OneB lo K (W.alloc (.cells #[x0, x1] t)) W.heap.size [x0, x1] :=
  ⟨s.keep, s.keep.below _ _ s.k (below_box _ _), Blk.new2 _ _ _ _ , s.lt⟩
end
end Go.Proofs.YtmhpnmlgfdomkaaGreatDoor
