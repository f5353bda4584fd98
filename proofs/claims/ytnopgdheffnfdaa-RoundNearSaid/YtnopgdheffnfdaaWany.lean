/- A block for a wide number that a statement makes anywhere among its calls (a short assignment of a call with a wide number): what stands meanwhile, whatever else is kept. -/
import Derived.Test.YtnopgdheffnfdaaWdef
namespace Go.Proofs.Ytnopgdheffnfdaa
open Go.RowKit

/-- K is kept by calls, and by a store into a block of two cells behind lo. -/
structure KeptW (lo : Nat) (K : World → Prop) : Prop where
  below : ∀ W W', K W → Below W.heap.size W W' → K W'
  set2 : ∀ W b u v u' v', K W → Pair W b u v → lo < b → K ((W.setCell ⟨b, 0, none⟩ u').setCell ⟨b, 1, none⟩ v')

/-- L: the blocks made so far. -/
structure PreW (lo : Nat) (K : World → Prop) (W : World) (L : List Nat) : Prop where
  keep : KeptW lo K
  k : K W
  lt : lo < W.heap.size
  al : ∀ b ∈ L, Pair W b (.int .i64 0) (.int .u64 0)
  ge : ∀ b ∈ L, lo < b
/-- the block holds its number -/
structure DonW (lo : Nat) (K : World → Prop) (W : World) (g : Nat) (u v : Value) : Prop where
  keep : KeptW lo K
  k : K W
  bx : Pair W g u v
  gg : lo < g
section
variable {lo : Nat} {K : World → Prop} {W W' : World} {L : List Nat} {g : Nat} {u v : Value}
theorem PreW.below (s : PreW lo K W L) (k : Below W.heap.size W W') : PreW lo K W' L :=
  ⟨s.keep, s.keep.below _ _ s.k k, Nat.lt_of_lt_of_le s.lt k.size, fun b hb => (s.al b hb).below k, s.ge⟩
theorem PreW.drew (s : PreW lo K W L) : PreW lo K W.drew L := s.below (Below.refl _ _).drew
theorem PreW.alloc1 (s : PreW lo K W L) : PreW lo K (W.alloc (.cells #[.int .i64 0, .int .u64 0] 24)) (W.heap.size :: L) := by
  have s' := s.below (below_box W (.cells #[.int .i64 0, .int .u64 0] 24))
  refine ⟨s.keep, s'.k, s'.lt, fun b hb => ?_, fun b hb => ?_⟩
  · rcases List.mem_cons.1 hb with rfl | hb
    · exact Pair.new _ _ _ _
    · exact s'.al b hb
  · rcases List.mem_cons.1 hb with rfl | hb
    · exact s.lt
    · exact s.ge b hb
theorem PreW.fin1 (s : PreW lo K W (g :: L)) (u v : Value) : DonW lo K ((W.setCell ⟨g, 0, none⟩ u).setCell ⟨g, 1, none⟩ v) g u v :=
  have bx := s.al g (List.mem_cons_self ..)
  ⟨s.keep, s.keep.set2 _ _ _ _ _ _ s.k bx (s.ge g (List.mem_cons_self ..)), bx.self2 _ _, s.ge g (List.mem_cons_self ..)⟩
theorem PreW.fin2 (s : PreW lo K W L) (u v : Value) : DonW lo K (W.alloc (.cells #[u, v] 24)) W.heap.size u v :=
  ⟨s.keep, s.keep.below _ _ s.k (below_box _ _), Pair.new _ _ _ _, s.lt⟩
end
/-- What holds behind such a statement: the variable points to the block. -/
def DonCut (lo : Nat) (K : World → Prop) (u v : Value) (x : Value) (W : World) : Prop := ∃ g, x = .pointer (some ⟨g, 0, none⟩) ∧ DonW lo K W g u v
end Go.Proofs.Ytnopgdheffnfdaa
