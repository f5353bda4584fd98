/- Blocks of two, three, four or seven cells that a statement makes anywhere among its calls; blocks of seven cells. No walk here. -/
import Derived.Test.YtipohfaapiiopaaDoorGm
namespace Go.Proofs.YtipohfaapiiopaaDoor
open Go.RowKit

theorem Blk.new7 (W : World) (a b c d e f g : Value) (t : TypeId) : Blk (W.alloc (.cells #[a, b, c, d, e, f, g] t)) W.heap.size [a, b, c, d, e, f, g] := ⟨by simp, by simp, by simp, by simp, by simp, by simp, by simp, by simp, by simp, by simp, by simp, by simp, by simp, by simp, by simp, trivial⟩
theorem Blk.seven {W : World} {k : Nat} {a b c d e f g : Value} (h : Blk W k [a, b, c, d, e, f, g]) : k < W.heap.size ∧ W.cell? ⟨k, 0, none⟩ = some a ∧ W.cell? ⟨k, 1, none⟩ = some b ∧ W.cell? ⟨k, 2, none⟩ = some c ∧ W.cell? ⟨k, 3, none⟩ = some d ∧ W.cell? ⟨k, 4, none⟩ = some e ∧ W.cell? ⟨k, 5, none⟩ = some f ∧ W.cell? ⟨k, 6, none⟩ = some g ∧ W.frozen? ⟨k, 0, none⟩ = false ∧ W.frozen? ⟨k, 1, none⟩ = false ∧ W.frozen? ⟨k, 2, none⟩ = false ∧ W.frozen? ⟨k, 3, none⟩ = false ∧ W.frozen? ⟨k, 4, none⟩ = false ∧ W.frozen? ⟨k, 5, none⟩ = false ∧ W.frozen? ⟨k, 6, none⟩ = false :=
  ⟨h.lt, h.cs.1, h.cs.2.2.1, h.cs.2.2.2.2.1, h.cs.2.2.2.2.2.2.1, h.cs.2.2.2.2.2.2.2.2.1, h.cs.2.2.2.2.2.2.2.2.2.2.1, h.cs.2.2.2.2.2.2.2.2.2.2.2.2.1, h.cs.2.1, h.cs.2.2.2.1, h.cs.2.2.2.2.2.1, h.cs.2.2.2.2.2.2.2.1, h.cs.2.2.2.2.2.2.2.2.2.1, h.cs.2.2.2.2.2.2.2.2.2.2.2.1, h.cs.2.2.2.2.2.2.2.2.2.2.2.2.2.1⟩
theorem Blk.self7 {W : World} {k : Nat} {a b c d e f g : Value} (h : Blk W k [a, b, c, d, e, f, g]) (x0 x1 x2 x3 x4 x5 x6 : Value) : Blk (((((((W.setCell ⟨k, 0, none⟩ x0).setCell ⟨k, 1, none⟩ x1).setCell ⟨k, 2, none⟩ x2).setCell ⟨k, 3, none⟩ x3).setCell ⟨k, 4, none⟩ x4).setCell ⟨k, 5, none⟩ x5).setCell ⟨k, 6, none⟩ x6) k [x0, x1, x2, x3, x4, x5, x6] := h.self [x0, x1, x2, x3, x4, x5, x6] rfl
section
variable {w W W' : World} {L : List (Nat × List Value)}
theorem BK.more7 (h : BK w L W) (a b c d e f g : Value) (t : TypeId) : BK w ((W.heap.size, [a, b, c, d, e, f, g]) :: L) (W.alloc (.cells #[a, b, c, d, e, f, g] t)) := (h.below (below_box _ _)).cons (Blk.new7 _ _ _ _ _ _ _ _ _)
theorem BK.put7 {k : Nat} {a b c d e f g : Value} (h : BK w ((k, [a, b, c, d, e, f, g]) :: L) W) (x0 x1 x2 x3 x4 x5 x6 : Value) (hg : w.heap.size ≤ k) (ne : ∀ z ∈ L, k ≠ z.1) : BK w ((k, [x0, x1, x2, x3, x4, x5, x6]) :: L) (((((((W.setCell ⟨k, 0, none⟩ x0).setCell ⟨k, 1, none⟩ x1).setCell ⟨k, 2, none⟩ x2).setCell ⟨k, 3, none⟩ x3).setCell ⟨k, 4, none⟩ x4).setCell ⟨k, 5, none⟩ x5).setCell ⟨k, 6, none⟩ x6) := h.put hg ne [x0, x1, x2, x3, x4, x5, x6] rfl
theorem BK.put4 {k : Nat} {a b c d : Value} (h : BK w ((k, [a, b, c, d]) :: L) W) (x0 x1 x2 x3 : Value) (hg : w.heap.size ≤ k) (ne : ∀ z ∈ L, k ≠ z.1) : BK w ((k, [x0, x1, x2, x3]) :: L) ((((W.setCell ⟨k, 0, none⟩ x0).setCell ⟨k, 1, none⟩ x1).setCell ⟨k, 2, none⟩ x2).setCell ⟨k, 3, none⟩ x3) := h.put hg ne [x0, x1, x2, x3] rfl
end
section
variable {lo : Nat} {K : World → Prop} {zs : List Value} {W W' : World} {L : List Nat} {g : Nat}
theorem PreB.a2 {z0 z1 : Value} (s : PreB lo K [z0, z1] W L) (t : TypeId) : PreB lo K [z0, z1] (W.alloc (.cells #[z0, z1] t)) (W.heap.size :: L) := s.made _ (Blk.new2 _ _ _ _ )
theorem PreB.p2 {z0 z1 : Value} (s : PreB lo K [z0, z1] W (g :: L)) (x0 x1 : Value) : OneB lo K ((W.setCell ⟨g, 0, none⟩ x0).setCell ⟨g, 1, none⟩ x1) g [x0, x1] :=
  ⟨s.keep, s.keep.setAll (s.ge g (List.mem_cons_self ..)) [x0, x1] W 0 s.k, (s.al g (List.mem_cons_self ..)).self [x0, x1] rfl, s.ge g (List.mem_cons_self ..)⟩
theorem PreB.q2 (s : PreB lo K zs W L) (x0 x1 : Value) (t : TypeId) : OneB lo K (W.alloc (.cells #[x0, x1] t)) W.heap.size [x0, x1] :=
  ⟨s.keep, s.keep.below _ _ s.k (below_box _ _), Blk.new2 _ _ _ _ , s.lt⟩
theorem PreB.a3 {z0 z1 z2 : Value} (s : PreB lo K [z0, z1, z2] W L) (t : TypeId) : PreB lo K [z0, z1, z2] (W.alloc (.cells #[z0, z1, z2] t)) (W.heap.size :: L) := s.made _ (Blk.new3 _ _ _ _ _ )
theorem PreB.p3 {z0 z1 z2 : Value} (s : PreB lo K [z0, z1, z2] W (g :: L)) (x0 x1 x2 : Value) : OneB lo K (((W.setCell ⟨g, 0, none⟩ x0).setCell ⟨g, 1, none⟩ x1).setCell ⟨g, 2, none⟩ x2) g [x0, x1, x2] :=
  ⟨s.keep, s.keep.setAll (s.ge g (List.mem_cons_self ..)) [x0, x1, x2] W 0 s.k, (s.al g (List.mem_cons_self ..)).self [x0, x1, x2] rfl, s.ge g (List.mem_cons_self ..)⟩
theorem PreB.q3 (s : PreB lo K zs W L) (x0 x1 x2 : Value) (t : TypeId) : OneB lo K (W.alloc (.cells #[x0, x1, x2] t)) W.heap.size [x0, x1, x2] :=
  ⟨s.keep, s.keep.below _ _ s.k (below_box _ _), Blk.new3 _ _ _ _ _ , s.lt⟩
theorem PreB.a4 {z0 z1 z2 z3 : Value} (s : PreB lo K [z0, z1, z2, z3] W L) (t : TypeId) : PreB lo K [z0, z1, z2, z3] (W.alloc (.cells #[z0, z1, z2, z3] t)) (W.heap.size :: L) := s.made _ (Blk.new4 _ _ _ _ _ _ )
theorem PreB.p4 {z0 z1 z2 z3 : Value} (s : PreB lo K [z0, z1, z2, z3] W (g :: L)) (x0 x1 x2 x3 : Value) : OneB lo K ((((W.setCell ⟨g, 0, none⟩ x0).setCell ⟨g, 1, none⟩ x1).setCell ⟨g, 2, none⟩ x2).setCell ⟨g, 3, none⟩ x3) g [x0, x1, x2, x3] :=
  ⟨s.keep, s.keep.setAll (s.ge g (List.mem_cons_self ..)) [x0, x1, x2, x3] W 0 s.k, (s.al g (List.mem_cons_self ..)).self [x0, x1, x2, x3] rfl, s.ge g (List.mem_cons_self ..)⟩
theorem PreB.q4 (s : PreB lo K zs W L) (x0 x1 x2 x3 : Value) (t : TypeId) : OneB lo K (W.alloc (.cells #[x0, x1, x2, x3] t)) W.heap.size [x0, x1, x2, x3] :=
  ⟨s.keep, s.keep.below _ _ s.k (below_box _ _), Blk.new4 _ _ _ _ _ _ , s.lt⟩
theorem PreB.a7 {z0 z1 z2 z3 z4 z5 z6 : Value} (s : PreB lo K [z0, z1, z2, z3, z4, z5, z6] W L) (t : TypeId) : PreB lo K [z0, z1, z2, z3, z4, z5, z6] (W.alloc (.cells #[z0, z1, z2, z3, z4, z5, z6] t)) (W.heap.size :: L) := s.made _ (Blk.new7 _ _ _ _ _ _ _ _ _ )
theorem PreB.p7 {z0 z1 z2 z3 z4 z5 z6 : Value} (s : PreB lo K [z0, z1, z2, z3, z4, z5, z6] W (g :: L)) (x0 x1 x2 x3 x4 x5 x6 : Value) : OneB lo K (((((((W.setCell ⟨g, 0, none⟩ x0).setCell ⟨g, 1, none⟩ x1).setCell ⟨g, 2, none⟩ x2).setCell ⟨g, 3, none⟩ x3).setCell ⟨g, 4, none⟩ x4).setCell ⟨g, 5, none⟩ x5).setCell ⟨g, 6, none⟩ x6) g [x0, x1, x2, x3, x4, x5, x6] :=
  ⟨s.keep, s.keep.setAll (s.ge g (List.mem_cons_self ..)) [x0, x1, x2, x3, x4, x5, x6] W 0 s.k, (s.al g (List.mem_cons_self ..)).self [x0, x1, x2, x3, x4, x5, x6] rfl, s.ge g (List.mem_cons_self ..)⟩
theorem PreB.q7 (s : PreB lo K zs W L) (x0 x1 x2 x3 x4 x5 x6 : Value) (t : TypeId) : OneB lo K (W.alloc (.cells #[x0, x1, x2, x3, x4, x5, x6] t)) W.heap.size [x0, x1, x2, x3, x4, x5, x6] :=
  ⟨s.keep, s.keep.below _ _ s.k (below_box _ _), Blk.new7 _ _ _ _ _ _ _ _ _ , s.lt⟩
end
end Go.Proofs.YtipohfaapiiopaaDoor
