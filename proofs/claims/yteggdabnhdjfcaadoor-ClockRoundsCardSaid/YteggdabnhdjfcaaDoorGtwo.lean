/- Two blocks of four cells that a statement makes anywhere among its calls. No walk here. -/
import Derived.Test.YteggdabnhdjfcaaDoorGzon
namespace Go.Proofs.YteggdabnhdjfcaaDoor
open Go.RowKit

theorem size_set4 (W : World) (b : Nat) (x y z k : Value) : ((((W.setCell ⟨b, 0, none⟩ x).setCell ⟨b, 1, none⟩ y).setCell ⟨b, 2, none⟩ z).setCell ⟨b, 3, none⟩ k).heap.size = W.heap.size := by simp [World.setCell]
theorem two_ne {g h : Nat} {L : List Nat} (n : (g :: h :: L).Nodup) : g ≠ h ∧ h ≠ g :=
  have k : g ≠ h := fun e => (List.nodup_cons.1 n).1 (by simp [e])
  ⟨k, Ne.symm k⟩
section
variable {lo : Nat} {K : World → Prop} {z0 z1 z2 z3 : Value} {W : World} {L : List Nat} {g h : Nat}
theorem PreB.two1 (s : PreB lo K [z0, z1, z2, z3] W L) (hg : g ∈ L) (hh : h ∈ L) (ne : g ≠ h) (x0 x1 x2 x3 y0 y1 y2 y3 : Value) :
    TwoB lo K ((((((((W.setCell ⟨g, 0, none⟩ x0).setCell ⟨g, 1, none⟩ x1).setCell ⟨g, 2, none⟩ x2).setCell ⟨g, 3, none⟩ x3).setCell ⟨h, 0, none⟩ y0).setCell ⟨h, 1, none⟩ y1).setCell ⟨h, 2, none⟩ y2).setCell ⟨h, 3, none⟩ y3) g h [x0, x1, x2, x3] [y0, y1, y2, y3] :=
  ⟨s.keep, s.keep.setAll (s.ge h hh) [y0, y1, y2, y3] _ 0 (s.keep.setAll (s.ge g hg) [x0, x1, x2, x3] W 0 s.k),
    ((s.al g hg).self [x0, x1, x2, x3] rfl).farAll (Ne.symm ne) [y0, y1, y2, y3] 0, ((s.al h hh).farAll ne [x0, x1, x2, x3] 0).self [y0, y1, y2, y3] rfl, s.ge g hg, s.ge h hh, ne⟩
theorem PreB.two1a (s : PreB lo K [z0, z1, z2, z3] W [h, g]) (x0 x1 x2 x3 y0 y1 y2 y3 : Value) :
    TwoB lo K ((((((((W.setCell ⟨g, 0, none⟩ x0).setCell ⟨g, 1, none⟩ x1).setCell ⟨g, 2, none⟩ x2).setCell ⟨g, 3, none⟩ x3).setCell ⟨h, 0, none⟩ y0).setCell ⟨h, 1, none⟩ y1).setCell ⟨h, 2, none⟩ y2).setCell ⟨h, 3, none⟩ y3) g h [x0, x1, x2, x3] [y0, y1, y2, y3] :=
  s.two1 (by simp) (by simp) (fun e => (List.nodup_cons.1 s.nd).1 (by simp [e])) _ _ _ _ _ _ _ _
theorem PreB.two1b (s : PreB lo K [z0, z1, z2, z3] W [g, h]) (x0 x1 x2 x3 y0 y1 y2 y3 : Value) :
    TwoB lo K ((((((((W.setCell ⟨g, 0, none⟩ x0).setCell ⟨g, 1, none⟩ x1).setCell ⟨g, 2, none⟩ x2).setCell ⟨g, 3, none⟩ x3).setCell ⟨h, 0, none⟩ y0).setCell ⟨h, 1, none⟩ y1).setCell ⟨h, 2, none⟩ y2).setCell ⟨h, 3, none⟩ y3) g h [x0, x1, x2, x3] [y0, y1, y2, y3] :=
  s.two1 (by simp) (by simp) (fun e => (List.nodup_cons.1 s.nd).1 (by simp [e])) _ _ _ _ _ _ _ _
theorem PreB.two2a (s : PreB lo K [z0, z1, z2, z3] W [g]) (x0 x1 x2 x3 y0 y1 y2 y3 : Value) (t : TypeId) :
    TwoB lo K (((((W.setCell ⟨g, 0, none⟩ x0).setCell ⟨g, 1, none⟩ x1).setCell ⟨g, 2, none⟩ x2).setCell ⟨g, 3, none⟩ x3).alloc (.cells #[y0, y1, y2, y3] t)) g W.heap.size [x0, x1, x2, x3] [y0, y1, y2, y3] := by
  have bx := s.al g (by simp)
  have h1 := bx.lt
  have k := below_box ((((W.setCell ⟨g, 0, none⟩ x0).setCell ⟨g, 1, none⟩ x1).setCell ⟨g, 2, none⟩ x2).setCell ⟨g, 3, none⟩ x3) (.cells #[y0, y1, y2, y3] t)
  have nb := Blk.new4 ((((W.setCell ⟨g, 0, none⟩ x0).setCell ⟨g, 1, none⟩ x1).setCell ⟨g, 2, none⟩ x2).setCell ⟨g, 3, none⟩ x3) y0 y1 y2 y3 t
  rw [size_set4] at nb
  exact ⟨s.keep, s.keep.below _ _ (s.keep.setAll (s.ge g (by simp)) [x0, x1, x2, x3] W 0 s.k) k, (bx.self4 x0 x1 x2 x3).below k, nb, s.ge g (by simp), s.lt, by omega⟩
theorem PreB.two2b (s : PreB lo K [z0, z1, z2, z3] W [h]) (x0 x1 x2 x3 y0 y1 y2 y3 : Value) (t : TypeId) :
    TwoB lo K (((((W.setCell ⟨h, 0, none⟩ y0).setCell ⟨h, 1, none⟩ y1).setCell ⟨h, 2, none⟩ y2).setCell ⟨h, 3, none⟩ y3).alloc (.cells #[x0, x1, x2, x3] t)) W.heap.size h [x0, x1, x2, x3] [y0, y1, y2, y3] := by
  have bx := s.al h (by simp)
  have h1 := bx.lt
  have k := below_box ((((W.setCell ⟨h, 0, none⟩ y0).setCell ⟨h, 1, none⟩ y1).setCell ⟨h, 2, none⟩ y2).setCell ⟨h, 3, none⟩ y3) (.cells #[x0, x1, x2, x3] t)
  have nb := Blk.new4 ((((W.setCell ⟨h, 0, none⟩ y0).setCell ⟨h, 1, none⟩ y1).setCell ⟨h, 2, none⟩ y2).setCell ⟨h, 3, none⟩ y3) x0 x1 x2 x3 t
  rw [size_set4] at nb
  exact ⟨s.keep, s.keep.below _ _ (s.keep.setAll (s.ge h (by simp)) [y0, y1, y2, y3] W 0 s.k) k, nb, (bx.self4 y0 y1 y2 y3).below k, s.lt, s.ge h (by simp), by omega⟩
theorem PreB.two3a {zs : List Value} (s : PreB lo K zs W L) (x0 x1 x2 x3 y0 y1 y2 y3 : Value) (t : TypeId) :
    TwoB lo K ((W.alloc (.cells #[x0, x1, x2, x3] t)).alloc (.cells #[y0, y1, y2, y3] t)) W.heap.size (W.heap.size + 1) [x0, x1, x2, x3] [y0, y1, y2, y3] := by
  have k := below_thru (below_box W (.cells #[x0, x1, x2, x3] t)) (below_box _ (.cells #[y0, y1, y2, y3] t))
  have n1 := (Blk.new4 W x0 x1 x2 x3 t).below (below_box _ (.cells #[y0, y1, y2, y3] t))
  have n2 := Blk.new4 (W.alloc (.cells #[x0, x1, x2, x3] t)) y0 y1 y2 y3 t
  rw [World.size_alloc] at n2
  exact ⟨s.keep, s.keep.below _ _ s.k k, n1, n2, s.lt, by have := s.lt; omega, by omega⟩
theorem PreB.two3b {zs : List Value} (s : PreB lo K zs W L) (x0 x1 x2 x3 y0 y1 y2 y3 : Value) (t : TypeId) :
    TwoB lo K ((W.alloc (.cells #[y0, y1, y2, y3] t)).alloc (.cells #[x0, x1, x2, x3] t)) (W.heap.size + 1) W.heap.size [x0, x1, x2, x3] [y0, y1, y2, y3] := by
  have k := below_thru (below_box W (.cells #[y0, y1, y2, y3] t)) (below_box _ (.cells #[x0, x1, x2, x3] t))
  have n1 := (Blk.new4 W y0 y1 y2 y3 t).below (below_box _ (.cells #[x0, x1, x2, x3] t))
  have n2 := Blk.new4 (W.alloc (.cells #[y0, y1, y2, y3] t)) x0 x1 x2 x3 t
  rw [World.size_alloc] at n2
  exact ⟨s.keep, s.keep.below _ _ s.k k, n2, n1, by have := s.lt; omega, s.lt, by omega⟩
end
end Go.Proofs.YteggdabnhdjfcaaDoor
