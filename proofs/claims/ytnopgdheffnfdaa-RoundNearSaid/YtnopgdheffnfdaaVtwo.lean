/- One block, or two, of two cells of any type that a statement makes anywhere among its calls: what stands meanwhile, whatever else is kept. -/
import Derived.Test.YtnopgdheffnfdaaWkeep
namespace Go.Proofs.Ytnopgdheffnfdaa
open Go.RowKit

/-- L: the blocks made so far, the last one first; u0, v0: what a new one holds. -/
structure PreG (lo : Nat) (K : World → Prop) (t : TypeId) (u0 v0 : Value) (W : World) (L : List Nat) : Prop where
  keep : KeptW lo K
  k : K W
  lt : lo < W.heap.size
  al : ∀ b ∈ L, Pair W b u0 v0
  ge : ∀ b ∈ L, lo < b
  nd : L.Nodup
/-- the block holds its number -/
structure OneG (lo : Nat) (K : World → Prop) (W : World) (g : Nat) (u v : Value) : Prop where
  keep : KeptW lo K
  k : K W
  bg : Pair W g u v
  gg : lo < g
/-- both blocks hold their numbers -/
structure TwoG (lo : Nat) (K : World → Prop) (W : World) (g h : Nat) (u v u' v' : Value) : Prop where
  keep : KeptW lo K
  k : K W
  bg : Pair W g u v
  bh : Pair W h u' v'
  gg : lo < g
  gh : lo < h
  ne : g ≠ h
section
variable {lo : Nat} {K : World → Prop} {t : TypeId} {u0 v0 : Value} {W W' : World} {L : List Nat} {g h : Nat} {u v u' v' : Value}
theorem PreG.below (s : PreG lo K t u0 v0 W L) (k : Below W.heap.size W W') : PreG lo K t u0 v0 W' L :=
  ⟨s.keep, s.keep.below _ _ s.k k, Nat.lt_of_lt_of_le s.lt k.size, fun b hb => (s.al b hb).below k, s.ge, s.nd⟩
theorem PreG.drew (s : PreG lo K t u0 v0 W L) : PreG lo K t u0 v0 W.drew L := s.below (Below.refl _ _).drew
theorem PreG.alloc1 (s : PreG lo K t u0 v0 W L) : PreG lo K t u0 v0 (W.alloc (.cells #[u0, v0] t)) (W.heap.size :: L) := by
  have s' := s.below (below_box W (.cells #[u0, v0] t))
  refine ⟨s.keep, s'.k, s'.lt, fun b hb => ?_, fun b hb => ?_, ?_⟩
  · rcases List.mem_cons.1 hb with rfl | hb
    · exact Pair.new _ _ _ _
    · exact s'.al b hb
  · rcases List.mem_cons.1 hb with rfl | hb
    · exact s.lt
    · exact s.ge b hb
  · refine List.nodup_cons.2 ⟨fun h => ?_, s.nd⟩
    have := (s.al _ h).lt
    omega
theorem PreG.alloc2 (s : PreG lo K t u0 v0 W L) : PreG lo K t u0 v0 ((W.alloc (.cells #[u0, v0] t)).alloc (.cells #[u0, v0] t)) ((W.heap.size + 1) :: W.heap.size :: L) := by
  have := s.alloc1.alloc1
  rwa [World.size_alloc] at this
theorem PreG.one1 (s : PreG lo K t u0 v0 W (g :: L)) (u v : Value) : OneG lo K ((W.setCell ⟨g, 0, none⟩ u).setCell ⟨g, 1, none⟩ v) g u v :=
  have bx := s.al g (List.mem_cons_self ..)
  ⟨s.keep, s.keep.set2 _ _ _ _ _ _ s.k bx (s.ge g (List.mem_cons_self ..)), bx.self2 _ _, s.ge g (List.mem_cons_self ..)⟩
theorem PreG.one2 (s : PreG lo K t u0 v0 W L) (u v : Value) : OneG lo K (W.alloc (.cells #[u, v] t)) W.heap.size u v :=
  ⟨s.keep, s.keep.below _ _ s.k (below_box _ _), Pair.new _ _ _ _, s.lt⟩
theorem PreG.fin1 (s : PreG lo K t u0 v0 W L) (hg : g ∈ L) (hh : h ∈ L) (ne : g ≠ h) (u v u' v' : Value) :
    TwoG lo K ((((W.setCell ⟨g, 0, none⟩ u).setCell ⟨g, 1, none⟩ v).setCell ⟨h, 0, none⟩ u').setCell ⟨h, 1, none⟩ v') g h u v u' v' :=
  have b1 := s.al g hg
  have b2 := (s.al h hh).far2 ne u v
  ⟨s.keep, s.keep.set2 _ _ _ _ _ _ (s.keep.set2 _ _ _ _ _ _ s.k b1 (s.ge g hg)) b2 (s.ge h hh), (b1.self2 u v).far2 (Ne.symm ne) u' v', b2.self2 u' v', s.ge g hg, s.ge h hh, ne⟩
theorem PreG.fin1a (s : PreG lo K t u0 v0 W [h, g]) (u v u' v' : Value) :
    TwoG lo K ((((W.setCell ⟨g, 0, none⟩ u).setCell ⟨g, 1, none⟩ v).setCell ⟨h, 0, none⟩ u').setCell ⟨h, 1, none⟩ v') g h u v u' v' :=
  s.fin1 (by simp) (by simp) (fun e => (List.nodup_cons.1 s.nd).1 (by simp [e])) u v u' v'
theorem PreG.fin1b (s : PreG lo K t u0 v0 W [g, h]) (u v u' v' : Value) :
    TwoG lo K ((((W.setCell ⟨g, 0, none⟩ u).setCell ⟨g, 1, none⟩ v).setCell ⟨h, 0, none⟩ u').setCell ⟨h, 1, none⟩ v') g h u v u' v' :=
  s.fin1 (by simp) (by simp) (fun e => (List.nodup_cons.1 s.nd).1 (by simp [e])) u v u' v'
theorem size_setp (W : World) (b : Nat) (u v : Value) : ((W.setCell ⟨b, 0, none⟩ u).setCell ⟨b, 1, none⟩ v).heap.size = W.heap.size := by simp [World.setCell]
theorem PreG.fin2a (s : PreG lo K t u0 v0 W [g]) (u v u' v' : Value) :
    TwoG lo K (((W.setCell ⟨g, 0, none⟩ u).setCell ⟨g, 1, none⟩ v).alloc (.cells #[u', v'] t)) g W.heap.size u v u' v' := by
  have bx := s.al g (by simp)
  have h1 := bx.lt
  have k := below_box ((W.setCell ⟨g, 0, none⟩ u).setCell ⟨g, 1, none⟩ v) (.cells #[u', v'] t)
  have nb := Pair.new ((W.setCell ⟨g, 0, none⟩ u).setCell ⟨g, 1, none⟩ v) u' v' t
  rw [size_setp] at nb
  exact ⟨s.keep, s.keep.below _ _ (s.keep.set2 _ _ _ _ _ _ s.k bx (s.ge g (by simp))) k, (bx.self2 _ _).below k, nb, s.ge g (by simp), s.lt, by omega⟩
theorem PreG.fin2b (s : PreG lo K t u0 v0 W [h]) (u v u' v' : Value) :
    TwoG lo K (((W.setCell ⟨h, 0, none⟩ u').setCell ⟨h, 1, none⟩ v').alloc (.cells #[u, v] t)) W.heap.size h u v u' v' := by
  have bx := s.al h (by simp)
  have h1 := bx.lt
  have k := below_box ((W.setCell ⟨h, 0, none⟩ u').setCell ⟨h, 1, none⟩ v') (.cells #[u, v] t)
  have nb := Pair.new ((W.setCell ⟨h, 0, none⟩ u').setCell ⟨h, 1, none⟩ v') u v t
  rw [size_setp] at nb
  exact ⟨s.keep, s.keep.below _ _ (s.keep.set2 _ _ _ _ _ _ s.k bx (s.ge h (by simp))) k, nb, (bx.self2 _ _).below k, s.lt, s.ge h (by simp), by omega⟩
theorem PreG.fin3a (s : PreG lo K t u0 v0 W L) (u v u' v' : Value) :
    TwoG lo K ((W.alloc (.cells #[u, v] t)).alloc (.cells #[u', v'] t)) W.heap.size (W.heap.size + 1) u v u' v' := by
  have k := below_thru (below_box W (.cells #[u, v] t)) (below_box _ (.cells #[u', v'] t))
  have n1 := (Pair.new W u v t).below (below_box _ (.cells #[u', v'] t))
  have n2 := Pair.new (W.alloc (.cells #[u, v] t)) u' v' t
  rw [World.size_alloc] at n2
  exact ⟨s.keep, s.keep.below _ _ s.k k, n1, n2, s.lt, by have := s.lt; omega, by omega⟩
theorem PreG.fin3b (s : PreG lo K t u0 v0 W L) (u v u' v' : Value) :
    TwoG lo K ((W.alloc (.cells #[u', v'] t)).alloc (.cells #[u, v] t)) (W.heap.size + 1) W.heap.size u v u' v' := by
  have k := below_thru (below_box W (.cells #[u', v'] t)) (below_box _ (.cells #[u, v] t))
  have n1 := (Pair.new W u' v' t).below (below_box _ (.cells #[u, v] t))
  have n2 := Pair.new (W.alloc (.cells #[u', v'] t)) u v t
  rw [World.size_alloc] at n2
  exact ⟨s.keep, s.keep.below _ _ s.k k, n2, n1, by have := s.lt; omega, s.lt, by omega⟩
end
/-- What holds behind such a statement: the variables point to the blocks. -/
def CutOne (lo : Nat) (K : World → Prop) (u v : Value) (x : Value) (W : World) : Prop := ∃ g, x = .pointer (some ⟨g, 0, none⟩) ∧ OneG lo K W g u v
def CutTwo (lo : Nat) (K : World → Prop) (u v u' v' : Value) (x x' : Value) (W : World) : Prop :=
  ∃ g h, x = .pointer (some ⟨g, 0, none⟩) ∧ x' = .pointer (some ⟨h, 0, none⟩) ∧ TwoG lo K W g h u v u' v'
/-- a block behind lo is none of those up to lo, nor is the one behind it -/
theorem behindG {lo b : Nat} (h : lo < b) {a : Nat} (ha : a ≤ lo) : b ≠ a ∧ b + 1 ≠ a := by omega
/-- at the head of such a statement -/
theorem PairsK.preG {w W : World} {L : List (Nat × Value × Value)} (h : PairsK w L W) (hlt : w.heap.size < W.heap.size) (t : TypeId) (u0 v0 : Value) :
    ∃ lo, PreG lo (PairsK w L) t u0 v0 W [] ∧ ∀ x ∈ L, x.1 ≤ lo :=
  ⟨W.heap.size - 1, ⟨PairsK.kept w L _ (fun x hx => by have := (h.al x hx).lt; omega) (by omega), h, by omega, (fun b h => by cases h), (fun b h => by cases h), List.nodup_nil⟩,
    fun x hx => by have := (h.al x hx).lt; omega⟩
end Go.Proofs.Ytnopgdheffnfdaa
