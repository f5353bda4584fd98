/- What the statements of layer 2 keep while they run: some blocks of two cells, and what was there before. -/
import Derived.Test.YtnopgdheffnfdaaWany
import Derived.Deep.DeepCutAuto
namespace Go.Proofs.Ytnopgdheffnfdaa
open Go.RowKit

/-- the blocks of L hold what L says; what was there before is as it was -/
structure PairsK (w : World) (L : List (Nat × Value × Value)) (W : World) : Prop where
  al : ∀ x ∈ L, Pair W x.1 x.2.1 x.2.2
  hb : Below w.heap.size w W
theorem PairsK.kept (w : World) (L : List (Nat × Value × Value)) (lo : Nat) (h : ∀ x ∈ L, x.1 ≤ lo) (hl : w.heap.size ≤ lo) : KeptW lo (PairsK w L) :=
  ⟨fun _ _ h k => ⟨fun x hx => (h.al x hx).below k, below_thru h.hb k⟩,
   fun W c u v u' v' h' _ hlt => ⟨fun x hx => (h'.al x hx).far2 (by have := h x hx; omega) _ _,
     (h'.hb.setCell (p := ⟨c, 0, none⟩) (by show _ ≤ c; omega) _).setCell (p := ⟨c, 1, none⟩) (by show _ ≤ c; omega) _⟩⟩
theorem PairsK.below {w W W' : World} {L : List (Nat × Value × Value)} (h : PairsK w L W) (k : Below W.heap.size W W') : PairsK w L W' := ⟨fun x hx => (h.al x hx).below k, below_thru h.hb k⟩
theorem PairsK.drew {w W : World} {L : List (Nat × Value × Value)} (h : PairsK w L W) : PairsK w L W.drew := h.below (Below.refl _ _).drew
theorem PairsK.nil (w : World) : PairsK w [] w := ⟨fun x hx => absurd hx (by simp), Below.refl _ _⟩
/-- one block more, just made -/
theorem PairsK.more {w W : World} {L : List (Nat × Value × Value)} (h : PairsK w L W) (u v : Value) (t : TypeId) : PairsK w ((W.heap.size, u, v) :: L) (W.alloc (.cells #[u, v] t)) :=
  ⟨fun x hx => by
    rcases List.mem_cons.1 hx with rfl | hx
    · exact Pair.new _ _ _ _
    · exact (h.al x hx).below (below_box _ _), below_thru h.hb (below_box _ _)⟩
theorem PairsK.cons {w W : World} {L : List (Nat × Value × Value)} (h : PairsK w L W) {g : Nat} {u v : Value} (p : Pair W g u v) : PairsK w ((g, u, v) :: L) W :=
  ⟨fun x hx => by
    rcases List.mem_cons.1 hx with rfl | hx
    · exact p
    · exact h.al x hx, h.hb⟩
theorem PairsK.head {w W : World} {L : List (Nat × Value × Value)} {g : Nat} {u v : Value} (h : PairsK w ((g, u, v) :: L) W) : Pair W g u v := h.al (g, u, v) (List.mem_cons_self ..)
theorem PairsK.tail {w W : World} {L : List (Nat × Value × Value)} {x : Nat × Value × Value} (h : PairsK w (x :: L) W) : PairsK w L W := ⟨fun y hy => h.al y (List.mem_cons_of_mem _ hy), h.hb⟩
/-- at the head of a statement that makes a block somewhere -/
theorem PairsK.pre {w W : World} {L : List (Nat × Value × Value)} (h : PairsK w L W) (lo : Nat) (hlo : ∀ x ∈ L, x.1 ≤ lo) (hl : w.heap.size ≤ lo) (hlt : lo < W.heap.size) : PreW lo (PairsK w L) W [] :=
  ⟨PairsK.kept w L lo hlo hl, h, hlt, (fun b h => by cases h), (fun b h => by cases h)⟩

end Go.Proofs.Ytnopgdheffnfdaa
