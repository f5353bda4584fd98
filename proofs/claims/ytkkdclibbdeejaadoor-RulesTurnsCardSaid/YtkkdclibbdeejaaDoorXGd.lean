import Derived.Test.YtkkdclibbdeejaaDoorXGw
import Derived.Test.YtkkdclibbdeejaaDoorXGb
import Derived.Deep.RegionHeld3
set_option maxRecDepth 100000
set_option maxHeartbeats 64000000
namespace Go.Proofs.YtkkdclibbdeejaaDoor
open Go.RowKit
structure OneD (lo : Nat) (K : World → Prop) (W : World) (g : Nat) (p : Bool) (A : Option Addr) (n c : Nat) (Q : Int) : Prop where
  keep : Kept lo K
  k : K W
  bx : Box W g p (.slice A n c)
  zx : Zs W p A n c Q
  gg : lo < g
section
variable {lo : Nat} {K : World → Prop} {W W' : World} {L : List Nat} {g : Nat} {p : Bool} {A : Option Addr} {n c : Nat} {Q : Int}
theorem OneD.below (s : OneD lo K W g p A n c Q) (k : Below W.heap.size W W') : OneD lo K W' g p A n c Q := ⟨s.keep, s.keep.below _ _ s.k k, s.bx.below' k, s.zx.below k, s.gg⟩
end
end Go.Proofs.YtkkdclibbdeejaaDoor
namespace Go.Proofs.YtkkdclibbdeejaaDoor
open Go.RowKit
structure BZ (w : World) (L : List (Nat × Bool × Value)) (M : List (Bool × Option Addr × Nat × Nat × Int)) (W : World) : Prop where
  al : ∀ x ∈ L, Box W x.1 x.2.1 x.2.2
  nu : ∀ x ∈ M, Zs W x.1 x.2.1 x.2.2.1 x.2.2.2.1 x.2.2.2.2
  hb : Below w.heap.size w W
section
variable {w W W' : World} {L : List (Nat × Bool × Value)} {M : List (Bool × Option Addr × Nat × Nat × Int)}
theorem BZ.below (h : BZ w L M W) (k : Below W.heap.size W W') : BZ w L M W' := ⟨fun x hx => (h.al x hx).below' k, fun x hx => (h.nu x hx).below k, below_thru h.hb k⟩
theorem BZ.drew (h : BZ w L M W) : BZ w L M W.drew := h.below (Below.refl _ _).drew
theorem BZ.kept (lo : Nat) (h : ∀ x ∈ L, x.1 ≤ lo) (hl : w.heap.size ≤ lo) : Kept lo (BZ w L M) :=
  ⟨fun _ _ h k => h.below k,
   fun W b p v r u h' bx hlt => ⟨fun x hx => (h'.al x hx).far2 (by have := h x hx; omega) _ _, fun x hx => (h'.nu x hx).set2 bx.c0 _ _,
     (h'.hb.setCell (p := ⟨b, 0, none⟩) (by show _ ≤ b; omega) _).setCell (p := ⟨b, 1, none⟩) (by show _ ≤ b; omega) _⟩⟩
theorem BZ.pre (h : BZ w L M W) (lo : Nat) (hlo : ∀ x ∈ L, x.1 ≤ lo) (hl : w.heap.size ≤ lo) (hlt : lo < W.heap.size) : PreD lo (BZ w L M) W [] :=
  ⟨BZ.kept lo hlo hl, h, hlt, (fun b h => by cases h), (fun b h => by cases h), List.nodup_nil⟩
theorem BZ.nil (w : World) (M : List (Bool × Option Addr × Nat × Nat × Int)) (h : ∀ x ∈ M, Zs w x.1 x.2.1 x.2.2.1 x.2.2.2.1 x.2.2.2.2) : BZ w [] M w := ⟨fun x hx => absurd hx (by simp), h, Below.refl _ _⟩
theorem BZ.more (h : BZ w L M W) (p : Bool) (v : Value) (t : TypeId) : BZ w ((W.heap.size, p, v) :: L) M (W.alloc (.cells #[.bool p, v] t)) :=
  ⟨fun x hx => by
    rcases List.mem_cons.1 hx with rfl | hx
    · exact Box.new _ _ _ _
    · exact (h.al x hx).below' (below_alloc2 _ _), fun x hx => (h.nu x hx).below (below_alloc2 _ _), below_thru h.hb (below_alloc2 _ _)⟩
theorem BZ.cons (h : BZ w L M W) {g : Nat} {p : Bool} {v : Value} (b : Box W g p v) : BZ w ((g, p, v) :: L) M W :=
  ⟨fun x hx => by
    rcases List.mem_cons.1 hx with rfl | hx
    · exact b
    · exact h.al x hx, h.nu, h.hb⟩
theorem BZ.head {g : Nat} {p : Bool} {v : Value} (h : BZ w ((g, p, v) :: L) M W) : Box W g p v := h.al (g, p, v) (List.mem_cons_self ..)
theorem BZ.tail {x : Nat × Bool × Value} (h : BZ w (x :: L) M W) : BZ w L M W := ⟨fun y hy => h.al y (List.mem_cons_of_mem _ hy), h.nu, h.hb⟩
end
end Go.Proofs.YtkkdclibbdeejaaDoor
namespace Go.Proofs.YtkkdclibbdeejaaDoor
open Go.RowKit
end Go.Proofs.YtkkdclibbdeejaaDoor
