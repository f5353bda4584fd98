/- What a call of the document's answer keeps while it runs: blocks of any cells, numbers, and what was there before. -/
import Derived.Test.YtnopgdheffnfdaaDbox
import Derived.Test.YtnopgdheffnfdaaGblk
namespace Go.Proofs.Ytnopgdheffnfdaa
open Go.RowKit

/-- the blocks of L hold what L says; the numbers of M read so; what was there before is as it was -/
structure BM (w : World) (L : List (Nat × List Value)) (M : List (Bool × Option Addr × Nat × Nat × Int)) (W : World) : Prop where
  al : ∀ x ∈ L, Blk W x.1 x.2
  nu : ∀ x ∈ M, Zs W x.1 x.2.1 x.2.2.1 x.2.2.2.1 x.2.2.2.2
  hb : Below w.heap.size w W
theorem Box.blk {W : World} {b : Nat} {p : Bool} {v : Value} (h : Box W b p v) : Blk W b [.bool p, v] := ⟨h.lt, h.c0, h.f0, h.c1, h.f1, trivial⟩
theorem Blk.box {W : World} {b : Nat} {p : Bool} {v : Value} (h : Blk W b [.bool p, v]) : Box W b p v := ⟨h.lt, h.cs.1, h.cs.2.2.1, h.cs.2.1, h.cs.2.2.2.1⟩
section
variable {w W W' : World} {L : List (Nat × List Value)} {M : List (Bool × Option Addr × Nat × Nat × Int)}
theorem BM.below (h : BM w L M W) (k : Below W.heap.size W W') : BM w L M W' := ⟨fun x hx => (h.al x hx).below k, fun x hx => (h.nu x hx).below k, below_thru h.hb k⟩
theorem BM.drew (h : BM w L M W) : BM w L M W.drew := h.below (Below.refl _ _).drew
theorem BM.kept (lo : Nat) (h : ∀ x ∈ L, x.1 ≤ lo) (hl : w.heap.size ≤ lo) : Kept lo (BM w L M) :=
  ⟨fun _ _ h k => h.below k,
   fun W b p v r u h' bx hlt => ⟨fun x hx => ((h'.al x hx).far (by have := h x hx; omega) _ _).far (by have := h x hx; omega) _ _, fun x hx => (h'.nu x hx).set2 bx.c0 _ _,
     (h'.hb.setCell (p := ⟨b, 0, none⟩) (by show _ ≤ b; omega) _).setCell (p := ⟨b, 1, none⟩) (by show _ ≤ b; omega) _⟩⟩
theorem BM.nil (w : World) : BM w [] [] w := ⟨fun x hx => absurd hx (by simp), fun x hx => absurd hx (by simp), Below.refl _ _⟩
theorem BM.cons (h : BM w L M W) {g : Nat} {vs : List Value} (p : Blk W g vs) : BM w ((g, vs) :: L) M W :=
  ⟨fun x hx => by
    rcases List.mem_cons.1 hx with rfl | hx
    · exact p
    · exact h.al x hx, h.nu, h.hb⟩
theorem BM.consBox (h : BM w L M W) {g : Nat} {p : Bool} {v : Value} (b : Box W g p v) : BM w ((g, [.bool p, v]) :: L) M W := h.cons b.blk
theorem BM.more2 (h : BM w L M W) (u v : Value) (t : TypeId) : BM w ((W.heap.size, [u, v]) :: L) M (W.alloc (.cells #[u, v] t)) := (h.below (below_box _ _)).cons (Blk.new2 _ _ _ _)
theorem BM.ncons (h : BM w L M W) {p : Bool} {A : Option Addr} {n c : Nat} {z : Int} (b : Zs W p A n c z) : BM w L ((p, A, n, c, z) :: M) W :=
  ⟨h.al, fun x hx => by
    rcases List.mem_cons.1 hx with rfl | hx
    · exact b
    · exact h.nu x hx, h.hb⟩
theorem BM.head {g : Nat} {vs : List Value} (h : BM w ((g, vs) :: L) M W) : Blk W g vs := h.al (g, vs) (List.mem_cons_self ..)
theorem BM.tail {x : Nat × List Value} (h : BM w (x :: L) M W) : BM w L M W := ⟨fun y hy => h.al y (List.mem_cons_of_mem _ hy), h.nu, h.hb⟩
theorem BM.num {p : Bool} {A : Option Addr} {n c : Nat} {z : Int} (h : BM w L ((p, A, n, c, z) :: M) W) : Zs W p A n c z := h.nu (p, A, n, c, z) (List.mem_cons_self ..)
theorem BM.nt {x : Bool × Option Addr × Nat × Nat × Int} (h : BM w L (x :: M) W) : BM w L M W := ⟨h.al, fun y hy => h.nu y (List.mem_cons_of_mem _ hy), h.hb⟩
/-- a number stored into the first block -/
theorem BM.put {g : Nat} {p : Bool} {v : Value} (h : BM w ((g, [.bool p, v]) :: L) M W) (q : Bool) (u : Value) (hg : w.heap.size ≤ g) (ne : ∀ x ∈ L, g ≠ x.1) : BM w ((g, [.bool q, u]) :: L) M ((W.setCell ⟨g, 0, none⟩ (.bool q)).setCell ⟨g, 1, none⟩ u) :=
  ⟨fun x hx => by
    rcases List.mem_cons.1 hx with rfl | hx
    · exact h.head.self2 _ _
    · exact ((h.al x (List.mem_cons_of_mem _ hx)).far (ne x hx) _ _).far (ne x hx) _ _, fun x hx => (h.nu x hx).set2 h.head.box.c0 _ _,
   (h.hb.setCell (p := ⟨g, 0, none⟩) (by show _ ≤ g; omega) _).setCell (p := ⟨g, 1, none⟩) (by show _ ≤ g; omega) _⟩
theorem BM.swap {x y : Nat × List Value} (h : BM w (x :: y :: L) M W) : BM w (y :: x :: L) M W :=
  ⟨fun z hz => h.al z (by simp only [List.mem_cons] at hz ⊢; rcases hz with h | h | h; exact .inr (.inl h); exact .inl h; exact .inr (.inr h)), h.nu, h.hb⟩
/-- at the head of a statement that makes a number's block somewhere -/
theorem BM.preD (h : BM w L M W) (hlt : w.heap.size < W.heap.size) : ∃ lo, PreD lo (BM w L M) W [] ∧ ∀ x ∈ L, x.1 ≤ lo :=
  ⟨W.heap.size - 1, ⟨BM.kept _ (fun x hx => by have := (h.al x hx).lt; omega) (by omega), h, by omega, (fun b h => by cases h), (fun b h => by cases h), List.nodup_nil⟩,
    fun x hx => by have := (h.al x hx).lt; omega⟩
end
end Go.Proofs.Ytnopgdheffnfdaa
