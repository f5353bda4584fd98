import Derived.Test.YtkkdclibbdeejaaDoorXGa
import Derived.Below
import Derived.IntWalk
import Derived.Lib.Hide
import Derived.Test.YtkkdclibbdeejaaDoorXGb
import Derived.Deep.DeepCutAuto
set_option maxRecDepth 100000
set_option maxHeartbeats 64000000
namespace Go.Proofs.YtkkdclibbdeejaaDoor
open Go.RowKit
structure Pair (w : World) (b : Nat) (u v : Value) : Prop where
  lt : b < w.heap.size
  c0 : w.cell? ⟨b, 0, none⟩ = some u
  c1 : w.cell? ⟨b, 1, none⟩ = some v
  f0 : w.frozen? ⟨b, 0, none⟩ = false
  f1 : w.frozen? ⟨b, 1, none⟩ = false
theorem Pair.below {w w' : World} {b : Nat} {u v : Value} (h : Pair w b u v) (hb : Below w.heap.size w w') : Pair w' b u v :=
  ⟨Nat.lt_of_lt_of_le h.lt hb.size, (hb.cell (p := ⟨b, 0, none⟩) h.lt).trans h.c0, (hb.cell (p := ⟨b, 1, none⟩) h.lt).trans h.c1, (hb.frozen (p := ⟨b, 0, none⟩) h.lt).trans h.f0, (hb.frozen (p := ⟨b, 1, none⟩) h.lt).trans h.f1⟩
theorem Pair.new (w : World) (u v : Value) (t : TypeId) : Pair (w.alloc (.cells #[u, v] t)) w.heap.size u v := ⟨by simp, by simp, by simp, by simp, by simp⟩
theorem Pair.far {w : World} {b : Nat} {u v : Value} (h : Pair w b u v) {b' : Nat} (hne : b' ≠ b) (o : Nat) (x : Value) : Pair (w.setCell ⟨b', o, none⟩ x) b u v :=
  have hb : (w.setCell ⟨b', o, none⟩ x).heap[b]? = w.heap[b]? := Below.heap_setCell w ⟨b', o, none⟩ x b (fun e => hne e.symm)
  ⟨by simpa [World.setCell] using h.lt, (World.cell?_of_block (w := w) (a := ⟨b, 0, none⟩) hb).trans h.c0, (World.cell?_of_block (w := w) (a := ⟨b, 1, none⟩) hb).trans h.c1, (World.frozen?_of_block (w := w) (a := ⟨b, 0, none⟩) hb).trans h.f0, (World.frozen?_of_block (w := w) (a := ⟨b, 1, none⟩) hb).trans h.f1⟩
theorem Pair.far2 {w : World} {b : Nat} {u v : Value} (h : Pair w b u v) {b' : Nat} (hne : b' ≠ b) (x x' : Value) : Pair ((w.setCell ⟨b', 0, none⟩ x).setCell ⟨b', 1, none⟩ x') b u v := (h.far hne 0 x).far hne 1 x'
theorem Pair.drew {w : World} {b : Nat} {u v : Value} (h : Pair w b u v) : Pair w.drew b u v := h.below (Below.refl _ _).drew
def two127 : Int := 170141183460469231731687303715884105728
def InW (z : Int) : Prop := -two127 ≤ z ∧ z < two127
instance (z : Int) : Decidable (InW z) := by unfold InW; infer_instance
def hiW (z : Int) : Int := z / 18446744073709551616
theorem Pair.self2 {w : World} {b : Nat} {u v : Value} (h : Pair w b u v) (x y : Value) : Pair ((w.setCell ⟨b, 0, none⟩ x).setCell ⟨b, 1, none⟩ y) b x y := by
  refine ⟨by simpa [World.setCell] using h.lt, ?_, ?_, ?_, ?_⟩
  · rw [World.cell?_setCell_other _ _ _ _ (by simp)]
    exact World.cell?_setCell_same _ _ _ h.c0
  · refine World.cell?_setCell_same _ _ _ (u := v) ?_
    rw [World.cell?_setCell_other _ _ _ _ (by simp)]
    exact h.c1
  · simp [h.f0]
  · simp [h.f1]
def hv (z : Int) : Int := if InW z then hiW z else 0
def RetV (w : World) (v : Value) (e : Ending) (w' : World) : Prop := e = .returned v ∧ Below w.heap.size w w'
theorem below_thru {a b c : World} (h : Below a.heap.size a b) (k : Below b.heap.size b c) : Below a.heap.size a c := h.trans (k.mono h.size)
theorem below_box (W : World) (o : Obj) : Below W.heap.size W (W.alloc o) := (Below.refl _ _).alloc (Nat.le_refl _) o
structure WK (w : World) (p : Bool) (A : Option Addr) (n c : Nat) (z : Int) (W : World) : Prop where
  bx : Box W w.heap.size p (.slice A n c)
  pr : Pair W (w.heap.size + 1) (.int .i64 0) (.int .u64 0)
  zx : Zs W p A n c z
  hb : Below w.heap.size w W
theorem WK.kept (w : World) (p : Bool) (A : Option Addr) (n c : Nat) (z : Int) : Kept (w.heap.size + 1) (WK w p A n c z) :=
  ⟨fun _ _ h k => ⟨h.bx.below' k, h.pr.below k, h.zx.below k, below_next h.hb k⟩,
   fun W b q v r u h bx hlt => ⟨h.bx.far2 (by omega) _ _, h.pr.far2 (by omega) _ _, h.zx.set2 bx.c0 _ _, (h.hb.setCell (p := ⟨b, 0, none⟩) (by show _ ≤ b; omega) _).setCell (p := ⟨b, 1, none⟩) (by show _ ≤ b; omega) _⟩⟩
structure KeptW (lo : Nat) (K : World → Prop) : Prop where
  below : ∀ W W', K W → Below W.heap.size W W' → K W'
  set2 : ∀ W b u v u' v', K W → Pair W b u v → lo < b → K ((W.setCell ⟨b, 0, none⟩ u').setCell ⟨b, 1, none⟩ v')
structure PreW (lo : Nat) (K : World → Prop) (W : World) (L : List Nat) : Prop where
  keep : KeptW lo K
  k : K W
  lt : lo < W.heap.size
  al : ∀ b ∈ L, Pair W b (.int .i64 0) (.int .u64 0)
  ge : ∀ b ∈ L, lo < b
section
variable {lo : Nat} {K : World → Prop} {W W' : World} {L : List Nat} {g : Nat} {u v : Value}
theorem PreW.below (s : PreW lo K W L) (k : Below W.heap.size W W') : PreW lo K W' L :=
  ⟨s.keep, s.keep.below _ _ s.k k, Nat.lt_of_lt_of_le s.lt k.size, fun b hb => (s.al b hb).below k, s.ge⟩
theorem PreW.drew (s : PreW lo K W L) : PreW lo K W.drew L := s.below (Below.refl _ _).drew
end
end Go.Proofs.YtkkdclibbdeejaaDoor
namespace Go.Proofs.YtkkdclibbdeejaaDoor
open Go.RowKit
structure PairsK (w : World) (L : List (Nat × Value × Value)) (W : World) : Prop where
  al : ∀ x ∈ L, Pair W x.1 x.2.1 x.2.2
  hb : Below w.heap.size w W
theorem PairsK.kept (w : World) (L : List (Nat × Value × Value)) (lo : Nat) (h : ∀ x ∈ L, x.1 ≤ lo) (hl : w.heap.size ≤ lo) : KeptW lo (PairsK w L) :=
  ⟨fun _ _ h k => ⟨fun x hx => (h.al x hx).below k, below_thru h.hb k⟩,
   fun W c u v u' v' h' _ hlt => ⟨fun x hx => (h'.al x hx).far2 (by have := h x hx; omega) _ _,
     (h'.hb.setCell (p := ⟨c, 0, none⟩) (by show _ ≤ c; omega) _).setCell (p := ⟨c, 1, none⟩) (by show _ ≤ c; omega) _⟩⟩
theorem PairsK.below {w W W' : World} {L : List (Nat × Value × Value)} (h : PairsK w L W) (k : Below W.heap.size W W') : PairsK w L W' := ⟨fun x hx => (h.al x hx).below k, below_thru h.hb k⟩
theorem PairsK.drew {w W : World} {L : List (Nat × Value × Value)} (h : PairsK w L W) : PairsK w L W.drew := h.below (Below.refl _ _).drew
theorem PairsK.nil (w : World) : PairsK w [] w := ⟨fun x hx => absurd hx (by simp), Below.refl _ _⟩
theorem PairsK.more {w W : World} {L : List (Nat × Value × Value)} (h : PairsK w L W) (u v : Value) (t : TypeId) : PairsK w ((W.heap.size, u, v) :: L) (W.alloc (.cells #[u, v] t)) :=
  ⟨fun x hx => by
    rcases List.mem_cons.1 hx with rfl | hx
    · exact Pair.new _ _ _ _
    · exact (h.al x hx).below (below_box _ _), below_thru h.hb (below_box _ _)⟩
theorem PairsK.cons {w W : World} {L : List (Nat × Value × Value)} (h : PairsK w L W) {g : Nat} {u v : Value} (p : Pair W g u v) : PairsK w ((g, u, v) :: L) W :=
  ⟨fun x hx => by
    rcases List.mem_cons.1 hx with rfl | hx
    · exact p
    · exact h.al x hx, h.hb⟩
theorem PairsK.head {w W : World} {L : List (Nat × Value × Value)} {g : Nat} {u v : Value} (h : PairsK w ((g, u, v) :: L) W) : Pair W g u v := h.al (g, u, v) (List.mem_cons_self ..)
theorem PairsK.tail {w W : World} {L : List (Nat × Value × Value)} {x : Nat × Value × Value} (h : PairsK w (x :: L) W) : PairsK w L W := ⟨fun y hy => h.al y (List.mem_cons_of_mem _ hy), h.hb⟩
theorem PairsK.pre {w W : World} {L : List (Nat × Value × Value)} (h : PairsK w L W) (lo : Nat) (hlo : ∀ x ∈ L, x.1 ≤ lo) (hl : w.heap.size ≤ lo) (hlt : lo < W.heap.size) : PreW lo (PairsK w L) W [] :=
  ⟨PairsK.kept w L lo hlo hl, h, hlt, (fun b h => by cases h), (fun b h => by cases h)⟩
end Go.Proofs.YtkkdclibbdeejaaDoor
