import Derived.Test.YtmhpnmlgfdomkaaGreatDoorZGw
import Derived.Test.YtmhpnmlgfdomkaaGreatDoorZGd
set_option maxRecDepth 100000
set_option maxHeartbeats 64000000
namespace Go.Proofs.YtmhpnmlgfdomkaaGreatDoor
open Go.RowKit
def CellsAt (W : World) (b : Nat) : Nat → List Value → Prop
  | _, [] => True
  | i, v :: vs => W.cell? ⟨b, i, none⟩ = some v ∧ W.frozen? ⟨b, i, none⟩ = false ∧ CellsAt W b (i + 1) vs
structure Blk (W : World) (b : Nat) (vs : List Value) : Prop where
  lt : b < W.heap.size
  cs : CellsAt W b 0 vs
def setAll (W : World) (b : Nat) : Nat → List Value → World
  | _, [] => W
  | i, v :: vs => setAll (W.setCell ⟨b, i, none⟩ v) b (i + 1) vs
theorem CellsAt.mono {W W' : World} {b : Nat} (h : ∀ i, W'.cell? ⟨b, i, none⟩ = W.cell? ⟨b, i, none⟩ ∧ W'.frozen? ⟨b, i, none⟩ = W.frozen? ⟨b, i, none⟩) :
    ∀ {vs : List Value} {i : Nat}, CellsAt W b i vs → CellsAt W' b i vs
  | [], _, _ => trivial
  | _ :: _, i, hc => ⟨(h i).1.trans hc.1, (h i).2.trans hc.2.1, CellsAt.mono h hc.2.2⟩
theorem Blk.below {W W' : World} {b : Nat} {vs : List Value} (h : Blk W b vs) (hb : Below W.heap.size W W') : Blk W' b vs :=
  ⟨Nat.lt_of_lt_of_le h.lt hb.size, h.cs.mono fun i => ⟨hb.cell (p := ⟨b, i, none⟩) h.lt, hb.frozen (p := ⟨b, i, none⟩) h.lt⟩⟩
theorem Blk.far {W : World} {b : Nat} {vs : List Value} (h : Blk W b vs) {b' : Nat} (hne : b' ≠ b) (o : Nat) (x : Value) : Blk (W.setCell ⟨b', o, none⟩ x) b vs :=
  have hb : (W.setCell ⟨b', o, none⟩ x).heap[b]? = W.heap[b]? := Below.heap_setCell W ⟨b', o, none⟩ x b (fun e => hne e.symm)
  ⟨by simpa [World.setCell] using h.lt, h.cs.mono fun i => ⟨World.cell?_of_block (w := W) (a := ⟨b, i, none⟩) hb, World.frozen?_of_block (w := W) (a := ⟨b, i, none⟩) hb⟩⟩
theorem size_setAll (b : Nat) : ∀ (vs : List Value) (W : World) (i : Nat), (setAll W b i vs).heap.size = W.heap.size
  | [], _, _ => rfl
  | v :: vs, W, i => by unfold setAll; rw [size_setAll b vs]; simp [World.setCell]
theorem setAll_other (b : Nat) : ∀ (vs : List Value) (W : World) (i j : Nat), j < i → (setAll W b i vs).cell? ⟨b, j, none⟩ = W.cell? ⟨b, j, none⟩
  | [], _, _, _, _ => rfl
  | v :: vs, W, i, j, h => by
    unfold setAll
    rw [setAll_other b vs _ (i + 1) j (by omega), World.cell?_setCell_other _ _ _ _ (by simp <;> omega)]
theorem setAll_frozen (b : Nat) : ∀ (vs : List Value) (W : World) (i j : Nat), (setAll W b i vs).frozen? ⟨b, j, none⟩ = W.frozen? ⟨b, j, none⟩
  | [], _, _, _ => rfl
  | v :: vs, W, i, j => by unfold setAll; rw [setAll_frozen b vs]; simp
theorem CellsAt.set {b : Nat} : ∀ {us vs : List Value} {W : World} {i : Nat}, CellsAt W b i us → us.length = vs.length → CellsAt (setAll W b i vs) b i vs
  | [], [], _, _, _, _ => trivial
  | [], _ :: _, _, _, _, h => by simp at h
  | _ :: _, [], _, _, _, h => by simp at h
  | u :: us, v :: vs, W, i, hc, h => by
    have hn : CellsAt (W.setCell ⟨b, i, none⟩ v) b (i + 1) us := by
      have go : ∀ (l : List Value) (k : Nat), i < k → CellsAt W b k l → CellsAt (W.setCell ⟨b, i, none⟩ v) b k l := by
        intro l
        induction l with
        | nil => intro _ _ _; trivial
        | cons x l ih =>
          intro k hk hl
          exact ⟨by rw [World.cell?_setCell_other _ _ _ _ (by simp <;> omega)]; exact hl.1, by simpa using hl.2.1, ih (k + 1) (by omega) hl.2.2⟩
      exact go us (i + 1) (by omega) hc.2.2
    refine ⟨?_, ?_, CellsAt.set hn (by simpa using h)⟩
    · show (setAll (W.setCell ⟨b, i, none⟩ v) b (i + 1) vs).cell? ⟨b, i, none⟩ = some v
      rw [setAll_other b vs _ (i + 1) i (by omega)]
      exact World.cell?_setCell_same _ _ _ hc.1
    · show (setAll (W.setCell ⟨b, i, none⟩ v) b (i + 1) vs).frozen? ⟨b, i, none⟩ = false
      rw [setAll_frozen]
      simpa using hc.2.1
theorem Blk.self {W : World} {b : Nat} {us : List Value} (h : Blk W b us) (vs : List Value) (hl : us.length = vs.length) : Blk (setAll W b 0 vs) b vs :=
  ⟨by rw [size_setAll]; exact h.lt, h.cs.set hl⟩
theorem Blk.farAll {W : World} {b : Nat} {us : List Value} (h : Blk W b us) {b' : Nat} (hne : b' ≠ b) : ∀ (vs : List Value) (i : Nat), Blk (setAll W b' i vs) b us := by
  intro vs
  induction vs generalizing W with
  | nil => intro i; exact h
  | cons v vs ih => intro i; exact ih (h.far hne i v) (i + 1)
theorem Blk.new1 (W : World) (u : Value) (t : TypeId) : Blk (W.alloc (.cells #[u] t)) W.heap.size [u] := ⟨by simp, by simp, by simp, trivial⟩
theorem Blk.new2 (W : World) (u v : Value) (t : TypeId) : Blk (W.alloc (.cells #[u, v] t)) W.heap.size [u, v] := ⟨by simp, by simp, by simp, by simp, by simp, trivial⟩
theorem Blk.new3 (W : World) (u v x : Value) (t : TypeId) : Blk (W.alloc (.cells #[u, v, x] t)) W.heap.size [u, v, x] := ⟨by simp, by simp, by simp, by simp, by simp, by simp, by simp, trivial⟩
theorem Blk.new4 (W : World) (u v x y : Value) (t : TypeId) : Blk (W.alloc (.cells #[u, v, x, y] t)) W.heap.size [u, v, x, y] := ⟨by simp, by simp, by simp, by simp, by simp, by simp, by simp, by simp, by simp, trivial⟩
theorem Blk.one {W : World} {b : Nat} {u : Value} (h : Blk W b [u]) : b < W.heap.size ∧ W.cell? ⟨b, 0, none⟩ = some u ∧ W.frozen? ⟨b, 0, none⟩ = false := ⟨h.lt, h.cs.1, h.cs.2.1⟩
theorem Blk.two {W : World} {b : Nat} {u v : Value} (h : Blk W b [u, v]) : b < W.heap.size ∧ W.cell? ⟨b, 0, none⟩ = some u ∧ W.cell? ⟨b, 1, none⟩ = some v ∧ W.frozen? ⟨b, 0, none⟩ = false ∧ W.frozen? ⟨b, 1, none⟩ = false :=
  ⟨h.lt, h.cs.1, h.cs.2.2.1, h.cs.2.1, h.cs.2.2.2.1⟩
theorem Blk.three {W : World} {b : Nat} {u v x : Value} (h : Blk W b [u, v, x]) : b < W.heap.size ∧ W.cell? ⟨b, 0, none⟩ = some u ∧ W.cell? ⟨b, 1, none⟩ = some v ∧ W.cell? ⟨b, 2, none⟩ = some x ∧ W.frozen? ⟨b, 0, none⟩ = false ∧ W.frozen? ⟨b, 1, none⟩ = false ∧ W.frozen? ⟨b, 2, none⟩ = false :=
  ⟨h.lt, h.cs.1, h.cs.2.2.1, h.cs.2.2.2.2.1, h.cs.2.1, h.cs.2.2.2.1, h.cs.2.2.2.2.2.1⟩
theorem Blk.four {W : World} {b : Nat} {u v x y : Value} (h : Blk W b [u, v, x, y]) : b < W.heap.size ∧ W.cell? ⟨b, 0, none⟩ = some u ∧ W.cell? ⟨b, 1, none⟩ = some v ∧ W.cell? ⟨b, 2, none⟩ = some x ∧ W.cell? ⟨b, 3, none⟩ = some y ∧ W.frozen? ⟨b, 0, none⟩ = false ∧ W.frozen? ⟨b, 1, none⟩ = false ∧ W.frozen? ⟨b, 2, none⟩ = false ∧ W.frozen? ⟨b, 3, none⟩ = false :=
  ⟨h.lt, h.cs.1, h.cs.2.2.1, h.cs.2.2.2.2.1, h.cs.2.2.2.2.2.2.1, h.cs.2.1, h.cs.2.2.2.1, h.cs.2.2.2.2.2.1, h.cs.2.2.2.2.2.2.2.1⟩
theorem Blk.self1 {W : World} {b : Nat} {u : Value} (h : Blk W b [u]) (x : Value) : Blk (W.setCell ⟨b, 0, none⟩ x) b [x] := h.self [x] rfl
theorem Blk.self3 {W : World} {b : Nat} {u v t : Value} (h : Blk W b [u, v, t]) (x y z : Value) : Blk (((W.setCell ⟨b, 0, none⟩ x).setCell ⟨b, 1, none⟩ y).setCell ⟨b, 2, none⟩ z) b [x, y, z] := h.self [x, y, z] rfl
theorem Blk.self4 {W : World} {b : Nat} {u v t r : Value} (h : Blk W b [u, v, t, r]) (x y z k : Value) : Blk ((((W.setCell ⟨b, 0, none⟩ x).setCell ⟨b, 1, none⟩ y).setCell ⟨b, 2, none⟩ z).setCell ⟨b, 3, none⟩ k) b [x, y, z, k] := h.self [x, y, z, k] rfl
structure BK (w : World) (L : List (Nat × List Value)) (W : World) : Prop where
  al : ∀ x ∈ L, Blk W x.1 x.2
  hb : Below w.heap.size w W
structure KeptB (lo : Nat) (K : World → Prop) : Prop where
  below : ∀ W W', K W → Below W.heap.size W W' → K W'
  set : ∀ W b o v, K W → lo < b → K (W.setCell ⟨b, o, none⟩ v)
theorem KeptB.setAll {lo : Nat} {K : World → Prop} (h : KeptB lo K) {b : Nat} (hb : lo < b) : ∀ (vs : List Value) (W : World) (i : Nat), K W → K (setAll W b i vs)
  | [], _, _, hk => hk
  | v :: vs, W, i, hk => h.setAll hb vs _ (i + 1) (h.set W b i v hk hb)
section
variable {w W W' : World} {L : List (Nat × List Value)}
theorem BK.below (h : BK w L W) (k : Below W.heap.size W W') : BK w L W' := ⟨fun x hx => (h.al x hx).below k, below_thru h.hb k⟩
theorem BK.drew (h : BK w L W) : BK w L W.drew := h.below (Below.refl _ _).drew
theorem BK.nil (w : World) : BK w [] w := ⟨fun x hx => absurd hx (by simp), Below.refl _ _⟩
theorem BK.cons (h : BK w L W) {g : Nat} {vs : List Value} (p : Blk W g vs) : BK w ((g, vs) :: L) W :=
  ⟨fun x hx => by
    rcases List.mem_cons.1 hx with rfl | hx
    · exact p
    · exact h.al x hx, h.hb⟩
theorem BK.more2 (h : BK w L W) (u v : Value) (t : TypeId) : BK w ((W.heap.size, [u, v]) :: L) (W.alloc (.cells #[u, v] t)) := (h.below (below_box _ _)).cons (Blk.new2 _ _ _ _)
theorem BK.more3 (h : BK w L W) (u v x : Value) (t : TypeId) : BK w ((W.heap.size, [u, v, x]) :: L) (W.alloc (.cells #[u, v, x] t)) := (h.below (below_box _ _)).cons (Blk.new3 _ _ _ _ _)
theorem BK.more4 (h : BK w L W) (u v x y : Value) (t : TypeId) : BK w ((W.heap.size, [u, v, x, y]) :: L) (W.alloc (.cells #[u, v, x, y] t)) := (h.below (below_box _ _)).cons (Blk.new4 _ _ _ _ _ _)
theorem BK.head {g : Nat} {vs : List Value} (h : BK w ((g, vs) :: L) W) : Blk W g vs := h.al (g, vs) (List.mem_cons_self ..)
theorem BK.tail {x : Nat × List Value} (h : BK w (x :: L) W) : BK w L W := ⟨fun y hy => h.al y (List.mem_cons_of_mem _ hy), h.hb⟩
theorem BK.kept (w : World) (L : List (Nat × List Value)) (lo : Nat) (h : ∀ x ∈ L, x.1 ≤ lo) (hl : w.heap.size ≤ lo) : KeptB lo (BK w L) :=
  ⟨fun _ _ h k => h.below k, fun W b o v h' hlt => ⟨fun x hx => (h'.al x hx).far (by have := h x hx; omega) o v, h'.hb.setCell (p := ⟨b, o, none⟩) (by show _ ≤ b; omega) v⟩⟩
theorem BK.put {g : Nat} {us : List Value} (h : BK w ((g, us) :: L) W) (hg : w.heap.size ≤ g) (ne : ∀ x ∈ L, g ≠ x.1) (vs : List Value) (hl : us.length = vs.length) : BK w ((g, vs) :: L) (setAll W g 0 vs) :=
  have hB : ∀ (vs : List Value) (W : World) (i : Nat), Below w.heap.size w W → Below w.heap.size w (setAll W g i vs) := by
    intro vs
    induction vs with
    | nil => intro _ _ h; exact h
    | cons v vs ih => intro W i h; exact ih _ _ (h.setCell (p := ⟨g, i, none⟩) (by show _ ≤ g; omega) v)
  ⟨fun x hx => by
    rcases List.mem_cons.1 hx with rfl | hx
    · exact h.head.self vs hl
    · exact (h.al x (List.mem_cons_of_mem _ hx)).farAll (ne x hx) vs 0, hB vs W 0 h.hb⟩
end
structure PreB (lo : Nat) (K : World → Prop) (zs : List Value) (W : World) (L : List Nat) : Prop where
  keep : KeptB lo K
  k : K W
  lt : lo < W.heap.size
  al : ∀ b ∈ L, Blk W b zs
  ge : ∀ b ∈ L, lo < b
  nd : L.Nodup
structure OneB (lo : Nat) (K : World → Prop) (W : World) (g : Nat) (vs : List Value) : Prop where
  keep : KeptB lo K
  k : K W
  bg : Blk W g vs
  gg : lo < g
section
variable {lo : Nat} {K : World → Prop} {zs vs us : List Value} {W W' : World} {L : List Nat} {g h : Nat} {z u v : Value} {t : TypeId}
theorem PreB.below (s : PreB lo K zs W L) (k : Below W.heap.size W W') : PreB lo K zs W' L :=
  ⟨s.keep, s.keep.below _ _ s.k k, Nat.lt_of_lt_of_le s.lt k.size, fun b hb => (s.al b hb).below k, s.ge, s.nd⟩
theorem PreB.drew (s : PreB lo K zs W L) : PreB lo K zs W.drew L := s.below (Below.refl _ _).drew
theorem PreB.made (s : PreB lo K zs W L) (o : Obj) (h : Blk (W.alloc o) W.heap.size zs) : PreB lo K zs (W.alloc o) (W.heap.size :: L) := by
  have s' := s.below (below_box W o)
  refine ⟨s.keep, s'.k, s'.lt, fun b hb => ?_, fun b hb => ?_, ?_⟩
  · rcases List.mem_cons.1 hb with rfl | hb
    · exact h
    · exact s'.al b hb
  · rcases List.mem_cons.1 hb with rfl | hb
    · exact s.lt
    · exact s.ge b hb
  · refine List.nodup_cons.2 ⟨fun h => ?_, s.nd⟩
    have := (s.al _ h).lt
    omega
end
def CutOneB (lo : Nat) (K : World → Prop) (vs : List Value) (x : Value) (W : World) : Prop := ∃ g, x = .pointer (some ⟨g, 0, none⟩) ∧ OneB lo K W g vs
theorem BK.preB {w W : World} {L : List (Nat × List Value)} (h : BK w L W) (hlt : w.heap.size < W.heap.size) (zs : List Value) :
    ∃ lo, PreB lo (BK w L) zs W [] ∧ ∀ x ∈ L, x.1 ≤ lo :=
  ⟨W.heap.size - 1, ⟨BK.kept w L _ (fun x hx => by have := (h.al x hx).lt; omega) (by omega), h, by omega, (fun b h => by cases h), (fun b h => by cases h), List.nodup_nil⟩,
    fun x hx => by have := (h.al x hx).lt; omega⟩
theorem behindB {lo b : Nat} (h : lo < b) {a : Nat} (ha : a ≤ lo) : b ≠ a ∧ b + 1 ≠ a := by omega
end Go.Proofs.YtmhpnmlgfdomkaaGreatDoor
namespace Go.Proofs.YtmhpnmlgfdomkaaGreatDoor
open Go.RowKit
section
variable {w W W' : World} {L : List (Nat × List Value)} {M : List (Bool × Option Addr × Nat × Nat × Int)}
end
end Go.Proofs.YtmhpnmlgfdomkaaGreatDoor
