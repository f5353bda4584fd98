/- Two blocks for numbers that a statement makes anywhere among its calls (a short assignment of a call with two numbers): what stands meanwhile, whatever else is kept. -/
import Derived.Test.YtnopgdheffnfdaaSub
namespace Go.Proofs.Ytnopgdheffnfdaa
open Go.RowKit

theorem below_alloc2 (W : World) (o : Obj) : Below W.heap.size W (W.alloc o) := (Below.refl _ _).alloc (Nat.le_refl _) o

/-- K is kept by calls, and by a number's store into a block of numbers behind lo. -/
structure Kept (lo : Nat) (K : World → Prop) : Prop where
  below : ∀ W W', K W → Below W.heap.size W W' → K W'
  set2 : ∀ W b p v r u, K W → Box W b p v → lo < b → K ((W.setCell ⟨b, 0, none⟩ (.bool r)).setCell ⟨b, 1, none⟩ u)

/-- L: the blocks made so far, the last one first. -/
structure PreD (lo : Nat) (K : World → Prop) (W : World) (L : List Nat) : Prop where
  keep : Kept lo K
  k : K W
  lt : lo < W.heap.size
  al : ∀ b ∈ L, Box W b false (.slice none 0 0)
  ge : ∀ b ∈ L, lo < b
  nd : L.Nodup
/-- both blocks hold their numbers -/
structure DivD (lo : Nat) (K : World → Prop) (W : World) (g h : Nat) (pq : Bool) (Aq : Option Addr) (nq cq : Nat) (Q : Int) (pr : Bool) (Ar : Option Addr) (nr cr : Nat) (R : Int) : Prop where
  keep : Kept lo K
  k : K W
  bq : Box W g pq (.slice Aq nq cq)
  br : Box W h pr (.slice Ar nr cr)
  zq : Zs W pq Aq nq cq Q
  zr : Zs W pr Ar nr cr R
  gg : lo < g
  gh : lo < h
  ne : g ≠ h
section
variable {lo : Nat} {K : World → Prop} {W W' : World} {L : List Nat} {g h : Nat} {pq : Bool} {Aq : Option Addr} {nq cq : Nat} {Q : Int} {pr : Bool} {Ar : Option Addr} {nr cr : Nat} {R : Int}
theorem PreD.below (s : PreD lo K W L) (k : Below W.heap.size W W') : PreD lo K W' L :=
  ⟨s.keep, s.keep.below _ _ s.k k, Nat.lt_of_lt_of_le s.lt k.size, fun b hb => (s.al b hb).below' k, s.ge, s.nd⟩
theorem PreD.drew (s : PreD lo K W L) : PreD lo K W.drew L := s.below (Below.refl _ _).drew
theorem PreD.alloc1 (s : PreD lo K W L) : PreD lo K (W.alloc (.cells #[.bool false, .slice none 0 0] 38)) (W.heap.size :: L) := by
  have s' := s.below (below_alloc2 W (.cells #[.bool false, .slice none 0 0] 38))
  refine ⟨s.keep, s'.k, s'.lt, fun b hb => ?_, fun b hb => ?_, ?_⟩
  · rcases List.mem_cons.1 hb with rfl | hb
    · exact Box.new _ _ _ _
    · exact s'.al b hb
  · rcases List.mem_cons.1 hb with rfl | hb
    · exact s.lt
    · exact s.ge b hb
  · refine List.nodup_cons.2 ⟨fun h => ?_, s.nd⟩
    have := (s.al _ h).lt
    omega
theorem PreD.alloc2 (s : PreD lo K W L) : PreD lo K ((W.alloc (.cells #[.bool false, .slice none 0 0] 38)).alloc (.cells #[.bool false, .slice none 0 0] 38)) ((W.heap.size + 1) :: W.heap.size :: L) := by
  have := s.alloc1.alloc1
  rwa [World.size_alloc] at this
theorem DivD.below (s : DivD lo K W g h pq Aq nq cq Q pr Ar nr cr R) (k : Below W.heap.size W W') : DivD lo K W' g h pq Aq nq cq Q pr Ar nr cr R :=
  ⟨s.keep, s.keep.below _ _ s.k k, s.bq.below' k, s.br.below' k, s.zq.below k, s.zr.below k, s.gg, s.gh, s.ne⟩
theorem DivD.setQ (s : DivD lo K W g h pq Aq nq cq Q pr Ar nr cr R) {t : Bool} {C : Option Addr} {k f : Nat} {z : Int} (hz : Zs W t C k f z) :
    DivD lo K ((W.setCell ⟨g, 0, none⟩ (.bool t)).setCell ⟨g, 1, none⟩ (.slice C k f)) g h t C k f z pr Ar nr cr R :=
  ⟨s.keep, s.keep.set2 _ _ _ _ _ _ s.k s.bq s.gg, s.bq.self2 _ _, s.br.far2 s.ne _ _, hz.set2 s.bq.c0 _ _, s.zr.set2 s.bq.c0 _ _, s.gg, s.gh, s.ne⟩
theorem DivD.setR (s : DivD lo K W g h pq Aq nq cq Q pr Ar nr cr R) {t : Bool} {C : Option Addr} {k f : Nat} {z : Int} (hz : Zs W t C k f z) :
    DivD lo K ((W.setCell ⟨h, 0, none⟩ (.bool t)).setCell ⟨h, 1, none⟩ (.slice C k f)) g h pq Aq nq cq Q t C k f z :=
  ⟨s.keep, s.keep.set2 _ _ _ _ _ _ s.k s.br s.gh, s.bq.far2 (Ne.symm s.ne) _ _, s.br.self2 _ _, s.zq.set2 s.br.c0 _ _, hz.set2 s.br.c0 _ _, s.gg, s.gh, s.ne⟩
theorem PreD.fin1 (s : PreD lo K W L) (hg : g ∈ L) (hh : h ∈ L) (ne : g ≠ h) (zq : Zs W pq Aq nq cq Q) (zr : Zs W pr Ar nr cr R) :
    DivD lo K ((((W.setCell ⟨g, 0, none⟩ (.bool pq)).setCell ⟨g, 1, none⟩ (.slice Aq nq cq)).setCell ⟨h, 0, none⟩ (.bool pr)).setCell ⟨h, 1, none⟩ (.slice Ar nr cr)) g h pq Aq nq cq Q pr Ar nr cr R :=
  have s0 : DivD lo K W g h false none 0 0 0 false none 0 0 0 := ⟨s.keep, s.k, s.al g hg, s.al h hh, Zs.zero W, Zs.zero W, s.ge g hg, s.ge h hh, ne⟩
  (s0.setQ zq).setR (zr.set2 (s.al g hg).c0 _ _)
theorem PreD.fin1a (s : PreD lo K W [h, g]) (zq : Zs W pq Aq nq cq Q) (zr : Zs W pr Ar nr cr R) :
    DivD lo K ((((W.setCell ⟨g, 0, none⟩ (.bool pq)).setCell ⟨g, 1, none⟩ (.slice Aq nq cq)).setCell ⟨h, 0, none⟩ (.bool pr)).setCell ⟨h, 1, none⟩ (.slice Ar nr cr)) g h pq Aq nq cq Q pr Ar nr cr R :=
  s.fin1 (by simp) (by simp) (fun e => (List.nodup_cons.1 s.nd).1 (by simp [e])) zq zr
theorem PreD.fin1b (s : PreD lo K W [g, h]) (zq : Zs W pq Aq nq cq Q) (zr : Zs W pr Ar nr cr R) :
    DivD lo K ((((W.setCell ⟨g, 0, none⟩ (.bool pq)).setCell ⟨g, 1, none⟩ (.slice Aq nq cq)).setCell ⟨h, 0, none⟩ (.bool pr)).setCell ⟨h, 1, none⟩ (.slice Ar nr cr)) g h pq Aq nq cq Q pr Ar nr cr R :=
  s.fin1 (by simp) (by simp) (fun e => (List.nodup_cons.1 s.nd).1 (by simp [e])) zq zr
theorem size_setq (W : World) (b : Nat) (u v : Value) : ((W.setCell ⟨b, 0, none⟩ u).setCell ⟨b, 1, none⟩ v).heap.size = W.heap.size := by simp [World.setCell]
theorem PreD.fin2a (s : PreD lo K W [g]) (zq : Zs W pq Aq nq cq Q) (zr : Zs W pr Ar nr cr R) :
    DivD lo K (((W.setCell ⟨g, 0, none⟩ (.bool pq)).setCell ⟨g, 1, none⟩ (.slice Aq nq cq)).alloc (.cells #[.bool pr, .slice Ar nr cr] 38)) g W.heap.size pq Aq nq cq Q pr Ar nr cr R := by
  have bx := s.al g (by simp)
  have h1 := bx.lt
  have k := below_alloc2 ((W.setCell ⟨g, 0, none⟩ (.bool pq)).setCell ⟨g, 1, none⟩ (.slice Aq nq cq)) (.cells #[.bool pr, .slice Ar nr cr] 38)
  have nb := Box.new ((W.setCell ⟨g, 0, none⟩ (.bool pq)).setCell ⟨g, 1, none⟩ (.slice Aq nq cq)) pr (.slice Ar nr cr) 38
  rw [size_setq] at nb
  exact ⟨s.keep, s.keep.below _ _ (s.keep.set2 _ _ _ _ _ _ s.k bx (s.ge g (by simp))) k, (bx.self2 _ _).below' k, nb, (zq.set2 bx.c0 _ _).below k, (zr.set2 bx.c0 _ _).below k, s.ge g (by simp), s.lt, by omega⟩
theorem PreD.fin2b (s : PreD lo K W [h]) (zq : Zs W pq Aq nq cq Q) (zr : Zs W pr Ar nr cr R) :
    DivD lo K (((W.setCell ⟨h, 0, none⟩ (.bool pr)).setCell ⟨h, 1, none⟩ (.slice Ar nr cr)).alloc (.cells #[.bool pq, .slice Aq nq cq] 38)) W.heap.size h pq Aq nq cq Q pr Ar nr cr R := by
  have bx := s.al h (by simp)
  have h1 := bx.lt
  have k := below_alloc2 ((W.setCell ⟨h, 0, none⟩ (.bool pr)).setCell ⟨h, 1, none⟩ (.slice Ar nr cr)) (.cells #[.bool pq, .slice Aq nq cq] 38)
  have nb := Box.new ((W.setCell ⟨h, 0, none⟩ (.bool pr)).setCell ⟨h, 1, none⟩ (.slice Ar nr cr)) pq (.slice Aq nq cq) 38
  rw [size_setq] at nb
  exact ⟨s.keep, s.keep.below _ _ (s.keep.set2 _ _ _ _ _ _ s.k bx (s.ge h (by simp))) k, nb, (bx.self2 _ _).below' k, (zq.set2 bx.c0 _ _).below k, (zr.set2 bx.c0 _ _).below k, s.lt, s.ge h (by simp), by omega⟩
theorem PreD.fin3a (s : PreD lo K W L) (zq : Zs W pq Aq nq cq Q) (zr : Zs W pr Ar nr cr R) :
    DivD lo K ((W.alloc (.cells #[.bool pq, .slice Aq nq cq] 38)).alloc (.cells #[.bool pr, .slice Ar nr cr] 38)) W.heap.size (W.heap.size + 1) pq Aq nq cq Q pr Ar nr cr R := by
  have k := below_next (below_alloc2 W (.cells #[.bool pq, .slice Aq nq cq] 38)) (below_alloc2 _ (.cells #[.bool pr, .slice Ar nr cr] 38))
  have n1 := (Box.new W pq (.slice Aq nq cq) 38).alloc (.cells #[.bool pr, .slice Ar nr cr] 38)
  have n2 := Box.new (W.alloc (.cells #[.bool pq, .slice Aq nq cq] 38)) pr (.slice Ar nr cr) 38
  rw [World.size_alloc] at n2
  exact ⟨s.keep, s.keep.below _ _ s.k k, n1, n2, zq.below k, zr.below k, s.lt, by have := s.lt; omega, by omega⟩
theorem PreD.fin3b (s : PreD lo K W L) (zq : Zs W pq Aq nq cq Q) (zr : Zs W pr Ar nr cr R) :
    DivD lo K ((W.alloc (.cells #[.bool pr, .slice Ar nr cr] 38)).alloc (.cells #[.bool pq, .slice Aq nq cq] 38)) (W.heap.size + 1) W.heap.size pq Aq nq cq Q pr Ar nr cr R := by
  have k := below_next (below_alloc2 W (.cells #[.bool pr, .slice Ar nr cr] 38)) (below_alloc2 _ (.cells #[.bool pq, .slice Aq nq cq] 38))
  have n1 := (Box.new W pr (.slice Ar nr cr) 38).alloc (.cells #[.bool pq, .slice Aq nq cq] 38)
  have n2 := Box.new (W.alloc (.cells #[.bool pr, .slice Ar nr cr] 38)) pq (.slice Aq nq cq) 38
  rw [World.size_alloc] at n2
  exact ⟨s.keep, s.keep.below _ _ s.k k, n2, n1, zq.below k, zr.below k, by have := s.lt; omega, s.lt, by omega⟩
end
/-- What holds behind such a statement: the two variables point to the blocks. -/
def DivCutD (lo : Nat) (K : World → Prop) (Q R : Int) (v v' : Value) (W : World) : Prop :=
  ∃ (g h : Nat) (pq : Bool) (Aq : Option Addr) (nq cq : Nat) (pr : Bool) (Ar : Option Addr) (nr cr : Nat), v = .pointer (some ⟨g, 0, none⟩) ∧ v' = .pointer (some ⟨h, 0, none⟩) ∧ DivD lo K W g h pq Aq nq cq Q pr Ar nr cr R

/-- a block behind lo is none of the first ones -/
theorem behind {lo b : Nat} (h : lo < b) (a : Nat) (ha : a ≤ lo) : b ≠ a ∧ b + 1 ≠ a := by omega
end Go.Proofs.Ytnopgdheffnfdaa
