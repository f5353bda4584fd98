import Derived.Test.YtkkdclibbdeejaaDoorXGa
import Derived.Deep.RegionWith
import Derived.Laws.MakeOwn
import Derived.Deep.DeepCutAuto
import Derived.Laws.Shifts
set_option maxRecDepth 100000
set_option maxHeartbeats 64000000
namespace Go.Proofs.YtkkdclibbdeejaaDoor
open Go.RowKit
structure Row (w : World) (g : Nat) (l : List Nat) : Prop where
  lt : g < w.heap.size
  dig : Dig l
  cells : ∀ j, j < l.length → w.cell? ⟨g, j, none⟩ = some (.int .i64 (l.getD j 0 : Nat))
  frz : ∀ j, w.frozen? ⟨g, j, none⟩ = false
theorem Row.drew {w : World} {g : Nat} {l : List Nat} (h : Row w g l) (k : Nat) : Row (w.drewN k) g l := ⟨h.lt, h.dig, h.cells, h.frz⟩
theorem Row.set {w : World} {g : Nat} {l : List Nat} (h : Row w g l) {i d : Nat} (hi : i < l.length) (hd : d < 65536) : Row (w.setCell ⟨g, i, none⟩ (.int .i64 (d : Int))) g (l.set i d) := by
  refine ⟨by simpa [World.setCell] using h.lt, h.dig.set hd, fun j hj => ?_, fun j => by simp [h.frz]⟩
  by_cases e : i = j
  · subst e
    rw [World.cell?_setCell_same _ _ _ (h.cells i hi)]
    simp [hi]
  · rw [World.cell?_setCell_other _ _ _ _ (fun e' => e (congrArg Addr.off e'))]
    rw [h.cells j (by simpa using hj)]
    simp [List.getD_eq_getElem?_getD, e]
theorem Row.ds {w : World} {g : Nat} {l : List Nat} (h : Row w g l) (hl : l.length ≤ 1000000) : Ds w (some ⟨g, 0, none⟩) l.length l.length l :=
  ⟨rfl, Nat.le_refl _, by unfold maxLen; omega, h.dig, fun _ => ⟨g, rfl, h.lt, h.cells⟩⟩
def RetQR (w : World) (q r : Int) (e : Ending) (w' : World) : Prop :=
  ∃ p A n c s B m d, e = .returned (.tuple #[.agg #[.bool p, .slice A n c], .agg #[.bool s, .slice B m d]]) ∧ Zs w' p A n c q ∧ Zs w' s B m d r ∧ Below w.heap.size w w'
structure LongSt (w W : World) (A : Option Addr) (n c : Nat) (x : Int) (B : Option Addr) (m d : Nat) (y : Int) (pq : Bool) (Aq : Option Addr) (nq cq : Nat) (Q : Int) (pr : Bool) (Ar : Option Addr) (nr cr : Nat) (R : Int) : Prop where
  ba : Box W w.heap.size false (.slice A n c)
  bb : Box W (w.heap.size + 1) false (.slice B m d)
  b1 : Box W (w.heap.size + 1 + 1) false (.slice none 0 0)
  b2 : Box W (w.heap.size + 1 + 1 + 1) false (.slice none 0 0)
  bq : Box W (w.heap.size + 1 + 1 + 1 + 1) pq (.slice Aq nq cq)
  br : Box W (w.heap.size + 1 + 1 + 1 + 1 + 1) pr (.slice Ar nr cr)
  za : Zs W false A n c x
  zb : Zs W false B m d y
  zq : Zs W pq Aq nq cq Q
  zr : Zs W pr Ar nr cr R
  hb : Below w.heap.size w W
section
variable {w W W' : World} {A : Option Addr} {n c : Nat} {x : Int} {B : Option Addr} {m d : Nat} {y : Int} {pq : Bool} {Aq : Option Addr} {nq cq : Nat} {Q : Int} {pr : Bool} {Ar : Option Addr} {nr cr : Nat} {R : Int}
theorem LongSt.below (h : LongSt w W A n c x B m d y pq Aq nq cq Q pr Ar nr cr R) (k : Below W.heap.size W W') : LongSt w W' A n c x B m d y pq Aq nq cq Q pr Ar nr cr R :=
  ⟨h.ba.below' k, h.bb.below' k, h.b1.below' k, h.b2.below' k, h.bq.below' k, h.br.below' k, h.za.below k, h.zb.below k, h.zq.below k, h.zr.below k, below_next h.hb k⟩
theorem LongSt.drew (h : LongSt w W A n c x B m d y pq Aq nq cq Q pr Ar nr cr R) : LongSt w W.drew A n c x B m d y pq Aq nq cq Q pr Ar nr cr R := h.below (Below.refl _ _).drew
theorem LongSt.done (h : LongSt w W A n c x B m d y pq Aq nq cq Q pr Ar nr cr R) :
    RetQR w Q R (.returned (.tuple #[.agg #[.bool pq, .slice Aq nq cq], .agg #[.bool pr, .slice Ar nr cr]])) (((((W.setCell ⟨w.heap.size + 1 + 1, 0, none⟩ (.bool pq)).setCell ⟨w.heap.size + 1 + 1, 1, none⟩ (.slice Aq nq cq)).setCell ⟨w.heap.size + 1 + 1 + 1, 0, none⟩ (.bool pr)).setCell ⟨w.heap.size + 1 + 1 + 1, 1, none⟩ (.slice Ar nr cr)).drew) := by
  have h2 := h.b2.far2 (b' := w.heap.size + 1 + 1) (by omega) (.bool pq) (.slice Aq nq cq)
  refine ⟨pq, Aq, nq, cq, pr, Ar, nr, cr, rfl, ((h.zq.set2 h.b1.c0 pq _).set2 h2.c0 pr _).drew, ((h.zr.set2 h.b1.c0 pq _).set2 h2.c0 pr _).drew, ?_⟩
  have k1 : w.heap.size ≤ w.heap.size + 1 + 1 := by omega
  have k2 : w.heap.size ≤ w.heap.size + 1 + 1 + 1 := by omega
  exact ((((h.hb.setCell (p := ⟨w.heap.size + 1 + 1, 0, none⟩) k1 _).setCell (p := ⟨w.heap.size + 1 + 1, 1, none⟩) k1 _).setCell (p := ⟨w.heap.size + 1 + 1 + 1, 0, none⟩) k2 _).setCell (p := ⟨w.heap.size + 1 + 1 + 1, 1, none⟩) k2 _).drew
end
end Go.Proofs.YtkkdclibbdeejaaDoor
namespace Go.Proofs.YtkkdclibbdeejaaDoor
open Go.RowKit
structure PreSt (w W : World) (L : List Nat) (p : Bool) (A : Option Addr) (n c : Nat) (x : Int) (q : Bool) (B : Option Addr) (m d : Nat) (y : Int) : Prop where
  ba : Box W w.heap.size p (.slice A n c)
  bb : Box W (w.heap.size + 1) q (.slice B m d)
  b1 : Box W (w.heap.size + 1 + 1) false (.slice none 0 0)
  b2 : Box W (w.heap.size + 1 + 1 + 1) false (.slice none 0 0)
  zx : Zs W p A n c x
  zy : Zs W q B m d y
  hb : Below w.heap.size w W
  al : ∀ b ∈ L, Box W b false (.slice none 0 0)
  ge : ∀ b ∈ L, w.heap.size + 1 + 1 + 1 < b
  nd : L.Nodup
structure DivSt (w W : World) (g h : Nat) (p : Bool) (A : Option Addr) (n c : Nat) (q : Bool) (B : Option Addr) (m d : Nat) (y : Int) (pq : Bool) (Aq : Option Addr) (nq cq : Nat) (Q : Int) (pr : Bool) (Ar : Option Addr) (nr cr : Nat) (R : Int) : Prop where
  ba : Box W w.heap.size p (.slice A n c)
  bb : Box W (w.heap.size + 1) q (.slice B m d)
  b1 : Box W (w.heap.size + 1 + 1) false (.slice none 0 0)
  b2 : Box W (w.heap.size + 1 + 1 + 1) false (.slice none 0 0)
  bq : Box W g pq (.slice Aq nq cq)
  br : Box W h pr (.slice Ar nr cr)
  zy : Zs W q B m d y
  zq : Zs W pq Aq nq cq Q
  zr : Zs W pr Ar nr cr R
  hb : Below w.heap.size w W
  gg : w.heap.size + 1 + 1 + 1 < g
  gh : w.heap.size + 1 + 1 + 1 < h
  ne : g ≠ h
section
variable {w W W' : World} {L : List Nat} {p : Bool} {A : Option Addr} {n c : Nat} {x : Int} {q : Bool} {B : Option Addr} {m d : Nat} {y : Int}
theorem PreSt.below (s : PreSt w W L p A n c x q B m d y) (k : Below W.heap.size W W') : PreSt w W' L p A n c x q B m d y :=
  ⟨s.ba.below' k, s.bb.below' k, s.b1.below' k, s.b2.below' k, s.zx.below k, s.zy.below k, below_next s.hb k, fun b hb => (s.al b hb).below' k, s.ge, s.nd⟩
theorem PreSt.drew (s : PreSt w W L p A n c x q B m d y) : PreSt w W.drew L p A n c x q B m d y := s.below (Below.refl _ _).drew
variable {g h : Nat} {pq : Bool} {Aq : Option Addr} {nq cq : Nat} {Q : Int} {pr : Bool} {Ar : Option Addr} {nr cr : Nat} {R : Int}
theorem DivSt.below (s : DivSt w W g h p A n c q B m d y pq Aq nq cq Q pr Ar nr cr R) (k : Below W.heap.size W W') : DivSt w W' g h p A n c q B m d y pq Aq nq cq Q pr Ar nr cr R :=
  ⟨s.ba.below' k, s.bb.below' k, s.b1.below' k, s.b2.below' k, s.bq.below' k, s.br.below' k, s.zy.below k, s.zq.below k, s.zr.below k, below_next s.hb k, s.gg, s.gh, s.ne⟩
theorem DivSt.done (s : DivSt w W g h p A n c q B m d y pq Aq nq cq Q pr Ar nr cr R) :
    RetQR w Q R (.returned (.tuple #[.agg #[.bool pq, .slice Aq nq cq], .agg #[.bool pr, .slice Ar nr cr]])) (((((W.setCell ⟨w.heap.size + 1 + 1, 0, none⟩ (.bool pq)).setCell ⟨w.heap.size + 1 + 1, 1, none⟩ (.slice Aq nq cq)).setCell ⟨w.heap.size + 1 + 1 + 1, 0, none⟩ (.bool pr)).setCell ⟨w.heap.size + 1 + 1 + 1, 1, none⟩ (.slice Ar nr cr)).drew) := by
  have h2 := s.b2.far2 (b' := w.heap.size + 1 + 1) (by omega) (.bool pq) (.slice Aq nq cq)
  refine ⟨pq, Aq, nq, cq, pr, Ar, nr, cr, rfl, ((s.zq.set2 s.b1.c0 pq _).set2 h2.c0 pr _).drew, ((s.zr.set2 s.b1.c0 pq _).set2 h2.c0 pr _).drew, ?_⟩
  have k1 : w.heap.size ≤ w.heap.size + 1 + 1 := by omega
  have k2 : w.heap.size ≤ w.heap.size + 1 + 1 + 1 := by omega
  exact ((((s.hb.setCell (p := ⟨w.heap.size + 1 + 1, 0, none⟩) k1 _).setCell (p := ⟨w.heap.size + 1 + 1, 1, none⟩) k1 _).setCell (p := ⟨w.heap.size + 1 + 1 + 1, 0, none⟩) k2 _).setCell (p := ⟨w.heap.size + 1 + 1 + 1, 1, none⟩) k2 _).drew
end
end Go.Proofs.YtkkdclibbdeejaaDoor
namespace Go.Proofs.YtkkdclibbdeejaaDoor
open Go.RowKit
theorem below_alloc2 (W : World) (o : Obj) : Below W.heap.size W (W.alloc o) := (Below.refl _ _).alloc (Nat.le_refl _) o
structure Kept (lo : Nat) (K : World → Prop) : Prop where
  below : ∀ W W', K W → Below W.heap.size W W' → K W'
  set2 : ∀ W b p v r u, K W → Box W b p v → lo < b → K ((W.setCell ⟨b, 0, none⟩ (.bool r)).setCell ⟨b, 1, none⟩ u)
structure PreD (lo : Nat) (K : World → Prop) (W : World) (L : List Nat) : Prop where
  keep : Kept lo K
  k : K W
  lt : lo < W.heap.size
  al : ∀ b ∈ L, Box W b false (.slice none 0 0)
  ge : ∀ b ∈ L, lo < b
  nd : L.Nodup
structure DivD (lo : Nat) (K : World → Prop) (W : World) (g h : Nat) (pq : Bool) (Aq : Option Addr) (nq cq : Nat) (Q : Int) (pr : Bool) (Ar : Option Addr) (nr cr : Nat) (R : Int) : Prop where
  keep : Kept lo K
  k : K W
  bq : Box W g pq (.slice Aq nq cq)
  br : Box W h pr (.slice Ar nr cr)
  zq : Zs W pq Aq nq cq Q
  zr : Zs W pr Ar nr cr R
  gg : lo < g
  gh : lo < h
  ne : g ≠ h
section
variable {lo : Nat} {K : World → Prop} {W W' : World} {L : List Nat} {g h : Nat} {pq : Bool} {Aq : Option Addr} {nq cq : Nat} {Q : Int} {pr : Bool} {Ar : Option Addr} {nr cr : Nat} {R : Int}
theorem PreD.below (s : PreD lo K W L) (k : Below W.heap.size W W') : PreD lo K W' L :=
  ⟨s.keep, s.keep.below _ _ s.k k, Nat.lt_of_lt_of_le s.lt k.size, fun b hb => (s.al b hb).below' k, s.ge, s.nd⟩
theorem PreD.drew (s : PreD lo K W L) : PreD lo K W.drew L := s.below (Below.refl _ _).drew
theorem DivD.below (s : DivD lo K W g h pq Aq nq cq Q pr Ar nr cr R) (k : Below W.heap.size W W') : DivD lo K W' g h pq Aq nq cq Q pr Ar nr cr R :=
  ⟨s.keep, s.keep.below _ _ s.k k, s.bq.below' k, s.br.below' k, s.zq.below k, s.zr.below k, s.gg, s.gh, s.ne⟩
end
end Go.Proofs.YtkkdclibbdeejaaDoor
