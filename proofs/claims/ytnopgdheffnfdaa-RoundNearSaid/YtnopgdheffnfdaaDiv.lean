/- The call Div: the greatest whole number at most a quotient, and the rest. -/
import Derived.Test.YtnopgdheffnfdaaLong
import Derived.Deep.RegionWith
import Derived.Deep.DeepCutAuto
namespace Go.Proofs.Ytnopgdheffnfdaa
open Go.RowKit

theorem below_alloc (W : World) (o : Obj) : Below W.heap.size W (W.alloc o) := (Below.refl _ _).alloc (Nat.le_refl _) o

/-- What stands in the first statement of Div: L are the blocks made for q and r so far. -/
structure PreSt (w W : World) (L : List Nat) (p : Bool) (A : Option Addr) (n c : Nat) (x : Int) (q : Bool) (B : Option Addr) (m d : Nat) (y : Int) : Prop where
  ba : Box W w.heap.size p (.slice A n c)
  bb : Box W (w.heap.size + 1) q (.slice B m d)
  b1 : Box W (w.heap.size + 1 + 1) false (.slice none 0 0)
  b2 : Box W (w.heap.size + 1 + 1 + 1) false (.slice none 0 0)
  zx : Zs W p A n c x
  zy : Zs W q B m d y
  hb : Below w.heap.size w W
  al : ∀ b ∈ L, Box W b false (.slice none 0 0)
  ge : ∀ b ∈ L, w.heap.size + 1 + 1 + 1 < b
  nd : L.Nodup
/-- What stands behind it: g and h are the blocks of q and r. -/
structure DivSt (w W : World) (g h : Nat) (p : Bool) (A : Option Addr) (n c : Nat) (q : Bool) (B : Option Addr) (m d : Nat) (y : Int) (pq : Bool) (Aq : Option Addr) (nq cq : Nat) (Q : Int) (pr : Bool) (Ar : Option Addr) (nr cr : Nat) (R : Int) : Prop where
  ba : Box W w.heap.size p (.slice A n c)
  bb : Box W (w.heap.size + 1) q (.slice B m d)
  b1 : Box W (w.heap.size + 1 + 1) false (.slice none 0 0)
  b2 : Box W (w.heap.size + 1 + 1 + 1) false (.slice none 0 0)
  bq : Box W g pq (.slice Aq nq cq)
  br : Box W h pr (.slice Ar nr cr)
  zy : Zs W q B m d y
  zq : Zs W pq Aq nq cq Q
  zr : Zs W pr Ar nr cr R
  hb : Below w.heap.size w W
  gg : w.heap.size + 1 + 1 + 1 < g
  gh : w.heap.size + 1 + 1 + 1 < h
  ne : g ≠ h
section
variable {w W W' : World} {L : List Nat} {p : Bool} {A : Option Addr} {n c : Nat} {x : Int} {q : Bool} {B : Option Addr} {m d : Nat} {y : Int}
theorem PreSt.below (s : PreSt w W L p A n c x q B m d y) (k : Below W.heap.size W W') : PreSt w W' L p A n c x q B m d y :=
  ⟨s.ba.below' k, s.bb.below' k, s.b1.below' k, s.b2.below' k, s.zx.below k, s.zy.below k, below_next s.hb k, fun b hb => (s.al b hb).below' k, s.ge, s.nd⟩
theorem PreSt.drew (s : PreSt w W L p A n c x q B m d y) : PreSt w W.drew L p A n c x q B m d y := s.below (Below.refl _ _).drew
theorem PreSt.alloc1 (s : PreSt w W L p A n c x q B m d y) : PreSt w (W.alloc (.cells #[.bool false, .slice none 0 0] 38)) (W.heap.size :: L) p A n c x q B m d y := by
  have s' := s.below (below_alloc W (.cells #[.bool false, .slice none 0 0] 38))
  refine ⟨s'.ba, s'.bb, s'.b1, s'.b2, s'.zx, s'.zy, s'.hb, fun b hb => ?_, fun b hb => ?_, ?_⟩
  · rcases List.mem_cons.1 hb with rfl | hb
    · exact Box.new _ _ _ _
    · exact s'.al b hb
  · rcases List.mem_cons.1 hb with rfl | hb
    · exact s.b2.lt
    · exact s.ge b hb
  · refine List.nodup_cons.2 ⟨fun h => ?_, s.nd⟩
    have := (s.al _ h).lt
    omega
theorem PreSt.alloc2 (s : PreSt w W L p A n c x q B m d y) : PreSt w ((W.alloc (.cells #[.bool false, .slice none 0 0] 38)).alloc (.cells #[.bool false, .slice none 0 0] 38)) ((W.heap.size + 1) :: W.heap.size :: L) p A n c x q B m d y := by
  have := s.alloc1.alloc1
  rwa [World.size_alloc] at this
variable {g h : Nat} {pq : Bool} {Aq : Option Addr} {nq cq : Nat} {Q : Int} {pr : Bool} {Ar : Option Addr} {nr cr : Nat} {R : Int}
theorem DivSt.below (s : DivSt w W g h p A n c q B m d y pq Aq nq cq Q pr Ar nr cr R) (k : Below W.heap.size W W') : DivSt w W' g h p A n c q B m d y pq Aq nq cq Q pr Ar nr cr R :=
  ⟨s.ba.below' k, s.bb.below' k, s.b1.below' k, s.b2.below' k, s.bq.below' k, s.br.below' k, s.zy.below k, s.zq.below k, s.zr.below k, below_next s.hb k, s.gg, s.gh, s.ne⟩
theorem DivSt.setR (s : DivSt w W g h p A n c q B m d y pq Aq nq cq Q pr Ar nr cr R) {t : Bool} {C : Option Addr} {k f : Nat} {z : Int} (hz : Zs W t C k f z) :
    DivSt w ((W.setCell ⟨h, 0, none⟩ (.bool t)).setCell ⟨h, 1, none⟩ (.slice C k f)) g h p A n c q B m d y pq Aq nq cq Q t C k f z := by
  have h1 := s.gh
  have h2 := s.ne
  exact ⟨s.ba.far2 (by omega) _ _, s.bb.far2 (by omega) _ _, s.b1.far2 (by omega) _ _, s.b2.far2 (by omega) _ _, s.bq.far2 (by omega) _ _, s.br.self2 _ _, s.zy.set2 s.br.c0 _ _, s.zq.set2 s.br.c0 _ _, hz.set2 s.br.c0 _ _,
   (s.hb.setCell (p := ⟨h, 0, none⟩) (by show _ ≤ h; omega) _).setCell (p := ⟨h, 1, none⟩) (by show _ ≤ h; omega) _, s.gg, s.gh, s.ne⟩
theorem DivSt.setQ (s : DivSt w W g h p A n c q B m d y pq Aq nq cq Q pr Ar nr cr R) {t : Bool} {C : Option Addr} {k f : Nat} {z : Int} (hz : Zs W t C k f z) :
    DivSt w ((W.setCell ⟨g, 0, none⟩ (.bool t)).setCell ⟨g, 1, none⟩ (.slice C k f)) g h p A n c q B m d y t C k f z pr Ar nr cr R := by
  have h1 := s.gg
  have h2 := s.ne
  exact ⟨s.ba.far2 (by omega) _ _, s.bb.far2 (by omega) _ _, s.b1.far2 (by omega) _ _, s.b2.far2 (by omega) _ _, s.bq.self2 _ _, s.br.far2 (by omega) _ _, s.zy.set2 s.bq.c0 _ _, hz.set2 s.bq.c0 _ _, s.zr.set2 s.bq.c0 _ _,
   (s.hb.setCell (p := ⟨g, 0, none⟩) (by show _ ≤ g; omega) _).setCell (p := ⟨g, 1, none⟩) (by show _ ≤ g; omega) _, s.gg, s.gh, s.ne⟩
theorem PreSt.base (s : PreSt w W L p A n c x q B m d y) (hg : Box W g pq (.slice Aq nq cq)) (hh : Box W h pr (.slice Ar nr cr)) (gg : w.heap.size + 1 + 1 + 1 < g) (gh : w.heap.size + 1 + 1 + 1 < h) (ne : g ≠ h) (zq : Zs W pq Aq nq cq Q) (zr : Zs W pr Ar nr cr R) :
    DivSt w W g h p A n c q B m d y pq Aq nq cq Q pr Ar nr cr R := ⟨s.ba, s.bb, s.b1, s.b2, hg, hh, s.zy, zq, zr, s.hb, gg, gh, ne⟩
theorem PreSt.fin1 (s : PreSt w W L p A n c x q B m d y) (hg : g ∈ L) (hh : h ∈ L) (ne : g ≠ h) (zq : Zs W pq Aq nq cq Q) (zr : Zs W pr Ar nr cr R) :
    DivSt w ((((W.setCell ⟨g, 0, none⟩ (.bool pq)).setCell ⟨g, 1, none⟩ (.slice Aq nq cq)).setCell ⟨h, 0, none⟩ (.bool pr)).setCell ⟨h, 1, none⟩ (.slice Ar nr cr)) g h p A n c q B m d y pq Aq nq cq Q pr Ar nr cr R :=
  ((s.base (s.al g hg) (s.al h hh) (s.ge g hg) (s.ge h hh) ne (Zs.zero W) (Zs.zero W)).setQ zq).setR (zr.set2 (s.al g hg).c0 _ _)
theorem PreSt.fin1a (s : PreSt w W [h, g] p A n c x q B m d y) (zq : Zs W pq Aq nq cq Q) (zr : Zs W pr Ar nr cr R) :
    DivSt w ((((W.setCell ⟨g, 0, none⟩ (.bool pq)).setCell ⟨g, 1, none⟩ (.slice Aq nq cq)).setCell ⟨h, 0, none⟩ (.bool pr)).setCell ⟨h, 1, none⟩ (.slice Ar nr cr)) g h p A n c q B m d y pq Aq nq cq Q pr Ar nr cr R :=
  s.fin1 (by simp) (by simp) (fun e => (List.nodup_cons.1 s.nd).1 (by simp [e])) zq zr
theorem PreSt.fin1b (s : PreSt w W [g, h] p A n c x q B m d y) (zq : Zs W pq Aq nq cq Q) (zr : Zs W pr Ar nr cr R) :
    DivSt w ((((W.setCell ⟨g, 0, none⟩ (.bool pq)).setCell ⟨g, 1, none⟩ (.slice Aq nq cq)).setCell ⟨h, 0, none⟩ (.bool pr)).setCell ⟨h, 1, none⟩ (.slice Ar nr cr)) g h p A n c q B m d y pq Aq nq cq Q pr Ar nr cr R :=
  s.fin1 (by simp) (by simp) (fun e => (List.nodup_cons.1 s.nd).1 (by simp [e])) zq zr
theorem size_set2 (W : World) (b : Nat) (u v : Value) : ((W.setCell ⟨b, 0, none⟩ u).setCell ⟨b, 1, none⟩ v).heap.size = W.heap.size := by simp [World.setCell]
theorem PreSt.fin2a (s : PreSt w W [g] p A n c x q B m d y) (zq : Zs W pq Aq nq cq Q) (zr : Zs W pr Ar nr cr R) :
    DivSt w (((W.setCell ⟨g, 0, none⟩ (.bool pq)).setCell ⟨g, 1, none⟩ (.slice Aq nq cq)).alloc (.cells #[.bool pr, .slice Ar nr cr] 38)) g W.heap.size p A n c q B m d y pq Aq nq cq Q pr Ar nr cr R := by
  have bx := s.al g (by simp)
  have h1 := bx.lt
  have h3 := s.ge g (by simp)
  have k := below_alloc ((W.setCell ⟨g, 0, none⟩ (.bool pq)).setCell ⟨g, 1, none⟩ (.slice Aq nq cq)) (.cells #[.bool pr, .slice Ar nr cr] 38)
  have nb := Box.new ((W.setCell ⟨g, 0, none⟩ (.bool pq)).setCell ⟨g, 1, none⟩ (.slice Aq nq cq)) pr (.slice Ar nr cr) 38
  rw [size_set2] at nb
  exact ⟨(s.ba.far2 (by omega) _ _).below' k, (s.bb.far2 (by omega) _ _).below' k, (s.b1.far2 (by omega) _ _).below' k, (s.b2.far2 (by omega) _ _).below' k, (bx.self2 _ _).below' k, nb, (s.zy.set2 bx.c0 _ _).below k, (zq.set2 bx.c0 _ _).below k, (zr.set2 bx.c0 _ _).below k,
    below_next ((s.hb.setCell (p := ⟨g, 0, none⟩) (by show _ ≤ g; omega) _).setCell (p := ⟨g, 1, none⟩) (by show _ ≤ g; omega) _) k, h3, s.b2.lt, by omega⟩
theorem PreSt.fin2b (s : PreSt w W [h] p A n c x q B m d y) (zq : Zs W pq Aq nq cq Q) (zr : Zs W pr Ar nr cr R) :
    DivSt w (((W.setCell ⟨h, 0, none⟩ (.bool pr)).setCell ⟨h, 1, none⟩ (.slice Ar nr cr)).alloc (.cells #[.bool pq, .slice Aq nq cq] 38)) W.heap.size h p A n c q B m d y pq Aq nq cq Q pr Ar nr cr R := by
  have bx := s.al h (by simp)
  have h1 := bx.lt
  have h3 := s.ge h (by simp)
  have k := below_alloc ((W.setCell ⟨h, 0, none⟩ (.bool pr)).setCell ⟨h, 1, none⟩ (.slice Ar nr cr)) (.cells #[.bool pq, .slice Aq nq cq] 38)
  have nb := Box.new ((W.setCell ⟨h, 0, none⟩ (.bool pr)).setCell ⟨h, 1, none⟩ (.slice Ar nr cr)) pq (.slice Aq nq cq) 38
  rw [size_set2] at nb
  exact ⟨(s.ba.far2 (by omega) _ _).below' k, (s.bb.far2 (by omega) _ _).below' k, (s.b1.far2 (by omega) _ _).below' k, (s.b2.far2 (by omega) _ _).below' k, nb, (bx.self2 _ _).below' k, (s.zy.set2 bx.c0 _ _).below k, (zq.set2 bx.c0 _ _).below k, (zr.set2 bx.c0 _ _).below k,
    below_next ((s.hb.setCell (p := ⟨h, 0, none⟩) (by show _ ≤ h; omega) _).setCell (p := ⟨h, 1, none⟩) (by show _ ≤ h; omega) _) k, s.b2.lt, h3, by omega⟩
theorem PreSt.fin3a (s : PreSt w W L p A n c x q B m d y) (zq : Zs W pq Aq nq cq Q) (zr : Zs W pr Ar nr cr R) :
    DivSt w ((W.alloc (.cells #[.bool pq, .slice Aq nq cq] 38)).alloc (.cells #[.bool pr, .slice Ar nr cr] 38)) W.heap.size (W.heap.size + 1) p A n c q B m d y pq Aq nq cq Q pr Ar nr cr R := by
  have k : Below W.heap.size W ((W.alloc (.cells #[.bool pq, .slice Aq nq cq] 38)).alloc (.cells #[.bool pr, .slice Ar nr cr] 38)) := below_next (below_alloc W (.cells #[.bool pq, .slice Aq nq cq] 38)) (below_alloc _ (.cells #[.bool pr, .slice Ar nr cr] 38))
  have n1 := (Box.new W pq (.slice Aq nq cq) 38).alloc (.cells #[.bool pr, .slice Ar nr cr] 38)
  have n2 := Box.new (W.alloc (.cells #[.bool pq, .slice Aq nq cq] 38)) pr (.slice Ar nr cr) 38
  rw [World.size_alloc] at n2
  exact (s.below k).base n1 n2 s.b2.lt (by have := s.b2.lt; omega) (by omega) (zq.below k) (zr.below k)
theorem PreSt.fin3b (s : PreSt w W L p A n c x q B m d y) (zq : Zs W pq Aq nq cq Q) (zr : Zs W pr Ar nr cr R) :
    DivSt w ((W.alloc (.cells #[.bool pr, .slice Ar nr cr] 38)).alloc (.cells #[.bool pq, .slice Aq nq cq] 38)) (W.heap.size + 1) W.heap.size p A n c q B m d y pq Aq nq cq Q pr Ar nr cr R := by
  have k : Below W.heap.size W ((W.alloc (.cells #[.bool pr, .slice Ar nr cr] 38)).alloc (.cells #[.bool pq, .slice Aq nq cq] 38)) := below_next (below_alloc W (.cells #[.bool pr, .slice Ar nr cr] 38)) (below_alloc _ (.cells #[.bool pq, .slice Aq nq cq] 38))
  have n1 := (Box.new W pr (.slice Ar nr cr) 38).alloc (.cells #[.bool pq, .slice Aq nq cq] 38)
  have n2 := Box.new (W.alloc (.cells #[.bool pr, .slice Ar nr cr] 38)) pq (.slice Aq nq cq) 38
  rw [World.size_alloc] at n2
  exact (s.below k).base n2 n1 (by have := s.b2.lt; omega) s.b2.lt (by omega) (zq.below k) (zr.below k)
theorem ge_ne {a b : Nat} (h : a + 1 + 1 + 1 < b) : b ≠ a ∧ b ≠ a + 1 ∧ b + 1 ≠ a ∧ b + 1 ≠ a + 1 := by omega
theorem DivSt.eqQR (s : DivSt w W g h p A n c q B m d y pq Aq nq cq Q pr Ar nr cr R) {Q' R' : Int} (hQ : Q = Q') (hR : R = R') : DivSt w W g h p A n c q B m d y pq Aq nq cq Q' pr Ar nr cr R' := hQ ▸ hR ▸ s
theorem DivSt.done (s : DivSt w W g h p A n c q B m d y pq Aq nq cq Q pr Ar nr cr R) :
    RetQR w Q R (.returned (.tuple #[.agg #[.bool pq, .slice Aq nq cq], .agg #[.bool pr, .slice Ar nr cr]])) (((((W.setCell ⟨w.heap.size + 1 + 1, 0, none⟩ (.bool pq)).setCell ⟨w.heap.size + 1 + 1, 1, none⟩ (.slice Aq nq cq)).setCell ⟨w.heap.size + 1 + 1 + 1, 0, none⟩ (.bool pr)).setCell ⟨w.heap.size + 1 + 1 + 1, 1, none⟩ (.slice Ar nr cr)).drew) := by
  have h2 := s.b2.far2 (b' := w.heap.size + 1 + 1) (by omega) (.bool pq) (.slice Aq nq cq)
  refine ⟨pq, Aq, nq, cq, pr, Ar, nr, cr, rfl, ((s.zq.set2 s.b1.c0 pq _).set2 h2.c0 pr _).drew, ((s.zr.set2 s.b1.c0 pq _).set2 h2.c0 pr _).drew, ?_⟩
  have k1 : w.heap.size ≤ w.heap.size + 1 + 1 := by omega
  have k2 : w.heap.size ≤ w.heap.size + 1 + 1 + 1 := by omega
  exact ((((s.hb.setCell (p := ⟨w.heap.size + 1 + 1, 0, none⟩) k1 _).setCell (p := ⟨w.heap.size + 1 + 1, 1, none⟩) k1 _).setCell (p := ⟨w.heap.size + 1 + 1 + 1, 0, none⟩) k2 _).setCell (p := ⟨w.heap.size + 1 + 1 + 1, 1, none⟩) k2 _).drew
end

theorem fd_all (x y : Int) (h0 : y ≠ 0) :
    (¬ x < 0 → ¬ y < 0 → ((x.natAbs / y.natAbs : Nat) : Int) = x.fdiv y ∧ ((x.natAbs % y.natAbs : Nat) : Int) = x.fmod y) ∧
    (x < 0 → y < 0 → ((x.natAbs / y.natAbs : Nat) : Int) = x.fdiv y ∧ -((x.natAbs % y.natAbs : Nat) : Int) = x.fmod y) ∧
    (¬ x < 0 → y < 0 → (x.natAbs % y.natAbs = 0 → -((x.natAbs / y.natAbs : Nat) : Int) = x.fdiv y ∧ ((x.natAbs % y.natAbs : Nat) : Int) = x.fmod y) ∧ (x.natAbs % y.natAbs ≠ 0 → -((x.natAbs / y.natAbs : Nat) : Int) - 1 = x.fdiv y ∧ ((x.natAbs % y.natAbs : Nat) : Int) + y = x.fmod y)) ∧
    (x < 0 → ¬ y < 0 → (x.natAbs % y.natAbs = 0 → -((x.natAbs / y.natAbs : Nat) : Int) = x.fdiv y ∧ -((x.natAbs % y.natAbs : Nat) : Int) = x.fmod y) ∧ (x.natAbs % y.natAbs ≠ 0 → -((x.natAbs / y.natAbs : Nat) : Int) - 1 = x.fdiv y ∧ -((x.natAbs % y.natAbs : Nat) : Int) + y = x.fmod y)) := by
  have hd := Nat.div_add_mod x.natAbs y.natAbs
  have hlt : x.natAbs % y.natAbs < y.natAbs := Nat.mod_lt _ (by omega)
  generalize x.natAbs / y.natAbs = Q at *
  generalize x.natAbs % y.natAbs = R at *
  have hd' : (y.natAbs : Int) * (Q : Int) + R = x.natAbs := by rw [← hd, Int.natCast_add, Int.natCast_mul]
  refine ⟨fun hx hy => ?_, fun hx hy => ?_, fun hx hy => ⟨fun hr => ?_, fun hr => ?_⟩, fun hx hy => ⟨fun hr => ?_, fun hr => ?_⟩⟩
  · have hp : 0 < y := by omega
    have e : (y.natAbs : Int) = y := by omega
    rw [e] at hd'
    have := (Int.fdiv_fmod_unique (a := x) (b := y) (r := R) (q := Q) hp).2 ⟨by omega, by omega, by omega⟩
    exact ⟨this.1.symm, this.2.symm⟩
  · have e : (y.natAbs : Int) = -y := by omega
    rw [e, Int.neg_mul] at hd'
    have := (Int.fdiv_fmod_unique' (a := x) (b := y) (r := -(R : Int)) (q := Q) hy).2 ⟨by omega, by omega, by omega⟩
    exact ⟨this.1.symm, this.2.symm⟩
  · have e : (y.natAbs : Int) = -y := by omega
    rw [e, Int.neg_mul] at hd'
    have := (Int.fdiv_fmod_unique' (a := x) (b := y) (r := (R : Int)) (q := -(Q : Int)) hy).2 ⟨by rw [Int.mul_neg]; omega, by omega, by omega⟩
    exact ⟨this.1.symm, this.2.symm⟩
  · have e : (y.natAbs : Int) = -y := by omega
    rw [e, Int.neg_mul] at hd'
    have := (Int.fdiv_fmod_unique' (a := x) (b := y) (r := (R : Int) + y) (q := -(Q : Int) - 1) hy).2 ⟨by rw [Int.mul_sub, Int.mul_neg, Int.mul_one]; omega, by omega, by omega⟩
    exact ⟨this.1.symm, this.2.symm⟩
  · have hp : 0 < y := by omega
    have e : (y.natAbs : Int) = y := by omega
    rw [e] at hd'
    have := (Int.fdiv_fmod_unique (a := x) (b := y) (r := -(R : Int)) (q := -(Q : Int)) hp).2 ⟨by rw [Int.mul_neg]; omega, by omega, by omega⟩
    exact ⟨this.1.symm, this.2.symm⟩
  · have hp : 0 < y := by omega
    have e : (y.natAbs : Int) = y := by omega
    rw [e] at hd'
    have := (Int.fdiv_fmod_unique (a := x) (b := y) (r := -(R : Int) + y) (q := -(Q : Int) - 1) hp).2 ⟨by rw [Int.mul_sub, Int.mul_neg, Int.mul_one]; omega, by omega, by omega⟩
    exact ⟨this.1.symm, this.2.symm⟩

/-- What holds behind the first statement of Div. -/
def DivCut (w : World) (p : Bool) (A : Option Addr) (n c : Nat) (x : Nat) (q : Bool) (B : Option Addr) (m d : Nat) (y : Int) (v6 v7 : Value) (W : World) : Prop :=
  ∃ (g h : Nat) (pq : Bool) (Aq : Option Addr) (nq cq : Nat) (pr : Bool) (Ar : Option Addr) (nr cr : Nat), v6 = .pointer (some ⟨g, 0, none⟩) ∧ v7 = .pointer (some ⟨h, 0, none⟩) ∧
    DivSt w W g h p A n c q B m d y pq Aq nq cq ((x / y.natAbs : Nat) : Int) pr Ar nr cr ((x % y.natAbs : Nat) : Int)

set_option maxRecDepth 100000 in
set_option maxHeartbeats 8000000 in
theorem div_any (p q : Bool) (A B : Option Addr) (n m c d : Nat) (x y : Int) (w : World) (hx : Zs w p A n c x) (hy : Zs w q B m d y) (hn : n ≤ 3000) (hm : m ≤ 3000) (h0 : y ≠ 0) :
    Calls Try.prog 20 #[.agg #[.bool p, .slice A n c], .agg #[.bool q, .slice B m d]] w (RetQR w (x.fdiv y) (x.fmod y)) := by
  have hxl := hx.len
  have hyl := hy.len
  have HXL := Lib.hid hxl
  have HYL := Lib.hid hyl
  clear hxl hyl
  go_enter Try.func20, Try.ntmps20
  go_upto_region 1 with fail
  have st : PreSt w ((((w.alloc (.cells #[.bool p, .slice A n c] 38)).alloc (.cells #[.bool q, .slice B m d] 38)).alloc (.cells #[.bool false, .slice none 0 0] 38)).alloc (.cells #[.bool false, .slice none 0 0] 38)) [] p A n c x q B m d y := by
    obtain ⟨b1, b2, b3, hb0⟩ := boxes3 w p q false (.slice A n c) (.slice B m d) (.slice none 0 0) 38
    have b4 := Box.new (((w.alloc (.cells #[.bool p, .slice A n c] 38)).alloc (.cells #[.bool q, .slice B m d] 38)).alloc (.cells #[.bool false, .slice none 0 0] 38)) false (.slice none 0 0) 38
    simp only [World.size_alloc] at b4
    have hb := hb0.alloc hb0.size (.cells #[.bool false, .slice none 0 0] 38)
    exact ⟨b1.alloc _, b2.alloc _, b3.alloc _, b4, hx.below hb, hy.below hb, hb, (fun b h => by cases h), (fun b h => by cases h), List.nodup_nil⟩
  generalize (((w.alloc (.cells #[.bool p, .slice A n c] 38)).alloc (.cells #[.bool q, .slice B m d] 38)).alloc (.cells #[.bool false, .slice none 0 0] 38)).alloc (.cells #[.bool false, .slice none 0 0] 38) = W at *
  go_cut [6, 7] (fun v6 v7 wx => DivCut w p A n c x.natAbs q B m d y v6 v7 wx)
  case first =>
    obtain ⟨_, a0, a1, _, _⟩ := id st.ba
    obtain ⟨_, c0, c1, _, _⟩ := id st.bb
    obtain ⟨gn1, gn2, gn3, gn4⟩ := ge_ne st.b2.lt
    go_region_held3 (fun w' => w'.cell? ⟨w.heap.size, 0, none⟩ = some (.bool p) ∧ w'.cell? ⟨w.heap.size, 1, none⟩ = some (.slice A n c) ∧ w'.cell? ⟨w.heap.size + 1, 0, none⟩ = some (.bool q) ∧ w'.cell? ⟨w.heap.size + 1, 1, none⟩ = some (.slice B m d)) (first | (with_reducible exact ⟨st.ba.c0, st.ba.c1, st.bb.c0, st.bb.c1⟩) | (with_reducible exact ⟨st.alloc1.ba.c0, st.alloc1.ba.c1, st.alloc1.bb.c0, st.alloc1.bb.c1⟩) | (with_reducible exact ⟨st.alloc2.ba.c0, st.alloc2.ba.c1, st.alloc2.bb.c0, st.alloc2.bb.c1⟩) | (with_reducible exact ⟨st.drew.ba.c0, st.drew.ba.c1, st.drew.bb.c0, st.drew.bb.c1⟩) | (with_reducible exact ⟨st.alloc1.drew.ba.c0, st.alloc1.drew.ba.c1, st.alloc1.drew.bb.c0, st.alloc1.drew.bb.c1⟩) | (with_reducible exact ⟨st.alloc2.drew.ba.c0, st.alloc2.drew.ba.c1, st.alloc2.drew.bb.c0, st.alloc2.drew.bb.c1⟩) | go_keep)
      (first
        | (go_at_call_of 17 (Value.slice A n c); refine (abs_any p A n c x _ (by with_reducible first | exact st.zx | exact st.zx.below (below_alloc _ _) | exact (st.zx.below (below_alloc _ _)).below (below_alloc _ _) | exact st.zx.drew | exact (st.zx.below (below_alloc _ _)).drew | exact ((st.zx.below (below_alloc _ _)).below (below_alloc _ _)).drew) (by omega)).mono ?_; rintro e w1 ⟨r1, C1, k1, f1, rfl, z1, hb⟩
           have hr1 : r1 = false := by rw [z1.sign]; exact decide_eq_false (by omega)
           subst hr1
           have l1 := z1.len
           rw [Int.natAbs_natCast, HXL.out] at l1
           have L1 := Lib.hid l1
           clear l1
           with_reducible (first | replace st := st.below hb | replace st := st.alloc1.below hb | replace st := st.alloc2.below hb | replace st := st.drew.below hb | replace st := st.alloc1.drew.below hb | replace st := st.alloc2.drew.below hb)
           clear hb
           obtain ⟨_, a2, a3, _, _⟩ := id st.ba
           obtain ⟨_, a4, a5, _, _⟩ := id st.bb
           obtain ⟨gn1, gn2, gn3, gn4⟩ := ge_ne st.b2.lt
           try obtain ⟨gm1, gm2, gm3, gm4⟩ := ge_ne (st.ge _ (List.mem_cons_self ..))
           try obtain ⟨gk1, gk2, gk3, gk4⟩ := ge_ne (st.ge _ (List.mem_cons_of_mem _ (List.mem_cons_self ..)))
           try obtain ⟨_, x0, x1, x2, x3⟩ := st.al _ (List.mem_cons_self ..)
           try obtain ⟨_, x4, x5, x6, x7⟩ := st.al _ (List.mem_cons_of_mem _ (List.mem_cons_self ..))
          )
        | (go_at_call_of 17 (Value.slice B m d); refine (abs_any q B m d y _ (by with_reducible first | exact st.zy | exact st.zy.below (below_alloc _ _) | exact (st.zy.below (below_alloc _ _)).below (below_alloc _ _) | exact st.zy.drew | exact (st.zy.below (below_alloc _ _)).drew | exact ((st.zy.below (below_alloc _ _)).below (below_alloc _ _)).drew) (by omega)).mono ?_; rintro e w1 ⟨r2, C2, k2, f2, rfl, z2, hb⟩
           have hr2 : r2 = false := by rw [z2.sign]; exact decide_eq_false (by omega)
           subst hr2
           have l2 := z2.len
           rw [Int.natAbs_natCast, HYL.out] at l2
           have L2 := Lib.hid l2
           clear l2
           replace z1 : Zs w1 false C1 k1 f1 ((x.natAbs : Nat) : Int) := by with_reducible first | exact z1.below hb | exact (z1.below (below_alloc _ _)).below hb | exact ((z1.below (below_alloc _ _)).below (below_alloc _ _)).below hb
           with_reducible (first | replace st := st.below hb | replace st := st.alloc1.below hb | replace st := st.alloc2.below hb | replace st := st.drew.below hb | replace st := st.alloc1.drew.below hb | replace st := st.alloc2.drew.below hb)
           clear hb
           obtain ⟨_, a2, a3, _, _⟩ := id st.ba
           obtain ⟨_, a4, a5, _, _⟩ := id st.bb
           obtain ⟨gn1, gn2, gn3, gn4⟩ := ge_ne st.b2.lt
           try obtain ⟨gm1, gm2, gm3, gm4⟩ := ge_ne (st.ge _ (List.mem_cons_self ..))
           try obtain ⟨gk1, gk2, gk3, gk4⟩ := ge_ne (st.ge _ (List.mem_cons_of_mem _ (List.mem_cons_self ..)))
           try obtain ⟨_, x0, x1, x2, x3⟩ := st.al _ (List.mem_cons_self ..)
           try obtain ⟨_, x4, x5, x6, x7⟩ := st.al _ (List.mem_cons_of_mem _ (List.mem_cons_self ..))
          )
        | (go_at_call 39; refine (long_any C1 C2 k1 k2 f1 f2 x.natAbs y.natAbs _ (by with_reducible first | exact z1 | exact z1.below (below_alloc _ _) | exact (z1.below (below_alloc _ _)).below (below_alloc _ _)) (by with_reducible first | exact z2 | exact z2.below (below_alloc _ _) | exact (z2.below (below_alloc _ _)).below (below_alloc _ _)) (by have := L1.out; omega) (by have := L2.out; omega) (by omega)).mono ?_; rintro e w1 ⟨r3, C3, k3, f3, r4, C4, k4, f4, rfl, z3, z4, hb⟩
           with_reducible (first | replace st := st.below hb | replace st := st.alloc1.below hb | replace st := st.alloc2.below hb | replace st := st.drew.below hb | replace st := st.alloc1.drew.below hb | replace st := st.alloc2.drew.below hb)
           clear hb
           obtain ⟨_, a2, a3, _, _⟩ := id st.ba
           obtain ⟨_, a4, a5, _, _⟩ := id st.bb
           obtain ⟨gn1, gn2, gn3, gn4⟩ := ge_ne st.b2.lt
           try obtain ⟨gm1, gm2, gm3, gm4⟩ := ge_ne (st.ge _ (List.mem_cons_self ..))
           try obtain ⟨gk1, gk2, gk3, gk4⟩ := ge_ne (st.ge _ (List.mem_cons_of_mem _ (List.mem_cons_self ..)))
           try obtain ⟨_, x0, x1, x2, x3⟩ := st.al _ (List.mem_cons_self ..)
           try obtain ⟨_, x4, x5, x6, x7⟩ := st.al _ (List.mem_cons_of_mem _ (List.mem_cons_self ..))
          ))
    all_goals
      go_wp2_with fail
      go_meet
      refine ⟨_, _, r3, C3, k3, f3, r4, C4, k4, f4, rfl, rfl, ?_⟩
      with_reducible first | exact st.fin1a z3 z4 | exact st.fin1b z3 z4 | exact st.fin2a z3 z4 | exact st.fin2b z3 z4 | exact st.fin3a z3 z4 | exact st.fin3b z3 z4
  case rest =>
    obtain ⟨g, h, pq, Aq, nq, cq, pr, Ar, nr, cr, rfl, rfl, s0⟩ := hcut
    have hgg := s0.gg
    have hgh := s0.gh
    have hgn := s0.ne
    have hgn' := Ne.symm hgn
    obtain ⟨gn1, gn2, gn3, gn4⟩ := ge_ne hgg
    obtain ⟨hn1, hn2, hn3, hn4⟩ := ge_ne hgh
    have hxs := lt_of_digs_len (n := x.natAbs) (k := n) (by rw [HXL.out]; exact Nat.le_refl _)
    have hys := lt_of_digs_len (n := y.natAbs) (k := m) (by rw [HYL.out]; exact Nat.le_refl _)
    have lq := s0.zq.small (k := n) (by rw [Int.natAbs_natCast]; exact Nat.lt_of_le_of_lt (Nat.div_le_self _ _) hxs)
    have lr := s0.zr.small (k := m) (by rw [Int.natAbs_natCast]; exact Nat.lt_trans (Nat.mod_lt _ (by omega)) hys)
    have lq' := s0.zq.len
    rw [Int.natAbs_natCast] at lq'
    have lr' := s0.zr.len
    rw [Int.natAbs_natCast] at lr'
    have LQ := Lib.hid lq'
    have LR := Lib.hid lr'
    have ONE := Lib.hid (show ((1 : Int)).natAbs < 65536 ^ 1 by decide)
    have sx := hx.sign
    have sy := hy.sign
    obtain ⟨F1, F2, F3, F4⟩ := fd_all x y h0
    clear hxs hys lq' lr' hx hy st
    have hcs : x.natAbs % y.natAbs = 0 ∨ x.natAbs % y.natAbs ≠ 0 := by omega
    cases p <;> cases q <;> simp only [eq_comm (a := true), eq_comm (a := false), decide_eq_true_eq, decide_eq_false_iff_not] at sx sy
    · rcases hcs with hr0 | hr0
      · -- p = false, q = false, R0 = 0
        obtain ⟨fq, fr⟩ := F1 sx sy
        have FQ := Lib.hid fq
        have FR := Lib.hid fr
        have HR0 := Lib.hid hr0
        clear fq fr hr0 F1 F2 F3 F4 sx sy h0
        obtain ⟨_, a0, a1, _, _⟩ := id s0.ba
        obtain ⟨_, b0, b1, _, _⟩ := id s0.bb
        obtain ⟨_, q0, q1, q2, q3⟩ := id s0.bq
        obtain ⟨_, r0, r1, r2, r3⟩ := id s0.br
        have hnr : nr = 0 := by
          rw [← s0.zr.len]
          simp only [HR0.out]
          simp [digs_zero]
        subst hnr
        go_wp2_with fail
        clear a0 a1 b0 b1 q0 q1 q2 q3 r0 r1 r2 r3
        obtain ⟨_, q0, q1, q2, q3⟩ := id s0.bq
        obtain ⟨_, r0, r1, r2, r3⟩ := id s0.br
        obtain ⟨_, d0, d1, d2, d3⟩ := id s0.b1
        obtain ⟨_, e0, e1, e2, e3⟩ := id s0.b2
        go_region
        go_wp2
        exact bodyPost_ret (v := .tuple #[.agg #[.bool pq, .slice Aq nq cq], .agg #[.bool pr, .slice Ar 0 cr]]) (by simp [results, Try.results20, go_sem, d0, d1, e0, e1]) rfl (s0.eqQR FQ.out FR.out).done
      · -- p = false, q = false, R0 ≠ 0
        obtain ⟨fq, fr⟩ := F1 sx sy
        have FQ := Lib.hid fq
        have FR := Lib.hid fr
        have HR0 := Lib.hid hr0
        clear fq fr hr0 F1 F2 F3 F4 sx sy h0
        obtain ⟨_, a0, a1, _, _⟩ := id s0.ba
        obtain ⟨_, b0, b1, _, _⟩ := id s0.bb
        obtain ⟨_, q0, q1, q2, q3⟩ := id s0.bq
        obtain ⟨_, r0, r1, r2, r3⟩ := id s0.br
        have hnr : 0 < nr := by
          rw [← s0.zr.len]
          rcases Nat.eq_zero_or_pos (digs ((x.natAbs % y.natAbs : Nat) : Int).natAbs).length with h1 | h1
          · have := digs_nil.1 (List.eq_nil_of_length_eq_zero h1)
            have := HR0.out
            omega
          · exact h1
        have hpr : pr = false := by
          rw [s0.zr.sign]
          have := HR0.out
          simp
          omega
        subst hpr
        go_wp2_with fail
        clear a0 a1 b0 b1 q0 q1 q2 q3 r0 r1 r2 r3
        obtain ⟨_, q0, q1, q2, q3⟩ := id s0.bq
        obtain ⟨_, r0, r1, r2, r3⟩ := id s0.br
        obtain ⟨_, d0, d1, d2, d3⟩ := id s0.b1
        obtain ⟨_, e0, e1, e2, e3⟩ := id s0.b2
        go_region
        go_wp2
        exact bodyPost_ret (v := .tuple #[.agg #[.bool pq, .slice Aq nq cq], .agg #[.bool false, .slice Ar nr cr]]) (by simp [results, Try.results20, go_sem, d0, d1, e0, e1]) rfl (s0.eqQR FQ.out FR.out).done
    · rcases hcs with hr0 | hr0
      · -- p = false, q = true, R0 = 0
        obtain ⟨fq, fr⟩ := (F3 sx sy).1 hr0
        have FQ := Lib.hid fq
        have FR := Lib.hid fr
        have HR0 := Lib.hid hr0
        clear fq fr hr0 F1 F2 F3 F4 sx sy h0
        obtain ⟨_, a0, a1, _, _⟩ := id s0.ba
        obtain ⟨_, b0, b1, _, _⟩ := id s0.bb
        obtain ⟨_, q0, q1, q2, q3⟩ := id s0.bq
        obtain ⟨_, r0, r1, r2, r3⟩ := id s0.br
        go_wp2_with fail
        refine (neg_any pq Aq nq cq _ _ s0.zq (by omega)).mono ?_
        rintro e w1 ⟨p1, A1, n1, c1, rfl, z1, k1⟩
        have l1 := z1.len
        rw [Int.natAbs_neg, Int.natAbs_natCast] at l1
        have L1 := Lib.hid l1
        clear l1
        have s1 := s0.below k1
        have s2 := s1.setQ z1
        clear a0 a1 b0 b1 q0 q1 q2 q3 r0 r1 r2 r3
        obtain ⟨_, a0, a1, _, _⟩ := id s1.ba
        obtain ⟨_, b0, b1, _, _⟩ := id s1.bb
        obtain ⟨_, q0, q1, q2, q3⟩ := id s1.bq
        obtain ⟨_, r0, r1, r2, r3⟩ := id s1.br
        clear k1 s0
        have hnr : nr = 0 := by
          rw [← s2.zr.len]
          simp only [HR0.out]
          simp [digs_zero]
        subst hnr
        obtain ⟨_, d0, d1, d2, d3⟩ := id s1.b1
        obtain ⟨_, e0, e1, e2, e3⟩ := id s1.b2
        go_wp2_with fail
        clear a0 a1 b0 b1 q0 q1 q2 q3 r0 r1 r2 r3
        clear d0 d1 d2 d3 e0 e1 e2 e3 z1 s1
        generalize (w1.setCell ⟨g, 0, none⟩ (.bool p1)).setCell ⟨g, 1, none⟩ (.slice A1 n1 c1) = w5 at *
        obtain ⟨_, q0, q1, q2, q3⟩ := id s2.bq
        obtain ⟨_, r0, r1, r2, r3⟩ := id s2.br
        obtain ⟨_, d0, d1, d2, d3⟩ := id s2.b1
        obtain ⟨_, e0, e1, e2, e3⟩ := id s2.b2
        go_region
        go_wp2
        exact bodyPost_ret (v := .tuple #[.agg #[.bool p1, .slice A1 n1 c1], .agg #[.bool pr, .slice Ar 0 cr]]) (by simp [results, Try.results20, go_sem, d0, d1, e0, e1]) rfl (s2.eqQR FQ.out FR.out).done
      · -- p = false, q = true, R0 ≠ 0
        obtain ⟨fq, fr⟩ := (F3 sx sy).2 hr0
        have FQ := Lib.hid fq
        have FR := Lib.hid fr
        have HR0 := Lib.hid hr0
        clear fq fr hr0 F1 F2 F3 F4 sx sy h0
        obtain ⟨_, a0, a1, _, _⟩ := id s0.ba
        obtain ⟨_, b0, b1, _, _⟩ := id s0.bb
        obtain ⟨_, q0, q1, q2, q3⟩ := id s0.bq
        obtain ⟨_, r0, r1, r2, r3⟩ := id s0.br
        go_wp2_with fail
        refine (neg_any pq Aq nq cq _ _ s0.zq (by omega)).mono ?_
        rintro e w1 ⟨p1, A1, n1, c1, rfl, z1, k1⟩
        have l1 := z1.len
        rw [Int.natAbs_neg, Int.natAbs_natCast] at l1
        have L1 := Lib.hid l1
        clear l1
        have s1 := s0.below k1
        have s2 := s1.setQ z1
        clear a0 a1 b0 b1 q0 q1 q2 q3 r0 r1 r2 r3
        obtain ⟨_, a0, a1, _, _⟩ := id s1.ba
        obtain ⟨_, b0, b1, _, _⟩ := id s1.bb
        obtain ⟨_, q0, q1, q2, q3⟩ := id s1.bq
        obtain ⟨_, r0, r1, r2, r3⟩ := id s1.br
        clear k1 s0
        have hnr : 0 < nr := by
          rw [← s2.zr.len]
          rcases Nat.eq_zero_or_pos (digs ((x.natAbs % y.natAbs : Nat) : Int).natAbs).length with h1 | h1
          · have := digs_nil.1 (List.eq_nil_of_length_eq_zero h1)
            have := HR0.out
            omega
          · exact h1
        have hpr : pr = false := by
          rw [s2.zr.sign]
          have := HR0.out
          simp
          omega
        subst hpr
        go_wp2_with fail
        clear a0 a1 b0 b1 q0 q1 q2 q3 r0 r1 r2 r3
        clear z1 s1
        generalize (w1.setCell ⟨g, 0, none⟩ (.bool p1)).setCell ⟨g, 1, none⟩ (.slice A1 n1 c1) = w5 at *
        obtain ⟨_, a0, a1, _, _⟩ := id s2.ba
        obtain ⟨_, b0, b1, _, _⟩ := id s2.bb
        obtain ⟨_, q0, q1, q2, q3⟩ := id s2.bq
        obtain ⟨_, r0, r1, r2, r3⟩ := id s2.br
        have s5d := s2.below (Below.refl _ _).drew
        go_region_with (first
          | (go_at_call 38; refine (ofu_int 1 (by decide) (by decide) _).mono ?_; rintro e w6 ⟨p6, A6, n6, c6, rfl, z6, k6⟩
             have l6 := z6.small ONE.out
             have s6 := s5d.below k6
             obtain ⟨_, q4, q5, q6, q7⟩ := id s6.bq)
          | (go_at_call 18; refine (sub_any p1 p6 A1 A6 n1 n6 c1 c6 _ _ _ s6.zq z6 (by have := L1.out; have := LQ.out; omega) (by omega)).mono ?_; rintro e w7 ⟨p7, A7, n7, c7, rfl, z7, k7⟩
             have s7 := s6.below k7
             have s8 := s7.setQ z7
             obtain ⟨_, qa, qb, qc, qd⟩ := id s7.bq
             obtain ⟨_, ba, bb, _, _⟩ := id s7.bb
             obtain ⟨_, ra, rb, rc, rd⟩ := id s7.br))
        all_goals
          go_wp2_with fail
          clear qa qb qc qd ba bb ra rb rc rd
          clear z7 s7
          generalize (w7.setCell ⟨g, 0, none⟩ (.bool p7)).setCell ⟨g, 1, none⟩ (.slice A7 n7 c7) = w8 at *
          refine (add_any false true Ar B nr m cr d _ _ _ s8.zr s8.zy (by have := LR.out; first | omega | (have := L3.out; omega)) (by omega)).mono ?_
          rintro e w9 ⟨p9, A9, n9, c9, rfl, z9, k9⟩
          have s9 := s8.below k9
          have sa := s9.setR z9
          obtain ⟨_, q0, q1, q2, q3⟩ := id s9.bq
          obtain ⟨_, r0, r1, r2, r3⟩ := id s9.br
          obtain ⟨_, d0, d1, d2, d3⟩ := id s9.b1
          obtain ⟨_, e0, e1, e2, e3⟩ := id s9.b2
          go_wp2_with fail
          clear q0 q1 q2 q3 r0 r1 r2 r3 d0 d1 d2 d3 e0 e1 e2 e3 z9 s9
          generalize (w9.setCell ⟨h, 0, none⟩ (.bool p9)).setCell ⟨h, 1, none⟩ (.slice A9 n9 c9) = w10 at *
          obtain ⟨_, q0, q1, q2, q3⟩ := id sa.bq
          obtain ⟨_, r0, r1, r2, r3⟩ := id sa.br
          obtain ⟨_, d0, d1, d2, d3⟩ := id sa.b1
          obtain ⟨_, e0, e1, e2, e3⟩ := id sa.b2
          go_region
          go_wp2
          exact bodyPost_ret (v := .tuple #[.agg #[.bool p7, .slice A7 n7 c7], .agg #[.bool p9, .slice A9 n9 c9]]) (by simp [results, Try.results20, go_sem, d0, d1, e0, e1]) rfl (sa.eqQR FQ.out FR.out).done
    · rcases hcs with hr0 | hr0
      · -- p = true, q = false, R0 = 0
        obtain ⟨fq, fr⟩ := (F4 sx sy).1 hr0
        have FQ := Lib.hid fq
        have FR := Lib.hid fr
        have HR0 := Lib.hid hr0
        clear fq fr hr0 F1 F2 F3 F4 sx sy h0
        obtain ⟨_, a0, a1, _, _⟩ := id s0.ba
        obtain ⟨_, b0, b1, _, _⟩ := id s0.bb
        obtain ⟨_, q0, q1, q2, q3⟩ := id s0.bq
        obtain ⟨_, r0, r1, r2, r3⟩ := id s0.br
        go_wp2_with fail
        refine (neg_any pq Aq nq cq _ _ s0.zq (by omega)).mono ?_
        rintro e w1 ⟨p1, A1, n1, c1, rfl, z1, k1⟩
        have l1 := z1.len
        rw [Int.natAbs_neg, Int.natAbs_natCast] at l1
        have L1 := Lib.hid l1
        clear l1
        have s1 := s0.below k1
        have s2 := s1.setQ z1
        clear a0 a1 b0 b1 q0 q1 q2 q3 r0 r1 r2 r3
        obtain ⟨_, a0, a1, _, _⟩ := id s1.ba
        obtain ⟨_, b0, b1, _, _⟩ := id s1.bb
        obtain ⟨_, q0, q1, q2, q3⟩ := id s1.bq
        obtain ⟨_, r0, r1, r2, r3⟩ := id s1.br
        clear k1 s0
        go_wp2_with fail
        clear a0 a1 b0 b1 q0 q1 q2 q3 r0 r1 r2 r3
        clear z1 s1
        generalize (w1.setCell ⟨g, 0, none⟩ (.bool p1)).setCell ⟨g, 1, none⟩ (.slice A1 n1 c1) = w2 at *
        refine (neg_any pr Ar nr cr _ _ s2.zr (by omega)).mono ?_
        rintro e w3 ⟨p3, A3, n3, c3, rfl, z3, k3⟩
        have l3 := z3.len
        rw [Int.natAbs_neg, Int.natAbs_natCast] at l3
        have L3 := Lib.hid l3
        clear l3
        have s3 := s2.below k3
        have s4 := s3.setR z3
        obtain ⟨_, a0, a1, _, _⟩ := id s3.ba
        obtain ⟨_, b0, b1, _, _⟩ := id s3.bb
        obtain ⟨_, q0, q1, q2, q3⟩ := id s3.bq
        obtain ⟨_, r0, r1, r2, r3⟩ := id s3.br
        clear k3 s2
        have hnr : n3 = 0 := by
          rw [← s4.zr.len]
          simp only [HR0.out]
          simp [digs_zero]
        subst hnr
        obtain ⟨_, d0, d1, d2, d3⟩ := id s3.b1
        obtain ⟨_, e0, e1, e2, e3⟩ := id s3.b2
        go_wp2_with fail
        clear a0 a1 b0 b1 q0 q1 q2 q3 r0 r1 r2 r3
        clear d0 d1 d2 d3 e0 e1 e2 e3 z3 s3
        generalize (w3.setCell ⟨h, 0, none⟩ (.bool p3)).setCell ⟨h, 1, none⟩ (.slice A3 0 c3) = w5 at *
        obtain ⟨_, q0, q1, q2, q3⟩ := id s4.bq
        obtain ⟨_, r0, r1, r2, r3⟩ := id s4.br
        obtain ⟨_, d0, d1, d2, d3⟩ := id s4.b1
        obtain ⟨_, e0, e1, e2, e3⟩ := id s4.b2
        go_region
        go_wp2
        exact bodyPost_ret (v := .tuple #[.agg #[.bool p1, .slice A1 n1 c1], .agg #[.bool p3, .slice A3 0 c3]]) (by simp [results, Try.results20, go_sem, d0, d1, e0, e1]) rfl (s4.eqQR FQ.out FR.out).done
      · -- p = true, q = false, R0 ≠ 0
        obtain ⟨fq, fr⟩ := (F4 sx sy).2 hr0
        have FQ := Lib.hid fq
        have FR := Lib.hid fr
        have HR0 := Lib.hid hr0
        clear fq fr hr0 F1 F2 F3 F4 sx sy h0
        obtain ⟨_, a0, a1, _, _⟩ := id s0.ba
        obtain ⟨_, b0, b1, _, _⟩ := id s0.bb
        obtain ⟨_, q0, q1, q2, q3⟩ := id s0.bq
        obtain ⟨_, r0, r1, r2, r3⟩ := id s0.br
        go_wp2_with fail
        refine (neg_any pq Aq nq cq _ _ s0.zq (by omega)).mono ?_
        rintro e w1 ⟨p1, A1, n1, c1, rfl, z1, k1⟩
        have l1 := z1.len
        rw [Int.natAbs_neg, Int.natAbs_natCast] at l1
        have L1 := Lib.hid l1
        clear l1
        have s1 := s0.below k1
        have s2 := s1.setQ z1
        clear a0 a1 b0 b1 q0 q1 q2 q3 r0 r1 r2 r3
        obtain ⟨_, a0, a1, _, _⟩ := id s1.ba
        obtain ⟨_, b0, b1, _, _⟩ := id s1.bb
        obtain ⟨_, q0, q1, q2, q3⟩ := id s1.bq
        obtain ⟨_, r0, r1, r2, r3⟩ := id s1.br
        clear k1 s0
        go_wp2_with fail
        clear a0 a1 b0 b1 q0 q1 q2 q3 r0 r1 r2 r3
        clear z1 s1
        generalize (w1.setCell ⟨g, 0, none⟩ (.bool p1)).setCell ⟨g, 1, none⟩ (.slice A1 n1 c1) = w2 at *
        refine (neg_any pr Ar nr cr _ _ s2.zr (by omega)).mono ?_
        rintro e w3 ⟨p3, A3, n3, c3, rfl, z3, k3⟩
        have l3 := z3.len
        rw [Int.natAbs_neg, Int.natAbs_natCast] at l3
        have L3 := Lib.hid l3
        clear l3
        have s3 := s2.below k3
        have s4 := s3.setR z3
        obtain ⟨_, a0, a1, _, _⟩ := id s3.ba
        obtain ⟨_, b0, b1, _, _⟩ := id s3.bb
        obtain ⟨_, q0, q1, q2, q3⟩ := id s3.bq
        obtain ⟨_, r0, r1, r2, r3⟩ := id s3.br
        clear k3 s2
        have hnr : 0 < n3 := by
          rw [← s4.zr.len]
          rcases Nat.eq_zero_or_pos (digs (-((x.natAbs % y.natAbs : Nat) : Int)).natAbs).length with h1 | h1
          · have := digs_nil.1 (List.eq_nil_of_length_eq_zero h1)
            have := HR0.out
            omega
          · exact h1
        have hpr : p3 = true := by
          rw [s4.zr.sign]
          have := HR0.out
          simp
          omega
        subst hpr
        go_wp2_with fail
        clear a0 a1 b0 b1 q0 q1 q2 q3 r0 r1 r2 r3
        clear z3 s3
        generalize (w3.setCell ⟨h, 0, none⟩ (.bool true)).setCell ⟨h, 1, none⟩ (.slice A3 n3 c3) = w5 at *
        obtain ⟨_, a0, a1, _, _⟩ := id s4.ba
        obtain ⟨_, b0, b1, _, _⟩ := id s4.bb
        obtain ⟨_, q0, q1, q2, q3⟩ := id s4.bq
        obtain ⟨_, r0, r1, r2, r3⟩ := id s4.br
        have s5d := s4.below (Below.refl _ _).drew
        go_region_with (first
          | (go_at_call 38; refine (ofu_int 1 (by decide) (by decide) _).mono ?_; rintro e w6 ⟨p6, A6, n6, c6, rfl, z6, k6⟩
             have l6 := z6.small ONE.out
             have s6 := s5d.below k6
             obtain ⟨_, q4, q5, q6, q7⟩ := id s6.bq)
          | (go_at_call 18; refine (sub_any p1 p6 A1 A6 n1 n6 c1 c6 _ _ _ s6.zq z6 (by have := L1.out; have := LQ.out; omega) (by omega)).mono ?_; rintro e w7 ⟨p7, A7, n7, c7, rfl, z7, k7⟩
             have s7 := s6.below k7
             have s8 := s7.setQ z7
             obtain ⟨_, qa, qb, qc, qd⟩ := id s7.bq
             obtain ⟨_, ba, bb, _, _⟩ := id s7.bb
             obtain ⟨_, ra, rb, rc, rd⟩ := id s7.br))
        all_goals
          go_wp2_with fail
          clear qa qb qc qd ba bb ra rb rc rd
          clear z7 s7
          generalize (w7.setCell ⟨g, 0, none⟩ (.bool p7)).setCell ⟨g, 1, none⟩ (.slice A7 n7 c7) = w8 at *
          refine (add_any true false A3 B n3 m c3 d _ _ _ s8.zr s8.zy (by have := LR.out; first | omega | (have := L3.out; omega)) (by omega)).mono ?_
          rintro e w9 ⟨p9, A9, n9, c9, rfl, z9, k9⟩
          have s9 := s8.below k9
          have sa := s9.setR z9
          obtain ⟨_, q0, q1, q2, q3⟩ := id s9.bq
          obtain ⟨_, r0, r1, r2, r3⟩ := id s9.br
          obtain ⟨_, d0, d1, d2, d3⟩ := id s9.b1
          obtain ⟨_, e0, e1, e2, e3⟩ := id s9.b2
          go_wp2_with fail
          clear q0 q1 q2 q3 r0 r1 r2 r3 d0 d1 d2 d3 e0 e1 e2 e3 z9 s9
          generalize (w9.setCell ⟨h, 0, none⟩ (.bool p9)).setCell ⟨h, 1, none⟩ (.slice A9 n9 c9) = w10 at *
          obtain ⟨_, q0, q1, q2, q3⟩ := id sa.bq
          obtain ⟨_, r0, r1, r2, r3⟩ := id sa.br
          obtain ⟨_, d0, d1, d2, d3⟩ := id sa.b1
          obtain ⟨_, e0, e1, e2, e3⟩ := id sa.b2
          go_region
          go_wp2
          exact bodyPost_ret (v := .tuple #[.agg #[.bool p7, .slice A7 n7 c7], .agg #[.bool p9, .slice A9 n9 c9]]) (by simp [results, Try.results20, go_sem, d0, d1, e0, e1]) rfl (sa.eqQR FQ.out FR.out).done
    · rcases hcs with hr0 | hr0
      · -- p = true, q = true, R0 = 0
        obtain ⟨fq, fr⟩ := F2 sx sy
        have FQ := Lib.hid fq
        have FR := Lib.hid fr
        have HR0 := Lib.hid hr0
        clear fq fr hr0 F1 F2 F3 F4 sx sy h0
        obtain ⟨_, a0, a1, _, _⟩ := id s0.ba
        obtain ⟨_, b0, b1, _, _⟩ := id s0.bb
        obtain ⟨_, q0, q1, q2, q3⟩ := id s0.bq
        obtain ⟨_, r0, r1, r2, r3⟩ := id s0.br
        go_wp2_with fail
        refine (neg_any pr Ar nr cr _ _ s0.zr (by omega)).mono ?_
        rintro e w3 ⟨p3, A3, n3, c3, rfl, z3, k3⟩
        have l3 := z3.len
        rw [Int.natAbs_neg, Int.natAbs_natCast] at l3
        have L3 := Lib.hid l3
        clear l3
        have s3 := s0.below k3
        have s4 := s3.setR z3
        clear a0 a1 b0 b1 q0 q1 q2 q3 r0 r1 r2 r3
        obtain ⟨_, a0, a1, _, _⟩ := id s3.ba
        obtain ⟨_, b0, b1, _, _⟩ := id s3.bb
        obtain ⟨_, q0, q1, q2, q3⟩ := id s3.bq
        obtain ⟨_, r0, r1, r2, r3⟩ := id s3.br
        clear k3 s0
        have hnr : n3 = 0 := by
          rw [← s4.zr.len]
          simp only [HR0.out]
          simp [digs_zero]
        subst hnr
        obtain ⟨_, d0, d1, d2, d3⟩ := id s3.b1
        obtain ⟨_, e0, e1, e2, e3⟩ := id s3.b2
        go_wp2_with fail
        clear a0 a1 b0 b1 q0 q1 q2 q3 r0 r1 r2 r3
        clear d0 d1 d2 d3 e0 e1 e2 e3 z3 s3
        generalize (w3.setCell ⟨h, 0, none⟩ (.bool p3)).setCell ⟨h, 1, none⟩ (.slice A3 0 c3) = w5 at *
        obtain ⟨_, q0, q1, q2, q3⟩ := id s4.bq
        obtain ⟨_, r0, r1, r2, r3⟩ := id s4.br
        obtain ⟨_, d0, d1, d2, d3⟩ := id s4.b1
        obtain ⟨_, e0, e1, e2, e3⟩ := id s4.b2
        go_region
        go_wp2
        exact bodyPost_ret (v := .tuple #[.agg #[.bool pq, .slice Aq nq cq], .agg #[.bool p3, .slice A3 0 c3]]) (by simp [results, Try.results20, go_sem, d0, d1, e0, e1]) rfl (s4.eqQR FQ.out FR.out).done
      · -- p = true, q = true, R0 ≠ 0
        obtain ⟨fq, fr⟩ := F2 sx sy
        have FQ := Lib.hid fq
        have FR := Lib.hid fr
        have HR0 := Lib.hid hr0
        clear fq fr hr0 F1 F2 F3 F4 sx sy h0
        obtain ⟨_, a0, a1, _, _⟩ := id s0.ba
        obtain ⟨_, b0, b1, _, _⟩ := id s0.bb
        obtain ⟨_, q0, q1, q2, q3⟩ := id s0.bq
        obtain ⟨_, r0, r1, r2, r3⟩ := id s0.br
        go_wp2_with fail
        refine (neg_any pr Ar nr cr _ _ s0.zr (by omega)).mono ?_
        rintro e w3 ⟨p3, A3, n3, c3, rfl, z3, k3⟩
        have l3 := z3.len
        rw [Int.natAbs_neg, Int.natAbs_natCast] at l3
        have L3 := Lib.hid l3
        clear l3
        have s3 := s0.below k3
        have s4 := s3.setR z3
        clear a0 a1 b0 b1 q0 q1 q2 q3 r0 r1 r2 r3
        obtain ⟨_, a0, a1, _, _⟩ := id s3.ba
        obtain ⟨_, b0, b1, _, _⟩ := id s3.bb
        obtain ⟨_, q0, q1, q2, q3⟩ := id s3.bq
        obtain ⟨_, r0, r1, r2, r3⟩ := id s3.br
        clear k3 s0
        have hnr : 0 < n3 := by
          rw [← s4.zr.len]
          rcases Nat.eq_zero_or_pos (digs (-((x.natAbs % y.natAbs : Nat) : Int)).natAbs).length with h1 | h1
          · have := digs_nil.1 (List.eq_nil_of_length_eq_zero h1)
            have := HR0.out
            omega
          · exact h1
        have hpr : p3 = true := by
          rw [s4.zr.sign]
          have := HR0.out
          simp
          omega
        subst hpr
        obtain ⟨_, d0, d1, d2, d3⟩ := id s3.b1
        obtain ⟨_, e0, e1, e2, e3⟩ := id s3.b2
        go_wp2_with fail
        clear a0 a1 b0 b1 q0 q1 q2 q3 r0 r1 r2 r3
        clear d0 d1 d2 d3 e0 e1 e2 e3 z3 s3
        generalize (w3.setCell ⟨h, 0, none⟩ (.bool true)).setCell ⟨h, 1, none⟩ (.slice A3 n3 c3) = w5 at *
        obtain ⟨_, q0, q1, q2, q3⟩ := id s4.bq
        obtain ⟨_, r0, r1, r2, r3⟩ := id s4.br
        obtain ⟨_, d0, d1, d2, d3⟩ := id s4.b1
        obtain ⟨_, e0, e1, e2, e3⟩ := id s4.b2
        go_region
        go_wp2
        exact bodyPost_ret (v := .tuple #[.agg #[.bool pq, .slice Aq nq cq], .agg #[.bool true, .slice A3 n3 c3]]) (by simp [results, Try.results20, go_sem, d0, d1, e0, e1]) rfl (s4.eqQR FQ.out FR.out).done
end Go.Proofs.Ytnopgdheffnfdaa
