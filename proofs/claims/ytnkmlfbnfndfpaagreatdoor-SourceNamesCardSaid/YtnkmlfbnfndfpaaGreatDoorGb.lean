import Derived.Test.YtnkmlfbnfndfpaaGreatDoorGa
import Derived.Deep.RegionWith
import Derived.Laws.MakeOwn
import Derived.Deep.DeepCutAuto
import Derived.Laws.Shifts
/- The call Fits: is a number one of 64 bits; that number. -/
namespace Go.Proofs.YtnkmlfbnfndfpaaGreatDoor
open Go.RowKit

def two63 : Int := 9223372036854775808
theorem two63_pow : (2 : Int) ^ 63 = two63 := by decide
theorem two63_small : (two63).natAbs < 65536 ^ 4 := by rw [pow4]; decide
theorem ntwo63_small : (-two63).natAbs < 65536 ^ 4 := by rw [pow4]; decide

theorem val_drop_le (l : List Nat) (k : Nat) : val (l.drop k) ≤ val l := by
  rcases Nat.lt_or_ge l.length k with h | h
  · rw [List.drop_of_length_le (by omega)]; exact Nat.zero_le _
  · rw [val_split l k h]
    have : val (l.drop k) ≤ 65536 ^ k * val (l.drop k) := Nat.le_mul_of_pos_left _ (Nat.pow_pos (by decide))
    omega
/-- What holds at the head of a round of Fits. -/
def FitsRel (p : Bool) (n : Nat) (l : List Nat) (v i : Value) : Prop :=
  ∃ k : Nat, k ≤ n ∧ i = .int .i64 ((k : Int) - 1) ∧ v = .int .i64 (sgn p (val (l.drop k)))

end Go.Proofs.YtnkmlfbnfndfpaaGreatDoor

/- The call Mul: the product of two numbers. -/
namespace Go.Proofs.YtnkmlfbnfndfpaaGreatDoor
open Go.RowKit

/-- block g holds the digits l, as cells of int, not frozen -/
structure Row (w : World) (g : Nat) (l : List Nat) : Prop where
  lt : g < w.heap.size
  dig : Dig l
  cells : ∀ j, j < l.length → w.cell? ⟨g, j, none⟩ = some (.int .i64 (l.getD j 0 : Nat))
  frz : ∀ j, w.frozen? ⟨g, j, none⟩ = false
theorem Row.drew {w : World} {g : Nat} {l : List Nat} (h : Row w g l) (k : Nat) : Row (w.drewN k) g l := ⟨h.lt, h.dig, h.cells, h.frz⟩
theorem Row.set {w : World} {g : Nat} {l : List Nat} (h : Row w g l) {i d : Nat} (hi : i < l.length) (hd : d < 65536) : Row (w.setCell ⟨g, i, none⟩ (.int .i64 (d : Int))) g (l.set i d) := by
  refine ⟨by simpa [World.setCell] using h.lt, h.dig.set hd, fun j hj => ?_, fun j => by simp [h.frz]⟩
  by_cases e : i = j
  · subst e
    rw [World.cell?_setCell_same _ _ _ (h.cells i hi)]
    simp [hi]
  · rw [World.cell?_setCell_other _ _ _ _ (fun e' => e (congrArg Addr.off e'))]
    rw [h.cells j (by simpa using hj)]
    simp [List.getD_eq_getElem?_getD, e]
theorem Row.ds {w : World} {g : Nat} {l : List Nat} (h : Row w g l) (hl : l.length ≤ 1000000) : Ds w (some ⟨g, 0, none⟩) l.length l.length l :=
  ⟨rfl, Nat.le_refl _, by unfold maxLen; omega, h.dig, fun _ => ⟨g, rfl, h.lt, h.cells⟩⟩

theorem Row.of_made {w : World} {base g n N : Nat} (h : w.ownsRow base 3 1 (.slice (some ⟨g, 0, none⟩) n n) n (madeCells (Value.int .i64 0).cells N).toList) (hN : N = n) : Row w g (List.replicate n 0) := by
  subst hN
  have hl : (madeCells (Value.int .i64 0).cells N).toList = List.replicate N (.int .i64 0) := toList_madeCells_one _ _
  rw [hl] at h
  refine ⟨(h.lt g rfl).2, Dig.replicate _, fun j hj => ?_, fun j => ?_⟩
  · have hj' : j < N := by simpa using hj
    have := h.cells (g := g) rfl j (.int .i64 0) (by simp [hj'])
    have ea : ((⟨g, 0, none⟩ : Addr).add j) = ⟨g, j, none⟩ := by unfold Addr.add; split <;> simp_all
    rw [ea] at this
    rw [this]
    simp [hj']
  · rcases h.2 with ⟨h0, _⟩ | ⟨g', cap, cur, hv, _, hh, _⟩
    · cases h0
    · injection hv with h1 _ _
      injection h1 with h1
      injection h1 with h1 _ _
      subst h1
      simp [World.frozen?, hh]

theorem sgn_mul (p q : Bool) (u v : Nat) : sgn (p != q) (u * v) = sgn p u * sgn q v := by
  cases p <;> cases q
  · show ((u * v : Nat) : Int) = (u : Int) * (v : Int)
    rw [Int.natCast_mul]
  · show -((u * v : Nat) : Int) = (u : Int) * -(v : Int)
    rw [Int.natCast_mul, Int.mul_neg]
  · show -((u * v : Nat) : Int) = -(u : Int) * (v : Int)
    rw [Int.natCast_mul, Int.neg_mul]
  · show ((u * v : Nat) : Int) = -(u : Int) * -(v : Int)
    rw [Int.natCast_mul, Int.neg_mul_neg]

/-- What holds at the head of a round of Mul's outer loop, and of the inner one. -/
def MulRel (w3 : World) (g N : Nat) (a b : List Nat) (i : Value) (wr : World) : Prop :=
  ∃ (I : Nat) (out : List Nat), i = .int .i64 I ∧ I ≤ a.length ∧ Row wr g out ∧ out.length = N ∧ val out = val (a.take I) * val b ∧ Below w3.heap.size w3 wr
def MulIn (w3 : World) (g N I : Nat) (a b : List Nat) (cr k : Value) (wr : World) : Prop :=
  ∃ (c K : Nat) (out : List Nat), cr = .int .i64 c ∧ k = .int .i64 K ∧ K ≤ b.length + 1 ∧ c < 65536 ∧ Row wr g out ∧ out.length = N ∧
    val out + c * 65536 ^ (I + K) = val (a.take I) * val b + a.getD I 0 * val (b.take K) * 65536 ^ I ∧ Below w3.heap.size w3 wr

end Go.Proofs.YtnkmlfbnfndfpaaGreatDoor

/- The call long: the quotient and the rest of two numbers without signs, bit by bit. -/
namespace Go.Proofs.YtnkmlfbnfndfpaaGreatDoor
open Go.RowKit

/-- What long leaves. -/
def RetQR (w : World) (q r : Int) (e : Ending) (w' : World) : Prop :=
  ∃ p A n c s B m d, e = .returned (.tuple #[.agg #[.bool p, .slice A n c], .agg #[.bool s, .slice B m d]]) ∧ Zs w' p A n c q ∧ Zs w' s B m d r ∧ Below w.heap.size w w'

/-- What stands while long runs: the blocks of a, b, the two answers, q and r; the four numbers; below the old memory's end all as it was. -/
structure LongSt (w W : World) (A : Option Addr) (n c : Nat) (x : Int) (B : Option Addr) (m d : Nat) (y : Int) (pq : Bool) (Aq : Option Addr) (nq cq : Nat) (Q : Int) (pr : Bool) (Ar : Option Addr) (nr cr : Nat) (R : Int) : Prop where
  ba : Box W w.heap.size false (.slice A n c)
  bb : Box W (w.heap.size + 1) false (.slice B m d)
  b1 : Box W (w.heap.size + 1 + 1) false (.slice none 0 0)
  b2 : Box W (w.heap.size + 1 + 1 + 1) false (.slice none 0 0)
  bq : Box W (w.heap.size + 1 + 1 + 1 + 1) pq (.slice Aq nq cq)
  br : Box W (w.heap.size + 1 + 1 + 1 + 1 + 1) pr (.slice Ar nr cr)
  za : Zs W false A n c x
  zb : Zs W false B m d y
  zq : Zs W pq Aq nq cq Q
  zr : Zs W pr Ar nr cr R
  hb : Below w.heap.size w W
section
variable {w W W' : World} {A : Option Addr} {n c : Nat} {x : Int} {B : Option Addr} {m d : Nat} {y : Int} {pq : Bool} {Aq : Option Addr} {nq cq : Nat} {Q : Int} {pr : Bool} {Ar : Option Addr} {nr cr : Nat} {R : Int}
theorem LongSt.below (h : LongSt w W A n c x B m d y pq Aq nq cq Q pr Ar nr cr R) (k : Below W.heap.size W W') : LongSt w W' A n c x B m d y pq Aq nq cq Q pr Ar nr cr R :=
  ⟨h.ba.below' k, h.bb.below' k, h.b1.below' k, h.b2.below' k, h.bq.below' k, h.br.below' k, h.za.below k, h.zb.below k, h.zq.below k, h.zr.below k, below_next h.hb k⟩
theorem LongSt.eqQR (h : LongSt w W A n c x B m d y pq Aq nq cq Q pr Ar nr cr R) {Q' R' : Int} (hQ : Q = Q') (hR : R = R') : LongSt w W A n c x B m d y pq Aq nq cq Q' pr Ar nr cr R' := hQ ▸ hR ▸ h
theorem LongSt.drew (h : LongSt w W A n c x B m d y pq Aq nq cq Q pr Ar nr cr R) : LongSt w W.drew A n c x B m d y pq Aq nq cq Q pr Ar nr cr R := h.below (Below.refl _ _).drew
theorem LongSt.setR (h : LongSt w W A n c x B m d y pq Aq nq cq Q pr Ar nr cr R) {p : Bool} {C : Option Addr} {k f : Nat} {z : Int} (hz : Zs W p C k f z) :
    LongSt w ((W.setCell ⟨w.heap.size + 1 + 1 + 1 + 1 + 1, 0, none⟩ (.bool p)).setCell ⟨w.heap.size + 1 + 1 + 1 + 1 + 1, 1, none⟩ (.slice C k f)) A n c x B m d y pq Aq nq cq Q p C k f z :=
  ⟨h.ba.far2 (by omega) _ _, h.bb.far2 (by omega) _ _, h.b1.far2 (by omega) _ _, h.b2.far2 (by omega) _ _, h.bq.far2 (by omega) _ _, h.br.self2 _ _, h.za.set2 h.br.c0 _ _, h.zb.set2 h.br.c0 _ _, h.zq.set2 h.br.c0 _ _, hz.set2 h.br.c0 _ _,
   (h.hb.setCell (p := ⟨w.heap.size + 1 + 1 + 1 + 1 + 1, 0, none⟩) (by show _ ≤ w.heap.size + 1 + 1 + 1 + 1 + 1; omega) _).setCell (p := ⟨w.heap.size + 1 + 1 + 1 + 1 + 1, 1, none⟩) (by show _ ≤ w.heap.size + 1 + 1 + 1 + 1 + 1; omega) _⟩
theorem LongSt.setQ (h : LongSt w W A n c x B m d y pq Aq nq cq Q pr Ar nr cr R) {p : Bool} {C : Option Addr} {k f : Nat} {z : Int} (hz : Zs W p C k f z) :
    LongSt w ((W.setCell ⟨w.heap.size + 1 + 1 + 1 + 1, 0, none⟩ (.bool p)).setCell ⟨w.heap.size + 1 + 1 + 1 + 1, 1, none⟩ (.slice C k f)) A n c x B m d y p C k f z pr Ar nr cr R :=
  ⟨h.ba.far2 (by omega) _ _, h.bb.far2 (by omega) _ _, h.b1.far2 (by omega) _ _, h.b2.far2 (by omega) _ _, h.bq.self2 _ _, h.br.far2 (by omega) _ _, h.za.set2 h.bq.c0 _ _, h.zb.set2 h.bq.c0 _ _, hz.set2 h.bq.c0 _ _, h.zr.set2 h.bq.c0 _ _,
   (h.hb.setCell (p := ⟨w.heap.size + 1 + 1 + 1 + 1, 0, none⟩) (by show _ ≤ w.heap.size + 1 + 1 + 1 + 1; omega) _).setCell (p := ⟨w.heap.size + 1 + 1 + 1 + 1, 1, none⟩) (by show _ ≤ w.heap.size + 1 + 1 + 1 + 1; omega) _⟩
theorem LongSt.done (h : LongSt w W A n c x B m d y pq Aq nq cq Q pr Ar nr cr R) :
    RetQR w Q R (.returned (.tuple #[.agg #[.bool pq, .slice Aq nq cq], .agg #[.bool pr, .slice Ar nr cr]])) (((((W.setCell ⟨w.heap.size + 1 + 1, 0, none⟩ (.bool pq)).setCell ⟨w.heap.size + 1 + 1, 1, none⟩ (.slice Aq nq cq)).setCell ⟨w.heap.size + 1 + 1 + 1, 0, none⟩ (.bool pr)).setCell ⟨w.heap.size + 1 + 1 + 1, 1, none⟩ (.slice Ar nr cr)).drew) := by
  have h2 := h.b2.far2 (b' := w.heap.size + 1 + 1) (by omega) (.bool pq) (.slice Aq nq cq)
  refine ⟨pq, Aq, nq, cq, pr, Ar, nr, cr, rfl, ((h.zq.set2 h.b1.c0 pq _).set2 h2.c0 pr _).drew, ((h.zr.set2 h.b1.c0 pq _).set2 h2.c0 pr _).drew, ?_⟩
  have k1 : w.heap.size ≤ w.heap.size + 1 + 1 := by omega
  have k2 : w.heap.size ≤ w.heap.size + 1 + 1 + 1 := by omega
  exact ((((h.hb.setCell (p := ⟨w.heap.size + 1 + 1, 0, none⟩) k1 _).setCell (p := ⟨w.heap.size + 1 + 1, 1, none⟩) k1 _).setCell (p := ⟨w.heap.size + 1 + 1 + 1, 0, none⟩) k2 _).setCell (p := ⟨w.heap.size + 1 + 1 + 1, 1, none⟩) k2 _).drew
end

theorem bitI (D j : Nat) : ((D : Int) / 2 ^ j).tmod 2 = ((D / 2 ^ j % 2 : Nat) : Int) := by
  have h : ((D : Int) / 2 ^ j) = ((D / 2 ^ j : Nat) : Int) := by
    rw [Int.natCast_ediv, Int.natCast_pow]; rfl
  rw [h, Int.tmod_eq_emod_of_nonneg (Int.natCast_nonneg _)]
  generalize D / 2 ^ j = u
  omega
theorem long_step (x y k : Nat) (h0 : 0 < y) :
    let t := x / 2 ^ k % 2
    let Q := x / 2 ^ (k + 1) / y
    let R := x / 2 ^ (k + 1) % y
    (y ≤ R + R + t → x / 2 ^ k / y = Q + Q + 1 ∧ x / 2 ^ k % y = R + R + t - y) ∧ (¬ y ≤ R + R + t → x / 2 ^ k / y = Q + Q ∧ x / 2 ^ k % y = R + R + t) ∧ R < y ∧ Q ≤ x := by
  intro t Q R
  have e1 : x / 2 ^ (k + 1) = x / 2 ^ k / 2 := by rw [Nat.pow_succ, Nat.div_div_eq_div_mul]
  have e2 : x / 2 ^ k = 2 * (x / 2 ^ (k + 1)) + t := by rw [e1]; omega
  have e3 : x / 2 ^ (k + 1) = y * Q + R := (Nat.div_add_mod _ _).symm
  have hR : R < y := Nat.mod_lt _ h0
  have ht : t < 2 := Nat.mod_lt _ (by decide)
  have e4 : x / 2 ^ k = y * (Q + Q) + (R + R + t) := by
    have h := Nat.mul_add y Q Q
    omega
  have hQ : Q ≤ x := Nat.le_trans (Nat.div_le_self _ _) (Nat.div_le_self _ _)
  refine ⟨fun h => ?_, fun h => ?_, hR, hQ⟩
  · have e5 : x / 2 ^ k = y * (Q + Q + 1) + (R + R + t - y) := by rw [e4, Nat.mul_succ]; omega
    have h6 : R + R + t - y < y := by omega
    rw [e5]
    exact ⟨by rw [Nat.mul_add_div h0, Nat.div_eq_of_lt h6, Nat.add_zero], by rw [Nat.mul_add_mod, Nat.mod_eq_of_lt h6]⟩
  · have h6 : R + R + t < y := by omega
    rw [e4]
    exact ⟨by rw [Nat.mul_add_div h0, Nat.div_eq_of_lt h6, Nat.add_zero], by rw [Nat.mul_add_mod, Nat.mod_eq_of_lt h6]⟩

/-- What holds at the head of a round of long. -/
def LongRel (w : World) (A : Option Addr) (n c x : Nat) (B : Option Addr) (m d y : Nat) (i : Value) (W : World) : Prop :=
  ∃ (k : Nat) (pq : Bool) (Aq : Option Addr) (nq cq : Nat) (pr : Bool) (Ar : Option Addr) (nr cr : Nat), i = .int .i64 ((k : Int) - 1) ∧ k ≤ 16 * n ∧
    LongSt w W A n c x B m d y pq Aq nq cq ((x / 2 ^ k / y : Nat) : Int) pr Ar nr cr ((x / 2 ^ k % y : Nat) : Int)

end Go.Proofs.YtnkmlfbnfndfpaaGreatDoor

/- The call Div: the greatest whole number at most a quotient, and the rest. -/
namespace Go.Proofs.YtnkmlfbnfndfpaaGreatDoor
open Go.RowKit

theorem below_alloc (W : World) (o : Obj) : Below W.heap.size W (W.alloc o) := (Below.refl _ _).alloc (Nat.le_refl _) o

/-- What stands in the first statement of Div: L are the blocks made for q and r so far. -/
structure PreSt (w W : World) (L : List Nat) (p : Bool) (A : Option Addr) (n c : Nat) (x : Int) (q : Bool) (B : Option Addr) (m d : Nat) (y : Int) : Prop where
  ba : Box W w.heap.size p (.slice A n c)
  bb : Box W (w.heap.size + 1) q (.slice B m d)
  b1 : Box W (w.heap.size + 1 + 1) false (.slice none 0 0)
  b2 : Box W (w.heap.size + 1 + 1 + 1) false (.slice none 0 0)
  zx : Zs W p A n c x
  zy : Zs W q B m d y
  hb : Below w.heap.size w W
  al : ∀ b ∈ L, Box W b false (.slice none 0 0)
  ge : ∀ b ∈ L, w.heap.size + 1 + 1 + 1 < b
  nd : L.Nodup
/-- What stands behind it: g and h are the blocks of q and r. -/
structure DivSt (w W : World) (g h : Nat) (p : Bool) (A : Option Addr) (n c : Nat) (q : Bool) (B : Option Addr) (m d : Nat) (y : Int) (pq : Bool) (Aq : Option Addr) (nq cq : Nat) (Q : Int) (pr : Bool) (Ar : Option Addr) (nr cr : Nat) (R : Int) : Prop where
  ba : Box W w.heap.size p (.slice A n c)
  bb : Box W (w.heap.size + 1) q (.slice B m d)
  b1 : Box W (w.heap.size + 1 + 1) false (.slice none 0 0)
  b2 : Box W (w.heap.size + 1 + 1 + 1) false (.slice none 0 0)
  bq : Box W g pq (.slice Aq nq cq)
  br : Box W h pr (.slice Ar nr cr)
  zy : Zs W q B m d y
  zq : Zs W pq Aq nq cq Q
  zr : Zs W pr Ar nr cr R
  hb : Below w.heap.size w W
  gg : w.heap.size + 1 + 1 + 1 < g
  gh : w.heap.size + 1 + 1 + 1 < h
  ne : g ≠ h
section
variable {w W W' : World} {L : List Nat} {p : Bool} {A : Option Addr} {n c : Nat} {x : Int} {q : Bool} {B : Option Addr} {m d : Nat} {y : Int}
theorem PreSt.below (s : PreSt w W L p A n c x q B m d y) (k : Below W.heap.size W W') : PreSt w W' L p A n c x q B m d y :=
  ⟨s.ba.below' k, s.bb.below' k, s.b1.below' k, s.b2.below' k, s.zx.below k, s.zy.below k, below_next s.hb k, fun b hb => (s.al b hb).below' k, s.ge, s.nd⟩
theorem PreSt.drew (s : PreSt w W L p A n c x q B m d y) : PreSt w W.drew L p A n c x q B m d y := s.below (Below.refl _ _).drew
variable {g h : Nat} {pq : Bool} {Aq : Option Addr} {nq cq : Nat} {Q : Int} {pr : Bool} {Ar : Option Addr} {nr cr : Nat} {R : Int}
theorem DivSt.below (s : DivSt w W g h p A n c q B m d y pq Aq nq cq Q pr Ar nr cr R) (k : Below W.heap.size W W') : DivSt w W' g h p A n c q B m d y pq Aq nq cq Q pr Ar nr cr R :=
  ⟨s.ba.below' k, s.bb.below' k, s.b1.below' k, s.b2.below' k, s.bq.below' k, s.br.below' k, s.zy.below k, s.zq.below k, s.zr.below k, below_next s.hb k, s.gg, s.gh, s.ne⟩
theorem DivSt.setR (s : DivSt w W g h p A n c q B m d y pq Aq nq cq Q pr Ar nr cr R) {t : Bool} {C : Option Addr} {k f : Nat} {z : Int} (hz : Zs W t C k f z) :
    DivSt w ((W.setCell ⟨h, 0, none⟩ (.bool t)).setCell ⟨h, 1, none⟩ (.slice C k f)) g h p A n c q B m d y pq Aq nq cq Q t C k f z := by
  have h1 := s.gh
  have h2 := s.ne
  exact ⟨s.ba.far2 (by omega) _ _, s.bb.far2 (by omega) _ _, s.b1.far2 (by omega) _ _, s.b2.far2 (by omega) _ _, s.bq.far2 (by omega) _ _, s.br.self2 _ _, s.zy.set2 s.br.c0 _ _, s.zq.set2 s.br.c0 _ _, hz.set2 s.br.c0 _ _,
   (s.hb.setCell (p := ⟨h, 0, none⟩) (by show _ ≤ h; omega) _).setCell (p := ⟨h, 1, none⟩) (by show _ ≤ h; omega) _, s.gg, s.gh, s.ne⟩
theorem DivSt.setQ (s : DivSt w W g h p A n c q B m d y pq Aq nq cq Q pr Ar nr cr R) {t : Bool} {C : Option Addr} {k f : Nat} {z : Int} (hz : Zs W t C k f z) :
    DivSt w ((W.setCell ⟨g, 0, none⟩ (.bool t)).setCell ⟨g, 1, none⟩ (.slice C k f)) g h p A n c q B m d y t C k f z pr Ar nr cr R := by
  have h1 := s.gg
  have h2 := s.ne
  exact ⟨s.ba.far2 (by omega) _ _, s.bb.far2 (by omega) _ _, s.b1.far2 (by omega) _ _, s.b2.far2 (by omega) _ _, s.bq.self2 _ _, s.br.far2 (by omega) _ _, s.zy.set2 s.bq.c0 _ _, hz.set2 s.bq.c0 _ _, s.zr.set2 s.bq.c0 _ _,
   (s.hb.setCell (p := ⟨g, 0, none⟩) (by show _ ≤ g; omega) _).setCell (p := ⟨g, 1, none⟩) (by show _ ≤ g; omega) _, s.gg, s.gh, s.ne⟩
theorem PreSt.base (s : PreSt w W L p A n c x q B m d y) (hg : Box W g pq (.slice Aq nq cq)) (hh : Box W h pr (.slice Ar nr cr)) (gg : w.heap.size + 1 + 1 + 1 < g) (gh : w.heap.size + 1 + 1 + 1 < h) (ne : g ≠ h) (zq : Zs W pq Aq nq cq Q) (zr : Zs W pr Ar nr cr R) :
    DivSt w W g h p A n c q B m d y pq Aq nq cq Q pr Ar nr cr R := ⟨s.ba, s.bb, s.b1, s.b2, hg, hh, s.zy, zq, zr, s.hb, gg, gh, ne⟩
theorem PreSt.fin1 (s : PreSt w W L p A n c x q B m d y) (hg : g ∈ L) (hh : h ∈ L) (ne : g ≠ h) (zq : Zs W pq Aq nq cq Q) (zr : Zs W pr Ar nr cr R) :
    DivSt w ((((W.setCell ⟨g, 0, none⟩ (.bool pq)).setCell ⟨g, 1, none⟩ (.slice Aq nq cq)).setCell ⟨h, 0, none⟩ (.bool pr)).setCell ⟨h, 1, none⟩ (.slice Ar nr cr)) g h p A n c q B m d y pq Aq nq cq Q pr Ar nr cr R :=
  ((s.base (s.al g hg) (s.al h hh) (s.ge g hg) (s.ge h hh) ne (Zs.zero W) (Zs.zero W)).setQ zq).setR (zr.set2 (s.al g hg).c0 _ _)
theorem PreSt.fin1a (s : PreSt w W [h, g] p A n c x q B m d y) (zq : Zs W pq Aq nq cq Q) (zr : Zs W pr Ar nr cr R) :
    DivSt w ((((W.setCell ⟨g, 0, none⟩ (.bool pq)).setCell ⟨g, 1, none⟩ (.slice Aq nq cq)).setCell ⟨h, 0, none⟩ (.bool pr)).setCell ⟨h, 1, none⟩ (.slice Ar nr cr)) g h p A n c q B m d y pq Aq nq cq Q pr Ar nr cr R :=
  s.fin1 (by simp) (by simp) (fun e => (List.nodup_cons.1 s.nd).1 (by simp [e])) zq zr
theorem PreSt.fin1b (s : PreSt w W [g, h] p A n c x q B m d y) (zq : Zs W pq Aq nq cq Q) (zr : Zs W pr Ar nr cr R) :
    DivSt w ((((W.setCell ⟨g, 0, none⟩ (.bool pq)).setCell ⟨g, 1, none⟩ (.slice Aq nq cq)).setCell ⟨h, 0, none⟩ (.bool pr)).setCell ⟨h, 1, none⟩ (.slice Ar nr cr)) g h p A n c q B m d y pq Aq nq cq Q pr Ar nr cr R :=
  s.fin1 (by simp) (by simp) (fun e => (List.nodup_cons.1 s.nd).1 (by simp [e])) zq zr
theorem size_set2 (W : World) (b : Nat) (u v : Value) : ((W.setCell ⟨b, 0, none⟩ u).setCell ⟨b, 1, none⟩ v).heap.size = W.heap.size := by simp [World.setCell]
theorem ge_ne {a b : Nat} (h : a + 1 + 1 + 1 < b) : b ≠ a ∧ b ≠ a + 1 ∧ b + 1 ≠ a ∧ b + 1 ≠ a + 1 := by omega
theorem DivSt.eqQR (s : DivSt w W g h p A n c q B m d y pq Aq nq cq Q pr Ar nr cr R) {Q' R' : Int} (hQ : Q = Q') (hR : R = R') : DivSt w W g h p A n c q B m d y pq Aq nq cq Q' pr Ar nr cr R' := hQ ▸ hR ▸ s
theorem DivSt.done (s : DivSt w W g h p A n c q B m d y pq Aq nq cq Q pr Ar nr cr R) :
    RetQR w Q R (.returned (.tuple #[.agg #[.bool pq, .slice Aq nq cq], .agg #[.bool pr, .slice Ar nr cr]])) (((((W.setCell ⟨w.heap.size + 1 + 1, 0, none⟩ (.bool pq)).setCell ⟨w.heap.size + 1 + 1, 1, none⟩ (.slice Aq nq cq)).setCell ⟨w.heap.size + 1 + 1 + 1, 0, none⟩ (.bool pr)).setCell ⟨w.heap.size + 1 + 1 + 1, 1, none⟩ (.slice Ar nr cr)).drew) := by
  have h2 := s.b2.far2 (b' := w.heap.size + 1 + 1) (by omega) (.bool pq) (.slice Aq nq cq)
  refine ⟨pq, Aq, nq, cq, pr, Ar, nr, cr, rfl, ((s.zq.set2 s.b1.c0 pq _).set2 h2.c0 pr _).drew, ((s.zr.set2 s.b1.c0 pq _).set2 h2.c0 pr _).drew, ?_⟩
  have k1 : w.heap.size ≤ w.heap.size + 1 + 1 := by omega
  have k2 : w.heap.size ≤ w.heap.size + 1 + 1 + 1 := by omega
  exact ((((s.hb.setCell (p := ⟨w.heap.size + 1 + 1, 0, none⟩) k1 _).setCell (p := ⟨w.heap.size + 1 + 1, 1, none⟩) k1 _).setCell (p := ⟨w.heap.size + 1 + 1 + 1, 0, none⟩) k2 _).setCell (p := ⟨w.heap.size + 1 + 1 + 1, 1, none⟩) k2 _).drew
end

theorem fd_all (x y : Int) (h0 : y ≠ 0) :
    (¬ x < 0 → ¬ y < 0 → ((x.natAbs / y.natAbs : Nat) : Int) = x.fdiv y ∧ ((x.natAbs % y.natAbs : Nat) : Int) = x.fmod y) ∧
    (x < 0 → y < 0 → ((x.natAbs / y.natAbs : Nat) : Int) = x.fdiv y ∧ -((x.natAbs % y.natAbs : Nat) : Int) = x.fmod y) ∧
    (¬ x < 0 → y < 0 → (x.natAbs % y.natAbs = 0 → -((x.natAbs / y.natAbs : Nat) : Int) = x.fdiv y ∧ ((x.natAbs % y.natAbs : Nat) : Int) = x.fmod y) ∧ (x.natAbs % y.natAbs ≠ 0 → -((x.natAbs / y.natAbs : Nat) : Int) - 1 = x.fdiv y ∧ ((x.natAbs % y.natAbs : Nat) : Int) + y = x.fmod y)) ∧
    (x < 0 → ¬ y < 0 → (x.natAbs % y.natAbs = 0 → -((x.natAbs / y.natAbs : Nat) : Int) = x.fdiv y ∧ -((x.natAbs % y.natAbs : Nat) : Int) = x.fmod y) ∧ (x.natAbs % y.natAbs ≠ 0 → -((x.natAbs / y.natAbs : Nat) : Int) - 1 = x.fdiv y ∧ -((x.natAbs % y.natAbs : Nat) : Int) + y = x.fmod y)) := by
  have hd := Nat.div_add_mod x.natAbs y.natAbs
  have hlt : x.natAbs % y.natAbs < y.natAbs := Nat.mod_lt _ (by omega)
  generalize x.natAbs / y.natAbs = Q at *
  generalize x.natAbs % y.natAbs = R at *
  have hd' : (y.natAbs : Int) * (Q : Int) + R = x.natAbs := by rw [← hd, Int.natCast_add, Int.natCast_mul]
  refine ⟨fun hx hy => ?_, fun hx hy => ?_, fun hx hy => ⟨fun hr => ?_, fun hr => ?_⟩, fun hx hy => ⟨fun hr => ?_, fun hr => ?_⟩⟩
  · have hp : 0 < y := by omega
    have e : (y.natAbs : Int) = y := by omega
    rw [e] at hd'
    have := (Int.fdiv_fmod_unique (a := x) (b := y) (r := R) (q := Q) hp).2 ⟨by omega, by omega, by omega⟩
    exact ⟨this.1.symm, this.2.symm⟩
  · have e : (y.natAbs : Int) = -y := by omega
    rw [e, Int.neg_mul] at hd'
    have := (Int.fdiv_fmod_unique' (a := x) (b := y) (r := -(R : Int)) (q := Q) hy).2 ⟨by omega, by omega, by omega⟩
    exact ⟨this.1.symm, this.2.symm⟩
  · have e : (y.natAbs : Int) = -y := by omega
    rw [e, Int.neg_mul] at hd'
    have := (Int.fdiv_fmod_unique' (a := x) (b := y) (r := (R : Int)) (q := -(Q : Int)) hy).2 ⟨by rw [Int.mul_neg]; omega, by omega, by omega⟩
    exact ⟨this.1.symm, this.2.symm⟩
  · have e : (y.natAbs : Int) = -y := by omega
    rw [e, Int.neg_mul] at hd'
    have := (Int.fdiv_fmod_unique' (a := x) (b := y) (r := (R : Int) + y) (q := -(Q : Int) - 1) hy).2 ⟨by rw [Int.mul_sub, Int.mul_neg, Int.mul_one]; omega, by omega, by omega⟩
    exact ⟨this.1.symm, this.2.symm⟩
  · have hp : 0 < y := by omega
    have e : (y.natAbs : Int) = y := by omega
    rw [e] at hd'
    have := (Int.fdiv_fmod_unique (a := x) (b := y) (r := -(R : Int)) (q := -(Q : Int)) hp).2 ⟨by rw [Int.mul_neg]; omega, by omega, by omega⟩
    exact ⟨this.1.symm, this.2.symm⟩
  · have hp : 0 < y := by omega
    have e : (y.natAbs : Int) = y := by omega
    rw [e] at hd'
    have := (Int.fdiv_fmod_unique (a := x) (b := y) (r := -(R : Int) + y) (q := -(Q : Int) - 1) hp).2 ⟨by rw [Int.mul_sub, Int.mul_neg, Int.mul_one]; omega, by omega, by omega⟩
    exact ⟨this.1.symm, this.2.symm⟩

/-- What holds behind the first statement of Div. -/
def DivCut (w : World) (p : Bool) (A : Option Addr) (n c : Nat) (x : Nat) (q : Bool) (B : Option Addr) (m d : Nat) (y : Int) (v6 v7 : Value) (W : World) : Prop :=
  ∃ (g h : Nat) (pq : Bool) (Aq : Option Addr) (nq cq : Nat) (pr : Bool) (Ar : Option Addr) (nr cr : Nat), v6 = .pointer (some ⟨g, 0, none⟩) ∧ v7 = .pointer (some ⟨h, 0, none⟩) ∧
    DivSt w W g h p A n c q B m d y pq Aq nq cq ((x / y.natAbs : Nat) : Int) pr Ar nr cr ((x % y.natAbs : Nat) : Int)

end Go.Proofs.YtnkmlfbnfndfpaaGreatDoor

/- Two blocks for numbers that a statement makes anywhere among its calls (a short assignment of a call with two numbers): what stands meanwhile, whatever else is kept. -/
namespace Go.Proofs.YtnkmlfbnfndfpaaGreatDoor
open Go.RowKit

theorem below_alloc2 (W : World) (o : Obj) : Below W.heap.size W (W.alloc o) := (Below.refl _ _).alloc (Nat.le_refl _) o

/-- K is kept by calls, and by a number's store into a block of numbers behind lo. -/
structure Kept (lo : Nat) (K : World → Prop) : Prop where
  below : ∀ W W', K W → Below W.heap.size W W' → K W'
  set2 : ∀ W b p v r u, K W → Box W b p v → lo < b → K ((W.setCell ⟨b, 0, none⟩ (.bool r)).setCell ⟨b, 1, none⟩ u)

/-- L: the blocks made so far, the last one first. -/
structure PreD (lo : Nat) (K : World → Prop) (W : World) (L : List Nat) : Prop where
  keep : Kept lo K
  k : K W
  lt : lo < W.heap.size
  al : ∀ b ∈ L, Box W b false (.slice none 0 0)
  ge : ∀ b ∈ L, lo < b
  nd : L.Nodup
/-- both blocks hold their numbers -/
structure DivD (lo : Nat) (K : World → Prop) (W : World) (g h : Nat) (pq : Bool) (Aq : Option Addr) (nq cq : Nat) (Q : Int) (pr : Bool) (Ar : Option Addr) (nr cr : Nat) (R : Int) : Prop where
  keep : Kept lo K
  k : K W
  bq : Box W g pq (.slice Aq nq cq)
  br : Box W h pr (.slice Ar nr cr)
  zq : Zs W pq Aq nq cq Q
  zr : Zs W pr Ar nr cr R
  gg : lo < g
  gh : lo < h
  ne : g ≠ h
section
variable {lo : Nat} {K : World → Prop} {W W' : World} {L : List Nat} {g h : Nat} {pq : Bool} {Aq : Option Addr} {nq cq : Nat} {Q : Int} {pr : Bool} {Ar : Option Addr} {nr cr : Nat} {R : Int}
theorem PreD.below (s : PreD lo K W L) (k : Below W.heap.size W W') : PreD lo K W' L :=
  ⟨s.keep, s.keep.below _ _ s.k k, Nat.lt_of_lt_of_le s.lt k.size, fun b hb => (s.al b hb).below' k, s.ge, s.nd⟩
theorem PreD.drew (s : PreD lo K W L) : PreD lo K W.drew L := s.below (Below.refl _ _).drew
theorem DivD.below (s : DivD lo K W g h pq Aq nq cq Q pr Ar nr cr R) (k : Below W.heap.size W W') : DivD lo K W' g h pq Aq nq cq Q pr Ar nr cr R :=
  ⟨s.keep, s.keep.below _ _ s.k k, s.bq.below' k, s.br.below' k, s.zq.below k, s.zr.below k, s.gg, s.gh, s.ne⟩
theorem DivD.setQ (s : DivD lo K W g h pq Aq nq cq Q pr Ar nr cr R) {t : Bool} {C : Option Addr} {k f : Nat} {z : Int} (hz : Zs W t C k f z) :
    DivD lo K ((W.setCell ⟨g, 0, none⟩ (.bool t)).setCell ⟨g, 1, none⟩ (.slice C k f)) g h t C k f z pr Ar nr cr R :=
  ⟨s.keep, s.keep.set2 _ _ _ _ _ _ s.k s.bq s.gg, s.bq.self2 _ _, s.br.far2 s.ne _ _, hz.set2 s.bq.c0 _ _, s.zr.set2 s.bq.c0 _ _, s.gg, s.gh, s.ne⟩
theorem DivD.setR (s : DivD lo K W g h pq Aq nq cq Q pr Ar nr cr R) {t : Bool} {C : Option Addr} {k f : Nat} {z : Int} (hz : Zs W t C k f z) :
    DivD lo K ((W.setCell ⟨h, 0, none⟩ (.bool t)).setCell ⟨h, 1, none⟩ (.slice C k f)) g h pq Aq nq cq Q t C k f z :=
  ⟨s.keep, s.keep.set2 _ _ _ _ _ _ s.k s.br s.gh, s.bq.far2 (Ne.symm s.ne) _ _, s.br.self2 _ _, s.zq.set2 s.br.c0 _ _, hz.set2 s.br.c0 _ _, s.gg, s.gh, s.ne⟩
theorem PreD.fin1 (s : PreD lo K W L) (hg : g ∈ L) (hh : h ∈ L) (ne : g ≠ h) (zq : Zs W pq Aq nq cq Q) (zr : Zs W pr Ar nr cr R) :
    DivD lo K ((((W.setCell ⟨g, 0, none⟩ (.bool pq)).setCell ⟨g, 1, none⟩ (.slice Aq nq cq)).setCell ⟨h, 0, none⟩ (.bool pr)).setCell ⟨h, 1, none⟩ (.slice Ar nr cr)) g h pq Aq nq cq Q pr Ar nr cr R :=
  have s0 : DivD lo K W g h false none 0 0 0 false none 0 0 0 := ⟨s.keep, s.k, s.al g hg, s.al h hh, Zs.zero W, Zs.zero W, s.ge g hg, s.ge h hh, ne⟩
  (s0.setQ zq).setR (zr.set2 (s.al g hg).c0 _ _)
theorem PreD.fin1a (s : PreD lo K W [h, g]) (zq : Zs W pq Aq nq cq Q) (zr : Zs W pr Ar nr cr R) :
    DivD lo K ((((W.setCell ⟨g, 0, none⟩ (.bool pq)).setCell ⟨g, 1, none⟩ (.slice Aq nq cq)).setCell ⟨h, 0, none⟩ (.bool pr)).setCell ⟨h, 1, none⟩ (.slice Ar nr cr)) g h pq Aq nq cq Q pr Ar nr cr R :=
  s.fin1 (by simp) (by simp) (fun e => (List.nodup_cons.1 s.nd).1 (by simp [e])) zq zr
theorem PreD.fin1b (s : PreD lo K W [g, h]) (zq : Zs W pq Aq nq cq Q) (zr : Zs W pr Ar nr cr R) :
    DivD lo K ((((W.setCell ⟨g, 0, none⟩ (.bool pq)).setCell ⟨g, 1, none⟩ (.slice Aq nq cq)).setCell ⟨h, 0, none⟩ (.bool pr)).setCell ⟨h, 1, none⟩ (.slice Ar nr cr)) g h pq Aq nq cq Q pr Ar nr cr R :=
  s.fin1 (by simp) (by simp) (fun e => (List.nodup_cons.1 s.nd).1 (by simp [e])) zq zr
theorem size_setq (W : World) (b : Nat) (u v : Value) : ((W.setCell ⟨b, 0, none⟩ u).setCell ⟨b, 1, none⟩ v).heap.size = W.heap.size := by simp [World.setCell]
end
/-- What holds behind such a statement: the two variables point to the blocks. -/
def DivCutD (lo : Nat) (K : World → Prop) (Q R : Int) (v v' : Value) (W : World) : Prop :=
  ∃ (g h : Nat) (pq : Bool) (Aq : Option Addr) (nq cq : Nat) (pr : Bool) (Ar : Option Addr) (nr cr : Nat), v = .pointer (some ⟨g, 0, none⟩) ∧ v' = .pointer (some ⟨h, 0, none⟩) ∧ DivD lo K W g h pq Aq nq cq Q pr Ar nr cr R

/-- a block behind lo is none of the first ones -/
theorem behind {lo b : Nat} (h : lo < b) (a : Nat) (ha : a ≤ lo) : b ≠ a ∧ b + 1 ≠ a := by omega
end Go.Proofs.YtnkmlfbnfndfpaaGreatDoor
