/- The call long: the quotient and the rest of two numbers without signs, bit by bit. -/
import Derived.Test.YtnopgdheffnfdaaSub
import Derived.Laws.Shifts
namespace Go.Proofs.Ytnopgdheffnfdaa
open Go.RowKit

/-- What long leaves. -/
def RetQR (w : World) (q r : Int) (e : Ending) (w' : World) : Prop :=
  ∃ p A n c s B m d, e = .returned (.tuple #[.agg #[.bool p, .slice A n c], .agg #[.bool s, .slice B m d]]) ∧ Zs w' p A n c q ∧ Zs w' s B m d r ∧ Below w.heap.size w w'

/-- What stands while long runs: the blocks of a, b, the two answers, q and r; the four numbers; below the old memory's end all as it was. -/
structure LongSt (w W : World) (A : Option Addr) (n c : Nat) (x : Int) (B : Option Addr) (m d : Nat) (y : Int) (pq : Bool) (Aq : Option Addr) (nq cq : Nat) (Q : Int) (pr : Bool) (Ar : Option Addr) (nr cr : Nat) (R : Int) : Prop where
  ba : Box W w.heap.size false (.slice A n c)
  bb : Box W (w.heap.size + 1) false (.slice B m d)
  b1 : Box W (w.heap.size + 1 + 1) false (.slice none 0 0)
  b2 : Box W (w.heap.size + 1 + 1 + 1) false (.slice none 0 0)
  bq : Box W (w.heap.size + 1 + 1 + 1 + 1) pq (.slice Aq nq cq)
  br : Box W (w.heap.size + 1 + 1 + 1 + 1 + 1) pr (.slice Ar nr cr)
  za : Zs W false A n c x
  zb : Zs W false B m d y
  zq : Zs W pq Aq nq cq Q
  zr : Zs W pr Ar nr cr R
  hb : Below w.heap.size w W
section
variable {w W W' : World} {A : Option Addr} {n c : Nat} {x : Int} {B : Option Addr} {m d : Nat} {y : Int} {pq : Bool} {Aq : Option Addr} {nq cq : Nat} {Q : Int} {pr : Bool} {Ar : Option Addr} {nr cr : Nat} {R : Int}
theorem LongSt.below (h : LongSt w W A n c x B m d y pq Aq nq cq Q pr Ar nr cr R) (k : Below W.heap.size W W') : LongSt w W' A n c x B m d y pq Aq nq cq Q pr Ar nr cr R :=
  ⟨h.ba.below' k, h.bb.below' k, h.b1.below' k, h.b2.below' k, h.bq.below' k, h.br.below' k, h.za.below k, h.zb.below k, h.zq.below k, h.zr.below k, below_next h.hb k⟩
theorem LongSt.eqQR (h : LongSt w W A n c x B m d y pq Aq nq cq Q pr Ar nr cr R) {Q' R' : Int} (hQ : Q = Q') (hR : R = R') : LongSt w W A n c x B m d y pq Aq nq cq Q' pr Ar nr cr R' := hQ ▸ hR ▸ h
theorem LongSt.drew (h : LongSt w W A n c x B m d y pq Aq nq cq Q pr Ar nr cr R) : LongSt w W.drew A n c x B m d y pq Aq nq cq Q pr Ar nr cr R := h.below (Below.refl _ _).drew
theorem LongSt.setR (h : LongSt w W A n c x B m d y pq Aq nq cq Q pr Ar nr cr R) {p : Bool} {C : Option Addr} {k f : Nat} {z : Int} (hz : Zs W p C k f z) :
    LongSt w ((W.setCell ⟨w.heap.size + 1 + 1 + 1 + 1 + 1, 0, none⟩ (.bool p)).setCell ⟨w.heap.size + 1 + 1 + 1 + 1 + 1, 1, none⟩ (.slice C k f)) A n c x B m d y pq Aq nq cq Q p C k f z :=
  ⟨h.ba.far2 (by omega) _ _, h.bb.far2 (by omega) _ _, h.b1.far2 (by omega) _ _, h.b2.far2 (by omega) _ _, h.bq.far2 (by omega) _ _, h.br.self2 _ _, h.za.set2 h.br.c0 _ _, h.zb.set2 h.br.c0 _ _, h.zq.set2 h.br.c0 _ _, hz.set2 h.br.c0 _ _,
   (h.hb.setCell (p := ⟨w.heap.size + 1 + 1 + 1 + 1 + 1, 0, none⟩) (by show _ ≤ w.heap.size + 1 + 1 + 1 + 1 + 1; omega) _).setCell (p := ⟨w.heap.size + 1 + 1 + 1 + 1 + 1, 1, none⟩) (by show _ ≤ w.heap.size + 1 + 1 + 1 + 1 + 1; omega) _⟩
theorem LongSt.setQ (h : LongSt w W A n c x B m d y pq Aq nq cq Q pr Ar nr cr R) {p : Bool} {C : Option Addr} {k f : Nat} {z : Int} (hz : Zs W p C k f z) :
    LongSt w ((W.setCell ⟨w.heap.size + 1 + 1 + 1 + 1, 0, none⟩ (.bool p)).setCell ⟨w.heap.size + 1 + 1 + 1 + 1, 1, none⟩ (.slice C k f)) A n c x B m d y p C k f z pr Ar nr cr R :=
  ⟨h.ba.far2 (by omega) _ _, h.bb.far2 (by omega) _ _, h.b1.far2 (by omega) _ _, h.b2.far2 (by omega) _ _, h.bq.self2 _ _, h.br.far2 (by omega) _ _, h.za.set2 h.bq.c0 _ _, h.zb.set2 h.bq.c0 _ _, hz.set2 h.bq.c0 _ _, h.zr.set2 h.bq.c0 _ _,
   (h.hb.setCell (p := ⟨w.heap.size + 1 + 1 + 1 + 1, 0, none⟩) (by show _ ≤ w.heap.size + 1 + 1 + 1 + 1; omega) _).setCell (p := ⟨w.heap.size + 1 + 1 + 1 + 1, 1, none⟩) (by show _ ≤ w.heap.size + 1 + 1 + 1 + 1; omega) _⟩
theorem LongSt.done (h : LongSt w W A n c x B m d y pq Aq nq cq Q pr Ar nr cr R) :
    RetQR w Q R (.returned (.tuple #[.agg #[.bool pq, .slice Aq nq cq], .agg #[.bool pr, .slice Ar nr cr]])) (((((W.setCell ⟨w.heap.size + 1 + 1, 0, none⟩ (.bool pq)).setCell ⟨w.heap.size + 1 + 1, 1, none⟩ (.slice Aq nq cq)).setCell ⟨w.heap.size + 1 + 1 + 1, 0, none⟩ (.bool pr)).setCell ⟨w.heap.size + 1 + 1 + 1, 1, none⟩ (.slice Ar nr cr)).drew) := by
  have h2 := h.b2.far2 (b' := w.heap.size + 1 + 1) (by omega) (.bool pq) (.slice Aq nq cq)
  refine ⟨pq, Aq, nq, cq, pr, Ar, nr, cr, rfl, ((h.zq.set2 h.b1.c0 pq _).set2 h2.c0 pr _).drew, ((h.zr.set2 h.b1.c0 pq _).set2 h2.c0 pr _).drew, ?_⟩
  have k1 : w.heap.size ≤ w.heap.size + 1 + 1 := by omega
  have k2 : w.heap.size ≤ w.heap.size + 1 + 1 + 1 := by omega
  exact ((((h.hb.setCell (p := ⟨w.heap.size + 1 + 1, 0, none⟩) k1 _).setCell (p := ⟨w.heap.size + 1 + 1, 1, none⟩) k1 _).setCell (p := ⟨w.heap.size + 1 + 1 + 1, 0, none⟩) k2 _).setCell (p := ⟨w.heap.size + 1 + 1 + 1, 1, none⟩) k2 _).drew
end

theorem bitI (D j : Nat) : ((D : Int) / 2 ^ j).tmod 2 = ((D / 2 ^ j % 2 : Nat) : Int) := by
  have h : ((D : Int) / 2 ^ j) = ((D / 2 ^ j : Nat) : Int) := by
    rw [Int.natCast_ediv, Int.natCast_pow]; rfl
  rw [h, Int.tmod_eq_emod_of_nonneg (Int.natCast_nonneg _)]
  generalize D / 2 ^ j = u
  omega
theorem long_step (x y k : Nat) (h0 : 0 < y) :
    let t := x / 2 ^ k % 2
    let Q := x / 2 ^ (k + 1) / y
    let R := x / 2 ^ (k + 1) % y
    (y ≤ R + R + t → x / 2 ^ k / y = Q + Q + 1 ∧ x / 2 ^ k % y = R + R + t - y) ∧ (¬ y ≤ R + R + t → x / 2 ^ k / y = Q + Q ∧ x / 2 ^ k % y = R + R + t) ∧ R < y ∧ Q ≤ x := by
  intro t Q R
  have e1 : x / 2 ^ (k + 1) = x / 2 ^ k / 2 := by rw [Nat.pow_succ, Nat.div_div_eq_div_mul]
  have e2 : x / 2 ^ k = 2 * (x / 2 ^ (k + 1)) + t := by rw [e1]; omega
  have e3 : x / 2 ^ (k + 1) = y * Q + R := (Nat.div_add_mod _ _).symm
  have hR : R < y := Nat.mod_lt _ h0
  have ht : t < 2 := Nat.mod_lt _ (by decide)
  have e4 : x / 2 ^ k = y * (Q + Q) + (R + R + t) := by
    have h := Nat.mul_add y Q Q
    omega
  have hQ : Q ≤ x := Nat.le_trans (Nat.div_le_self _ _) (Nat.div_le_self _ _)
  refine ⟨fun h => ?_, fun h => ?_, hR, hQ⟩
  · have e5 : x / 2 ^ k = y * (Q + Q + 1) + (R + R + t - y) := by rw [e4, Nat.mul_succ]; omega
    have h6 : R + R + t - y < y := by omega
    rw [e5]
    exact ⟨by rw [Nat.mul_add_div h0, Nat.div_eq_of_lt h6, Nat.add_zero], by rw [Nat.mul_add_mod, Nat.mod_eq_of_lt h6]⟩
  · have h6 : R + R + t < y := by omega
    rw [e4]
    exact ⟨by rw [Nat.mul_add_div h0, Nat.div_eq_of_lt h6, Nat.add_zero], by rw [Nat.mul_add_mod, Nat.mod_eq_of_lt h6]⟩

/-- What holds at the head of a round of long. -/
def LongRel (w : World) (A : Option Addr) (n c x : Nat) (B : Option Addr) (m d y : Nat) (i : Value) (W : World) : Prop :=
  ∃ (k : Nat) (pq : Bool) (Aq : Option Addr) (nq cq : Nat) (pr : Bool) (Ar : Option Addr) (nr cr : Nat), i = .int .i64 ((k : Int) - 1) ∧ k ≤ 16 * n ∧
    LongSt w W A n c x B m d y pq Aq nq cq ((x / 2 ^ k / y : Nat) : Int) pr Ar nr cr ((x / 2 ^ k % y : Nat) : Int)

/-- the blocks that long makes first -/
theorem LongSt.made (w : World) (A B : Option Addr) (n m c d : Nat) (x y : Int) (hx : Zs w false A n c x) (hy : Zs w false B m d y) :
    LongSt w ((((((w.alloc (.cells #[.bool false, .slice A n c] 38)).alloc (.cells #[.bool false, .slice B m d] 38)).alloc (.cells #[.bool false, .slice none 0 0] 38)).alloc (.cells #[.bool false, .slice none 0 0] 38)).alloc (.cells #[.bool false, .slice none 0 0] 38)).alloc (.cells #[.bool false, .slice none 0 0] 38)) A n c x B m d y false none 0 0 0 false none 0 0 0 := by
  have k : ∀ (V : World) (o : Obj), Below V.heap.size V (V.alloc o) := fun V o => (Below.refl _ _).alloc (Nat.le_refl _) o
  have hb : Below w.heap.size w ((((((w.alloc (.cells #[.bool false, .slice A n c] 38)).alloc (.cells #[.bool false, .slice B m d] 38)).alloc (.cells #[.bool false, .slice none 0 0] 38)).alloc (.cells #[.bool false, .slice none 0 0] 38)).alloc (.cells #[.bool false, .slice none 0 0] 38)).alloc (.cells #[.bool false, .slice none 0 0] 38)) := below_next (below_next (below_next (below_next (below_next (k _ _) (k _ _)) (k _ _)) (k _ _)) (k _ _)) (k _ _)
  refine ⟨((((Box.new w _ _ _).alloc _).alloc _).alloc _).alloc _ |>.alloc _, ?_, ?_, ?_, ?_, ?_, hx.below hb, hy.below hb, Zs.zero _, Zs.zero _, hb⟩
  · have := ((((Box.new (w.alloc (.cells #[.bool false, .slice A n c] 38)) false (.slice B m d) 38).alloc (.cells #[.bool false, .slice none 0 0] 38)).alloc (.cells #[.bool false, .slice none 0 0] 38)).alloc (.cells #[.bool false, .slice none 0 0] 38)).alloc (.cells #[.bool false, .slice none 0 0] 38)
    simpa only [World.size_alloc] using this
  · have := (((Box.new ((w.alloc (.cells #[.bool false, .slice A n c] 38)).alloc (.cells #[.bool false, .slice B m d] 38)) false (.slice none 0 0) 38).alloc (.cells #[.bool false, .slice none 0 0] 38)).alloc (.cells #[.bool false, .slice none 0 0] 38)).alloc (.cells #[.bool false, .slice none 0 0] 38)
    simpa only [World.size_alloc] using this
  · have := ((Box.new (((w.alloc (.cells #[.bool false, .slice A n c] 38)).alloc (.cells #[.bool false, .slice B m d] 38)).alloc (.cells #[.bool false, .slice none 0 0] 38)) false (.slice none 0 0) 38).alloc (.cells #[.bool false, .slice none 0 0] 38)).alloc (.cells #[.bool false, .slice none 0 0] 38)
    simpa only [World.size_alloc] using this
  · have := (Box.new ((((w.alloc (.cells #[.bool false, .slice A n c] 38)).alloc (.cells #[.bool false, .slice B m d] 38)).alloc (.cells #[.bool false, .slice none 0 0] 38)).alloc (.cells #[.bool false, .slice none 0 0] 38)) false (.slice none 0 0) 38).alloc (.cells #[.bool false, .slice none 0 0] 38)
    simpa only [World.size_alloc] using this
  · have := Box.new (((((w.alloc (.cells #[.bool false, .slice A n c] 38)).alloc (.cells #[.bool false, .slice B m d] 38)).alloc (.cells #[.bool false, .slice none 0 0] 38)).alloc (.cells #[.bool false, .slice none 0 0] 38)).alloc (.cells #[.bool false, .slice none 0 0] 38)) false (.slice none 0 0) 38
    simpa only [World.size_alloc] using this

set_option maxRecDepth 100000 in
set_option maxHeartbeats 4000000 in
theorem long_any (A B : Option Addr) (n m c d x y : Nat) (w : World) (hx : Zs w false A n c x) (hy : Zs w false B m d y) (hn : n ≤ 4000) (hm : m ≤ 4000) (h0 : 0 < y) :
    Calls Try.prog 39 #[.agg #[.bool false, .slice A n c], .agg #[.bool false, .slice B m d]] w (RetQR w ((x / y : Nat) : Int) ((x % y : Nat) : Int)) := by
  go_enter Try.func39, Try.ntmps39
  go_wp2_with fail
  have st := LongSt.made w A B n m c d x y hx hy
  generalize (((((w.alloc (.cells #[.bool false, .slice A n c] 38)).alloc (.cells #[.bool false, .slice B m d] 38)).alloc (.cells #[.bool false, .slice none 0 0] 38)).alloc (.cells #[.bool false, .slice none 0 0] 38)).alloc (.cells #[.bool false, .slice none 0 0] 38)).alloc (.cells #[.bool false, .slice none 0 0] 38) = W at *
  have hstart : x / 2 ^ (16 * n) = 0 := by
    refine Nat.div_eq_of_lt ?_
    have h1 := lt_of_digs_len (n := x) (k := n) (by have := hx.len; rw [Int.natAbs_natCast] at this; omega)
    rw [show (65536 : Nat) = 2 ^ 16 from rfl, ← Nat.pow_mul] at h1
    exact h1
  have HST := Lib.hid hstart
  clear hstart hx hy
  go_loopw [8] (fun i W => LongRel w A n c x B m d y i W) (fun i _ => (intOf i + 1).toNat)
  case atStart =>
    refine ⟨16 * n, false, none, 0, 0, false, none, 0, 0, int_eq (by omega), Nat.le_refl _, ?_⟩
    rw [HST.out, Nat.zero_div, Nat.zero_mod]
    exact st
  case round =>
    obtain ⟨k, pq, Aq, nq, cq, pr, Ar, nr, cr, rfl, hk, sr⟩ := hrel
    clear st HST
    rcases k with _ | k
    · rw [Nat.pow_zero, Nat.div_one] at sr
      obtain ⟨_, q0, q1, _, _⟩ := id sr.bq
      obtain ⟨_, r0, r1, _, _⟩ := id sr.br
      obtain ⟨_, d0, d1, d2, d3⟩ := id sr.b1
      obtain ⟨_, e0, e1, e2, e3⟩ := id sr.b2
      go_wp2_with fail
      go_region
      go_wp2
      exact bodyPost_ret (v := .tuple #[.agg #[.bool pq, .slice Aq nq cq], .agg #[.bool pr, .slice Ar nr cr]]) (by simp [results, Try.results39, go_sem, d0, d1, e0, e1]) rfl sr.done
    · rw [show ((k + 1 : Nat) : Int) - 1 = k from by omega]
      obtain ⟨g, rfl, hg, hcl⟩ := sr.za.ds.cells (by omega)
      have xc := hcl (k / 16) (by omega)
      have hbit := bit_of sr.za.ds.dig k (by rw [sr.za.ds.len]; omega)
      have hd := sr.za.ds.dig.getD (k / 16)
      clear hcl
      generalize (digs (x : Int).natAbs).getD (k / 16) 0 = D at *
      rw [val_digs, Int.natAbs_natCast] at hbit
      have hyl := lt_of_digs_len (n := y) (k := m) (by have := sr.zb.len; rw [Int.natAbs_natCast] at this; omega)
      have hxl := lt_of_digs_len (n := x) (k := n) (by have := sr.za.len; rw [Int.natAbs_natCast] at this; omega)
      obtain ⟨hge, hlt, hR, hQ⟩ := long_step x y k h0
      have et : ((D : Int) / 2 ^ (k % 16)).tmod 2 = ((x / 2 ^ k % 2 : Nat) : Int) := by rw [bitI, hbit]
      have ht : x / 2 ^ k % 2 < 2 := Nat.mod_lt _ (by decide)
      clear hbit
      have ET := Lib.hid et
      have HGE := Lib.hid hge
      have HLT := Lib.hid hlt
      clear et hge hlt
      generalize x / 2 ^ k % 2 = t at *
      generalize hQe : x / 2 ^ (k + 1) / y = Q at *
      generalize hRe : x / 2 ^ (k + 1) % y = R at *
      have szQ : ((Q : Int)).natAbs < 65536 ^ n := by rw [Int.natAbs_natCast]; omega
      have szR : ((R : Int)).natAbs < 65536 ^ m := by rw [Int.natAbs_natCast]; omega
      have szQ2 : ((Q : Int) + Q).natAbs < 65536 ^ (n + 1) := by rw [Nat.pow_succ]; omega
      have szR2 : ((R : Int) + R).natAbs < 65536 ^ (m + 1) := by rw [Nat.pow_succ]; omega
      have szR3 : ((R : Int) + R + t).natAbs < 65536 ^ (m + 1) := by rw [Nat.pow_succ]; omega
      have szt : ((t : Int)).natAbs < 65536 ^ 1 := by omega
      have sz1 : ((1 : Int)).natAbs < 65536 ^ 1 := by decide
      have lq := sr.zq.small szQ
      have lr := sr.zr.small szR
      have lb := sr.zb.len
      have hmle : m ≤ 4000 := hm
      have SQ2 := Lib.hid szQ2
      have SR2 := Lib.hid szR2
      have SR3 := Lib.hid szR3
      have ST := Lib.hid szt
      have S1 := Lib.hid sz1
      have HYL := Lib.hid hyl
      have HQE := Lib.hid hQe
      have HRE := Lib.hid hRe
      clear hyl hxl hQ szQ szR szQ2 szR2 szR3 szt sz1 hQe hRe lb
      obtain ⟨_, a0, a1, _, _⟩ := id sr.ba
      obtain ⟨_, r0, r1, _, _⟩ := id sr.br
      go_wp2_with fail
      rw [ET.out]
      refine (add_any pr pr Ar Ar nr nr cr cr _ _ _ sr.zr sr.zr (by omega) (by omega)).mono ?_
      rintro e W1 ⟨p1, A1, n1, c1, rfl, z1, k1⟩
      have l1 := z1.small SR2.out
      have s1 := sr.below k1
      clear a0 a1 r0 r1 sr xc hg
      go_wp2_with fail
      refine (ofu_int (t : Int) (by omega) (by omega) _).mono ?_
      rintro e W2 ⟨p2, A2, n2, c2, rfl, z2, k2⟩
      have l2 := z2.small ST.out
      have s2 := s1.below k2
      have z1' := z1.below k2
      clear k1 k2 s1 z1
      go_wp2_with fail
      refine (add_any p1 p2 A1 A2 n1 n2 c1 c2 _ _ _ z1' z2 (by omega) (by omega)).mono ?_
      rintro e W3 ⟨p3, A3, n3, c3, rfl, z3, k3⟩
      have l3 := z3.small SR3.out
      have s3 := s2.below k3
      clear k3 s2 z1' z2
      have s4 := s3.setR z3
      obtain ⟨_, r0, r1, r2, r3⟩ := id s3.br
      obtain ⟨_, q0, q1, q2, q3⟩ := id s3.bq
      obtain ⟨_, b0, b1, _, _⟩ := id s3.bb
      go_wp2_with fail
      clear r0 r1 r2 r3 q0 q1 q2 q3 b0 b1 s3 z3
      generalize (W3.setCell ⟨w.heap.size + 1 + 1 + 1 + 1 + 1, 0, none⟩ (.bool p3)).setCell ⟨w.heap.size + 1 + 1 + 1 + 1 + 1, 1, none⟩ (.slice A3 n3 c3) = W4 at *
      refine (add_any pq pq Aq Aq nq nq cq cq _ _ _ s4.zq s4.zq (by omega) (by omega)).mono ?_
      rintro e W5 ⟨p5, A5, n5, c5, rfl, z5, k5⟩
      have l5 := z5.small SQ2.out
      have s5 := s4.below k5
      clear k5 s4
      have s6 := s5.setQ z5
      obtain ⟨_, r0, r1, r2, r3⟩ := id s5.br
      obtain ⟨_, q0, q1, q2, q3⟩ := id s5.bq
      obtain ⟨_, b0, b1, _, _⟩ := id s5.bb
      go_wp2_with fail
      clear r0 r1 r2 r3 q0 q1 q2 q3 b0 b1 s5 z5
      generalize (W5.setCell ⟨w.heap.size + 1 + 1 + 1 + 1, 0, none⟩ (.bool p5)).setCell ⟨w.heap.size + 1 + 1 + 1 + 1, 1, none⟩ (.slice A5 n5 c5) = W6 at *
      have lb := s6.zb.len
      have LB := Lib.hid lb
      clear lb
      refine (cmp_any p3 false A3 B n3 m c3 d _ _ _ s6.zr s6.zb (by omega) (by omega)).mono ?_
      rintro e W7 ⟨rfl, k7⟩
      have s7 := s6.below k7
      clear k7 s6
      obtain ⟨_, r0, r1, r2, r3⟩ := id s7.br
      obtain ⟨_, q0, q1, q2, q3⟩ := id s7.bq
      obtain ⟨_, b0, b1, _, _⟩ := id s7.bb
      by_cases hc : y ≤ R + R + t
      · have hcmp : 0 ≤ cmpZ ((R : Int) + R + t) y := by
          rcases Nat.lt_or_eq_of_le hc with h1 | h1
          · rw [cmpZ_gt (by omega)]; decide
          · rw [cmpZ_eq (by omega)]; decide
        obtain ⟨eQ, eR⟩ := HGE.out hc
        have EQ := Lib.hid eQ
        have ER := Lib.hid eR
        clear eQ eR
        generalize hcv : cmpZ ((R : Int) + R + t) y = cv at *
        clear hcv
        go_wp2_with fail
        refine (sub_any p3 false A3 B n3 m c3 d _ _ _ s7.zr s7.zb (by omega) (by omega)).mono ?_
        rintro e W8 ⟨p8, A8, n8, c8, rfl, z8, k8⟩
        have s8 := s7.below k8
        have s9 := s8.setR z8
        clear k8 s7 r0 r1 r2 r3 q0 q1 q2 q3 b0 b1
        obtain ⟨_, r0, r1, r2, r3⟩ := id s8.br
        go_wp2_with fail
        clear r0 r1 r2 r3 s8 z8
        generalize (W8.setCell ⟨w.heap.size + 1 + 1 + 1 + 1 + 1, 0, none⟩ (.bool p8)).setCell ⟨w.heap.size + 1 + 1 + 1 + 1 + 1, 1, none⟩ (.slice A8 n8 c8) = W9 at *
        have s9d := s9.drew
        obtain ⟨_, q0, q1, q2, q3⟩ := id s9.bq
        go_region_with (first
          | (go_at_call 38; refine (ofu_int 1 (by decide) (by decide) _).mono ?_; rintro e W10 ⟨p10, A10, n10, c10, rfl, z10, k10⟩
             have l10 := z10.small S1.out
             have s10 := s9d.below k10
             obtain ⟨_, q4, q5, q6, q7⟩ := id s10.bq)
          | (go_at_call 23; refine (add_any p5 p10 A5 A10 n5 n10 c5 c10 _ _ _ s10.zq z10 (by omega) (by omega)).mono ?_; rintro e W11 ⟨p11, A11, n11, c11, rfl, z11, k11⟩
             have s11 := s10.below k11
             have s12 := s11.setQ z11
             obtain ⟨_, q8, q9, qa, qb⟩ := id s11.bq))
        all_goals
          go_wp2
          go_roundw
          case rel => exact ⟨k, p11, A11, n11, c11, p8, A8, n8, c8, rfl, by omega, s12.eqQR (by rw [EQ.out]; omega) (by rw [ER.out]; omega)⟩
          case measure => simp only [intOf]; omega
      · have hcmp : cmpZ ((R : Int) + R + t) y < 0 := by
          rw [cmpZ_lt (by omega)]; decide
        obtain ⟨eQ, eR⟩ := HLT.out hc
        have EQ := Lib.hid eQ
        have ER := Lib.hid eR
        clear eQ eR
        generalize hcv : cmpZ ((R : Int) + R + t) y = cv at *
        clear hcv
        go_wp2
        go_roundw
        case rel => exact ⟨k, p5, A5, n5, c5, p3, A3, n3, c3, rfl, by omega, s7.eqQR (by rw [EQ.out]; omega) (by rw [ER.out]; omega)⟩
        case measure => simp only [intOf]; omega
end Go.Proofs.Ytnopgdheffnfdaa
