/- The calls Add and Sub: the sum and the difference of two numbers. -/
import Derived.Test.YtnopgdheffnfdaaOfu
import Derived.Deep.RegionHeld3
namespace Go.Proofs.Ytnopgdheffnfdaa
open Go.RowKit

theorem Ds.drew {w : World} {A : Option Addr} {n c : Nat} {l : List Nat} (h : Ds w A n c l) : Ds w.drew A n c l := h.below (Below.refl _ _).drew
theorem Zs.drew {w : World} {p : Bool} {A : Option Addr} {n c : Nat} {z : Int} (h : Zs w p A n c z) : Zs w.drew p A n c z := ⟨h.sign, h.ds.drew⟩

/-- a number in a block of two cells -/
structure Box (w : World) (b : Nat) (p : Bool) (v : Value) : Prop where
  lt : b < w.heap.size
  c0 : w.cell? ⟨b, 0, none⟩ = some (.bool p)
  c1 : w.cell? ⟨b, 1, none⟩ = some v
  f0 : w.frozen? ⟨b, 0, none⟩ = false
  f1 : w.frozen? ⟨b, 1, none⟩ = false
theorem Box.below {w w' : World} {b : Nat} {p : Bool} {v : Value} (h : Box w b p v) {B : Nat} (hb : Below B w w') (hB : b < B) : Box w' b p v :=
  ⟨Nat.lt_of_lt_of_le h.lt hb.size, (hb.cell (p := ⟨b, 0, none⟩) hB).trans h.c0, (hb.cell (p := ⟨b, 1, none⟩) hB).trans h.c1, (hb.frozen (p := ⟨b, 0, none⟩) hB).trans h.f0, (hb.frozen (p := ⟨b, 1, none⟩) hB).trans h.f1⟩
theorem Box.below' {w w' : World} {b : Nat} {p : Bool} {v : Value} (h : Box w b p v) (hb : Below w.heap.size w w') : Box w' b p v := h.below hb h.lt
theorem Box.new (w : World) (p : Bool) (v : Value) (t : TypeId) : Box (w.alloc (.cells #[.bool p, v] t)) w.heap.size p v :=
  ⟨by simp, by simp, by simp, by simp, by simp⟩
theorem Box.alloc {w : World} {b : Nat} {p : Bool} {v : Value} (h : Box w b p v) (o : Obj) : Box (w.alloc o) b p v := h.below' ((Below.refl _ _).alloc (Nat.le_refl _) o)

theorem boxes3 (w : World) (p q r : Bool) (v u s : Value) (t : TypeId) :
    Box (((w.alloc (.cells #[.bool p, v] t)).alloc (.cells #[.bool q, u] t)).alloc (.cells #[.bool r, s] t)) w.heap.size p v ∧
    Box (((w.alloc (.cells #[.bool p, v] t)).alloc (.cells #[.bool q, u] t)).alloc (.cells #[.bool r, s] t)) (w.heap.size + 1) q u ∧
    Box (((w.alloc (.cells #[.bool p, v] t)).alloc (.cells #[.bool q, u] t)).alloc (.cells #[.bool r, s] t)) (w.heap.size + 2) r s ∧
    Below w.heap.size w (((w.alloc (.cells #[.bool p, v] t)).alloc (.cells #[.bool q, u] t)).alloc (.cells #[.bool r, s] t)) := by
  refine ⟨((Box.new w p v t).alloc _).alloc _, ?_, ?_, (((Below.refl _ _).alloc (Nat.le_refl _) _).alloc (by simp) _).alloc (by simp; omega) _⟩
  · have := (Box.new (w.alloc (.cells #[.bool p, v] t)) q u t).alloc (.cells #[.bool r, s] t)
    simpa only [World.size_alloc] using this
  · have := Box.new ((w.alloc (.cells #[.bool p, v] t)).alloc (.cells #[.bool q, u] t)) r s t
    simpa only [World.size_alloc] using this

theorem Box.far {w : World} {b : Nat} {p : Bool} {v : Value} (h : Box w b p v) {b' : Nat} (hne : b' ≠ b) (o : Nat) (u : Value) : Box (w.setCell ⟨b', o, none⟩ u) b p v :=
  have hb : (w.setCell ⟨b', o, none⟩ u).heap[b]? = w.heap[b]? := Below.heap_setCell w ⟨b', o, none⟩ u b (fun e => hne e.symm)
  ⟨by simpa [World.setCell] using h.lt, (World.cell?_of_block (w := w) (a := ⟨b, 0, none⟩) hb).trans h.c0, (World.cell?_of_block (w := w) (a := ⟨b, 1, none⟩) hb).trans h.c1, (World.frozen?_of_block (w := w) (a := ⟨b, 0, none⟩) hb).trans h.f0, (World.frozen?_of_block (w := w) (a := ⟨b, 1, none⟩) hb).trans h.f1⟩
theorem Box.far2 {w : World} {b : Nat} {p : Bool} {v : Value} (h : Box w b p v) {b' : Nat} (hne : b' ≠ b) (u u' : Value) : Box ((w.setCell ⟨b', 0, none⟩ u).setCell ⟨b', 1, none⟩ u') b p v := (h.far hne 0 u).far hne 1 u'
theorem Box.drew {w : World} {b : Nat} {p : Bool} {v : Value} (h : Box w b p v) : Box w.drew b p v := h.below' (Below.refl _ _).drew

/-- the answer out of a block -/
theorem Box.ret {w w1 : World} {z : Int} {q : Bool} {B : Option Addr} {m d b : Nat} {x : Bool} {v : Value} (h : Box w1 b x v) (hz : Zs w1 q B m d z) (hw : Below w.heap.size w w1) (hbl : w.heap.size ≤ b) :
    RetZ w z (.returned (.agg #[.bool q, .slice B m d])) ((w1.setCell ⟨b, 0, none⟩ (.bool q)).setCell ⟨b, 1, none⟩ (.slice B m d)) := retZ_mk hz hw hbl h.c0

theorem below_next {a b c : World} (h : Below a.heap.size a b) (k : Below b.heap.size b c) : Below a.heap.size a c := h.trans (k.mono h.size)

set_option maxHeartbeats 2000000 in
theorem add_same (p : Bool) (A B : Option Addr) (n m c d : Nat) (x y : Int) (w : World) (hx : Zs w p A n c x) (hy : Zs w p B m d y) (M : Nat) (hn : n ≤ M) (hm : m ≤ M) (hM : M ≤ 900000) :
    Calls Try.prog 23 #[.agg #[.bool p, .slice A n c], .agg #[.bool p, .slice B m d]] w (RetZ w (x + y)) := by
  have hs : sgn p (val (digs x.natAbs) + val (digs y.natAbs)) = x + y := by
    rw [val_digs, val_digs]
    have h1 := hx.val
    have h2 := hy.val
    unfold sgn at h1 h2 ⊢
    cases p <;> simp at h1 h2 ⊢ <;> omega
  have HS := Lib.hid hs
  clear hs
  go_enter Try.func23, Try.ntmps23
  go_wp2_with fail
  obtain ⟨b1, b2, b3, hb0⟩ := boxes3 w p p false (.slice A n c) (.slice B m d) (.slice none 0 0) 38
  generalize ((w.alloc (.cells #[.bool p, .slice A n c] 38)).alloc (.cells #[.bool p, .slice B m d] 38)).alloc (.cells #[.bool false, .slice none 0 0] 38) = w3 at *
  have B1 := b1.drew
  have B2 := b2.drew
  have B3 := b3.drew
  obtain ⟨_, a0, a1, _, _⟩ := b1
  obtain ⟨_, c0, c1, _, _⟩ := b2
  obtain ⟨_, d0, d1, e0, e1⟩ := b3
  have ne1 : w.heap.size + 1 + 1 ≠ w.heap.size := by omega
  have ne2 : w.heap.size + 1 + 1 ≠ w.heap.size + 1 := by omega
  have hX := (hx.below hb0).drew.ds
  have hY := (hy.below hb0).drew.ds
  go_region_held3 (fun w' => w'.cell? ⟨w.heap.size, 0, none⟩ = some (.bool p) ∧ w'.cell? ⟨w.heap.size, 1, none⟩ = some (.slice A n c) ∧ w'.cell? ⟨w.heap.size + 1, 1, none⟩ = some (.slice B m d)) (first | go_keep | exact ⟨a2, a3, c3⟩ | exact ⟨a4, a5, c5⟩)
    (first
      | (go_at_call 40; refine (plus_any A B n m c d _ _ _ hX hY M hn hm (by omega)).mono ?_; rintro e w1 ⟨C, k, f, l, rfl, hD, hv, hk, hb⟩
         obtain ⟨_, a2, a3, _, _⟩ := B1.below' hb
         obtain ⟨_, c2, c3, _, _⟩ := B2.below' hb)
      | (go_at_call 35; refine (tidy_any _ C k f l _ hD (by omega)).mono ?_; rintro e w2 ⟨q, D, k', f', rfl, hz, hb2⟩
         obtain ⟨_, a4, a5, _, _⟩ := (B1.below' hb).below' hb2
         obtain ⟨_, c4, c5, _, _⟩ := (B2.below' hb).below' hb2
         obtain ⟨_, d2, d3, e2, e3⟩ := (B3.below' hb).below' hb2))
  rw [hv, HS.out] at hz
  clear hv
  go_wp2
  exact bodyPost_ret (v := .agg #[.bool q, .slice D k' f']) (by simp [results, Try.results23, go_sem, d2, d3]) rfl
    (((B3.below' hb).below' hb2).ret hz (below_next (below_next hb0.drew hb) hb2) (by omega))

set_option maxHeartbeats 2000000 in
theorem add_other (p : Bool) (A B : Option Addr) (n m c d : Nat) (x y : Int) (w : World) (hx : Zs w p A n c x) (hy : Zs w (!p) B m d y) (hn : n ≤ 900000) (hm : m ≤ 900000) :
    Calls Try.prog 23 #[.agg #[.bool p, .slice A n c], .agg #[.bool (!p), .slice B m d]] w (RetZ w (x + y)) := by
  have hpq : (p == !p) = false := by cases p <;> rfl
  by_cases hle : y.natAbs ≤ x.natAbs
  · have hs : sgn p (val (digs x.natAbs) - val (digs y.natAbs)) = x + y := by
      rw [val_digs, val_digs]
      have h1 := hx.val
      have h2 := hy.val
      unfold sgn at h1 h2 ⊢
      cases p <;> simp at h1 h2 ⊢ <;> omega
    have HS := Lib.hid hs
    have hge' : 0 ≤ cmpN x.natAbs y.natAbs := by
      rcases Nat.lt_or_ge y.natAbs x.natAbs with h | h
      · rw [cmpN_gt h]; decide
      · rw [cmpN_eq (by omega)]; decide
    have hvle : val (digs y.natAbs) ≤ val (digs x.natAbs) := by rw [val_digs, val_digs]; omega
    have HVLE := Lib.hid hvle
    have hmn : m ≤ n := by
      have h1 := hx.ds.len
      have h2 := hy.ds.len
      rcases Nat.lt_or_ge n m with h | h
      · have := lt_of_len_lt (a := x.natAbs) (b := y.natAbs) (by omega)
        omega
      · exact h
    clear hs hvle hle
    generalize hcv : cmpN x.natAbs y.natAbs = cv at *
    have HCV := Lib.hid hcv
    clear hcv
    go_enter Try.func23, Try.ntmps23
    go_wp2_with fail
    obtain ⟨b1, b2, b3, hb0⟩ := boxes3 w p (!p) false (.slice A n c) (.slice B m d) (.slice none 0 0) 38
    generalize ((w.alloc (.cells #[.bool p, .slice A n c] 38)).alloc (.cells #[.bool (!p), .slice B m d] 38)).alloc (.cells #[.bool false, .slice none 0 0] 38) = w3 at *
    refine (compare_any A B n m c d x.natAbs y.natAbs _ (hx.below hb0).ds (hy.below hb0).ds (by omega) (by omega)).mono ?_
    rintro e w4 ⟨rfl, j, hw4⟩
    have hb4 : Below w3.heap.size w3 w4 := by rw [hw4]; exact below_drewN (Below.refl _ _) j
    have hbw := below_next hb0 hb4
    replace b1 := b1.below' hb4
    replace b2 := b2.below' hb4
    replace b3 := b3.below' hb4
    clear hw4 hb0 hb4
    rw [HCV.out]
    have B1 := b1.drew
    have B2 := b2.drew
    have B3 := b3.drew
    obtain ⟨_, a0, a1, _, _⟩ := b1
    obtain ⟨_, c0, c1, _, _⟩ := b2
    obtain ⟨_, d0, d1, e0, e1⟩ := b3
    have ne1 : w.heap.size + 1 + 1 ≠ w.heap.size := by omega
    have ne2 : w.heap.size + 1 + 1 ≠ w.heap.size + 1 := by omega
    have hX := (hx.below hbw).drew.ds
    have hY := (hy.below hbw).drew.ds
    go_wp2_with fail
    go_region_held3 (fun w' => w'.cell? ⟨w.heap.size, 0, none⟩ = some (.bool p) ∧ w'.cell? ⟨w.heap.size, 1, none⟩ = some (.slice A n c) ∧ w'.cell? ⟨w.heap.size + 1, 1, none⟩ = some (.slice B m d)) (first | go_keep | exact ⟨a2, a3, c3⟩ | exact ⟨a4, a5, c5⟩)
      (first
        | (go_at_call 42; refine (minus_any A B n m c d _ _ _ hX hY (by omega) hmn HVLE.out).mono ?_; rintro e w1 ⟨C, k, f, l, rfl, hD, hv, hk, hb⟩
           obtain ⟨_, a2, a3, _, _⟩ := B1.below' hb
           obtain ⟨_, c2, c3, _, _⟩ := B2.below' hb)
        | (go_at_call 35; refine (tidy_any _ C k f l _ hD (by omega)).mono ?_; rintro e w2 ⟨q, D, k', f', rfl, hz, hb2⟩
           obtain ⟨_, a4, a5, _, _⟩ := (B1.below' hb).below' hb2
           obtain ⟨_, c4, c5, _, _⟩ := (B2.below' hb).below' hb2
           obtain ⟨_, d2, d3, e2, e3⟩ := (B3.below' hb).below' hb2))
    rw [hv, HS.out] at hz
    clear hv
    go_wp2
    exact bodyPost_ret (v := .agg #[.bool q, .slice D k' f']) (by simp [results, Try.results23, go_sem, d2, d3]) rfl
      (((B3.below' hb).below' hb2).ret hz (below_next (below_next hbw.drew hb) hb2) (by omega))
  · have hs : sgn (!p) (val (digs y.natAbs) - val (digs x.natAbs)) = x + y := by
      rw [val_digs, val_digs]
      have h1 := hx.val
      have h2 := hy.val
      unfold sgn at h1 h2 ⊢
      cases p <;> simp at h1 h2 ⊢ <;> omega
    have HS := Lib.hid hs
    have hge' : cmpN x.natAbs y.natAbs < 0 := by
      rw [cmpN_lt (by omega)]; decide
    have hvle : val (digs x.natAbs) ≤ val (digs y.natAbs) := by rw [val_digs, val_digs]; omega
    have HVLE := Lib.hid hvle
    have hmn : n ≤ m := by
      have h1 := hx.ds.len
      have h2 := hy.ds.len
      rcases Nat.lt_or_ge m n with h | h
      · have := lt_of_len_lt (a := y.natAbs) (b := x.natAbs) (by omega)
        omega
      · exact h
    clear hs hvle hle
    generalize hcv : cmpN x.natAbs y.natAbs = cv at *
    have HCV := Lib.hid hcv
    clear hcv
    go_enter Try.func23, Try.ntmps23
    go_wp2_with fail
    obtain ⟨b1, b2, b3, hb0⟩ := boxes3 w p (!p) false (.slice A n c) (.slice B m d) (.slice none 0 0) 38
    generalize ((w.alloc (.cells #[.bool p, .slice A n c] 38)).alloc (.cells #[.bool (!p), .slice B m d] 38)).alloc (.cells #[.bool false, .slice none 0 0] 38) = w3 at *
    refine (compare_any A B n m c d x.natAbs y.natAbs _ (hx.below hb0).ds (hy.below hb0).ds (by omega) (by omega)).mono ?_
    rintro e w4 ⟨rfl, j, hw4⟩
    have hb4 : Below w3.heap.size w3 w4 := by rw [hw4]; exact below_drewN (Below.refl _ _) j
    have hbw := below_next hb0 hb4
    replace b1 := b1.below' hb4
    replace b2 := b2.below' hb4
    replace b3 := b3.below' hb4
    clear hw4 hb0 hb4
    rw [HCV.out]
    have B1 := b1.drew
    have B2 := b2.drew
    have B3 := b3.drew
    obtain ⟨_, a0, a1, _, _⟩ := b1
    obtain ⟨_, c0, c1, _, _⟩ := b2
    obtain ⟨_, d0, d1, e0, e1⟩ := b3
    have ne1 : w.heap.size + 1 + 1 ≠ w.heap.size := by omega
    have ne2 : w.heap.size + 1 + 1 ≠ w.heap.size + 1 := by omega
    have hX := (hy.below hbw).drew.ds
    have hY := (hx.below hbw).drew.ds
    go_wp2_with fail
    go_region_held3 (fun w' => w'.cell? ⟨w.heap.size + 1, 0, none⟩ = some (.bool (!p)) ∧ w'.cell? ⟨w.heap.size + 1, 1, none⟩ = some (.slice B m d) ∧ w'.cell? ⟨w.heap.size, 1, none⟩ = some (.slice A n c)) (first | go_keep | exact ⟨a2, a3, c3⟩ | exact ⟨a4, a5, c5⟩)
      (first
        | (go_at_call 42; refine (minus_any B A m n d c _ _ _ hX hY (by omega) hmn HVLE.out).mono ?_; rintro e w1 ⟨C, k, f, l, rfl, hD, hv, hk, hb⟩
           obtain ⟨_, a2, a3, _, _⟩ := B2.below' hb
           obtain ⟨_, c2, c3, _, _⟩ := B1.below' hb)
        | (go_at_call 35; refine (tidy_any _ C k f l _ hD (by omega)).mono ?_; rintro e w2 ⟨q, D, k', f', rfl, hz, hb2⟩
           obtain ⟨_, a4, a5, _, _⟩ := (B2.below' hb).below' hb2
           obtain ⟨_, c4, c5, _, _⟩ := (B1.below' hb).below' hb2
           obtain ⟨_, d2, d3, e2, e3⟩ := (B3.below' hb).below' hb2))
    rw [hv, HS.out] at hz
    clear hv
    go_wp2
    exact bodyPost_ret (v := .agg #[.bool q, .slice D k' f']) (by simp [results, Try.results23, go_sem, d2, d3]) rfl
      (((B3.below' hb).below' hb2).ret hz (below_next (below_next hbw.drew hb) hb2) (by omega))

theorem add_any (p q : Bool) (A B : Option Addr) (n m c d : Nat) (x y : Int) (w : World) (hx : Zs w p A n c x) (hy : Zs w q B m d y) (hn : n ≤ 900000) (hm : m ≤ 900000) :
    Calls Try.prog 23 #[.agg #[.bool p, .slice A n c], .agg #[.bool q, .slice B m d]] w (RetZ w (x + y)) := by
  by_cases h : p = q
  · subst h
    exact add_same p A B n m c d x y w hx hy 900000 hn hm (Nat.le_refl _)
  · obtain rfl : q = !p := by cases p <;> cases q <;> simp_all
    exact add_other p A B n m c d x y w hx hy hn hm
end Go.Proofs.Ytnopgdheffnfdaa
