/- The calls Sub, Cmp, Of and Power: the difference of two numbers, how they stand to each other, a number of 64 bits, and 2 to a power. -/
import Derived.Test.YtnopgdheffnfdaaAdd
namespace Go.Proofs.Ytnopgdheffnfdaa
open Go.RowKit

theorem Zs.len {w : World} {p : Bool} {A : Option Addr} {n c : Nat} {z : Int} (h : Zs w p A n c z) : (digs z.natAbs).length = n := h.ds.len
theorem Zs.small {w : World} {p : Bool} {A : Option Addr} {n c : Nat} {z : Int} (h : Zs w p A n c z) {k : Nat} (hk : z.natAbs < 65536 ^ k) : n ≤ k := by
  rw [← h.len]; exact digs_len_le hk

set_option maxHeartbeats 2000000 in
theorem sub_any (p q : Bool) (A B : Option Addr) (n m c d : Nat) (x y : Int) (w : World) (hx : Zs w p A n c x) (hy : Zs w q B m d y) (hn : n ≤ 900000) (hm : m ≤ 900000) :
    Calls Try.prog 18 #[.agg #[.bool p, .slice A n c], .agg #[.bool q, .slice B m d]] w (RetZ w (x - y)) := by
  go_enter Try.func18, Try.ntmps18
  go_wp2_with fail
  obtain ⟨b1, b2, b3, hb0⟩ := boxes3 w p q false (.slice A n c) (.slice B m d) (.slice none 0 0) 38
  generalize ((w.alloc (.cells #[.bool p, .slice A n c] 38)).alloc (.cells #[.bool q, .slice B m d] 38)).alloc (.cells #[.bool false, .slice none 0 0] 38) = w3 at *
  have B1 := b1.drew
  have B2 := b2.drew
  have B3 := b3.drew
  obtain ⟨_, a0, a1, _, _⟩ := b1
  obtain ⟨_, c0, c1, _, _⟩ := b2
  obtain ⟨_, d0, d1, e0, e1⟩ := b3
  have ne1 : w.heap.size + 1 + 1 ≠ w.heap.size := by omega
  have ne2 : w.heap.size + 1 + 1 ≠ w.heap.size + 1 := by omega
  have hX := (hx.below hb0).drew
  have hY := (hy.below hb0).drew
  have hly := hy.len
  have HLY := Lib.hid hly
  clear hly
  go_region_held3 (fun w' => w'.cell? ⟨w.heap.size, 0, none⟩ = some (.bool p) ∧ w'.cell? ⟨w.heap.size, 1, none⟩ = some (.slice A n c) ∧ w'.cell? ⟨w.heap.size + 1, 0, none⟩ = some (.bool q) ∧ w'.cell? ⟨w.heap.size + 1, 1, none⟩ = some (.slice B m d)) (first | go_keep | exact ⟨a2, a3, c2, c3⟩ | exact ⟨a4, a5, c4, c5⟩)
    (first
      | (go_at_call 34; refine (neg_any q B m d y _ hY (by omega)).mono ?_; rintro e w1 ⟨r, C, k, f, rfl, hD, hb⟩
         have hk : k ≤ 900000 := by
           have h1 := hD.len
           have h2 := HLY.out
           rw [Int.natAbs_neg] at h1
           omega
         have hX1 := hX.below hb
         obtain ⟨_, a2, a3, _, _⟩ := B1.below' hb
         obtain ⟨_, c2, c3, _, _⟩ := B2.below' hb)
      | (go_at_call 23; refine (add_any p r A C n k c f x (-y) _ hX1 hD hn hk).mono ?_; rintro e w2 ⟨s, D, k', f', rfl, hz, hb2⟩
         obtain ⟨_, a4, a5, _, _⟩ := (B1.below' hb).below' hb2
         obtain ⟨_, c4, c5, _, _⟩ := (B2.below' hb).below' hb2
         obtain ⟨_, d2, d3, e2, e3⟩ := (B3.below' hb).below' hb2))
  rw [← Int.sub_eq_add_neg] at hz
  go_wp2
  exact bodyPost_ret (v := .agg #[.bool s, .slice D k' f']) (by simp [results, Try.results18, go_sem, d2, d3]) rfl
    (((B3.below' hb).below' hb2).ret hz (below_next (below_next hb0.drew hb) hb2) (by omega))

/-- -1, 0, 1 -/
def cmpZ (x y : Int) : Int := if x < y then -1 else if y < x then 1 else 0
theorem cmpZ_lt {x y : Int} (h : x < y) : cmpZ x y = -1 := by unfold cmpZ; rw [if_pos h]
theorem cmpZ_gt {x y : Int} (h : y < x) : cmpZ x y = 1 := by unfold cmpZ; rw [if_neg (by omega), if_pos h]
theorem cmpZ_eq {x y : Int} (h : x = y) : cmpZ x y = 0 := by unfold cmpZ; rw [if_neg (by omega), if_neg (by omega)]
/-- What a call that answers an integer and makes new memory leaves. -/
def RetN (w : World) (x : Int) (e : Ending) (w' : World) : Prop := e = .returned (.int .i64 x) ∧ Below w.heap.size w w'

theorem boxes2 (w : World) (p q : Bool) (v u : Value) (t : TypeId) :
    Box ((w.alloc (.cells #[.bool p, v] t)).alloc (.cells #[.bool q, u] t)) w.heap.size p v ∧
    Box ((w.alloc (.cells #[.bool p, v] t)).alloc (.cells #[.bool q, u] t)) (w.heap.size + 1) q u ∧
    Below w.heap.size w ((w.alloc (.cells #[.bool p, v] t)).alloc (.cells #[.bool q, u] t)) := by
  refine ⟨(Box.new w p v t).alloc _, ?_, ((Below.refl _ _).alloc (Nat.le_refl _) _).alloc (by simp) _⟩
  have := Box.new (w.alloc (.cells #[.bool p, v] t)) q u t
  simpa only [World.size_alloc] using this

set_option maxHeartbeats 2000000 in
theorem cmp_any (p q : Bool) (A B : Option Addr) (n m c d : Nat) (x y : Int) (w : World) (hx : Zs w p A n c x) (hy : Zs w q B m d y) (hn : n ≤ 900000) (hm : m ≤ 900000) :
    Calls Try.prog 21 #[.agg #[.bool p, .slice A n c], .agg #[.bool q, .slice B m d]] w (RetN w (cmpZ x y)) := by
  go_enter Try.func21, Try.ntmps21
  go_wp2_with fail
  obtain ⟨b1, b2, hb0⟩ := boxes2 w p q (.slice A n c) (.slice B m d) 38
  generalize (w.alloc (.cells #[.bool p, .slice A n c] 38)).alloc (.cells #[.bool q, .slice B m d] 38) = w3 at *
  refine (sub_any p q A B n m c d x y _ (hx.below hb0) (hy.below hb0) hn hm).mono ?_
  rintro e w1 ⟨s, D, k, f, rfl, hz, hb⟩
  have hbw := below_next hb0 hb
  clear hb b1 b2
  rcases Int.lt_trichotomy x y with h | h | h
  · have HC := Lib.hid (cmpZ_lt h)
    have hs : s = true := by rw [hz.sign]; simp; omega
    have hk : 0 < k := by
      rw [← hz.len]
      rcases Nat.eq_zero_or_pos (digs (x - y).natAbs).length with h1 | h1
      · have := digs_nil.1 (List.eq_nil_of_length_eq_zero h1); omega
      · exact h1
    subst hs
    clear hz hx hy h
    go_wp2
    go_ret
    exact ⟨by rw [HC.out]; rfl, hbw.alloc hbw.size _⟩
  · have HC := Lib.hid (cmpZ_eq h)
    have hk : k = 0 := by
      rw [← hz.len, show (x - y).natAbs = 0 from by omega, digs_zero]; rfl
    subst hk
    clear hz hx hy h
    go_wp2
    go_ret
    exact ⟨by rw [HC.out]; rfl, hbw.alloc hbw.size _⟩
  · have HC := Lib.hid (cmpZ_gt h)
    have hs : s = false := by rw [hz.sign]; simp; omega
    have hk : 0 < k := by
      rw [← hz.len]
      rcases Nat.eq_zero_or_pos (digs (x - y).natAbs).length with h1 | h1
      · have := digs_nil.1 (List.eq_nil_of_length_eq_zero h1); omega
      · exact h1
    subst hs
    clear hz hx hy h
    go_wp2
    go_ret
    exact ⟨by rw [HC.out]; rfl, hbw.alloc hbw.size _⟩

theorem ofu_int (x : Int) (h0 : 0 ≤ x) (h1 : x ≤ 18446744073709551615) (w : World) : Calls Try.prog 38 #[.int .u64 x] w (RetZ w x) := by
  have := ofu_any x.toNat w (by omega)
  rwa [show ((x.toNat : Nat) : Int) = x from by omega] at this
theorem Zs.zero (w : World) : Zs w false none 0 0 0 := ⟨rfl, by rw [show (0 : Int).natAbs = 0 from rfl, digs_zero]; exact Ds.nil w⟩
theorem pow4 : (65536 : Nat) ^ 4 = 18446744073709551616 := by decide

set_option maxHeartbeats 2000000 in
theorem of_any (x : Int) (h0 : -9223372036854775808 ≤ x) (h1 : x ≤ 9223372036854775807) (w : World) :
    Calls Try.prog 36 #[.int .i64 x] w (RetZ w x) := by
  by_cases hneg : x < 0
  · have hlen : ∀ z : Int, -9223372036854775808 ≤ z → z ≤ 9223372036854775808 → z.natAbs < 65536 ^ 4 := fun z h2 h3 => by
      rw [pow4]; omega
    have L1 := Lib.hid (hlen (-(x + 1)) (by omega) (by omega))
    have L2 := Lib.hid (hlen 1 (by decide) (by decide))
    have L3 := Lib.hid (hlen (-x) (by omega) (by omega))
    have HS1 := Lib.hid (show -(x + 1) + 1 = -x by omega)
    have HS2 := Lib.hid (show (0 : Int) - -x = x by omega)
    have O1 := Lib.hid (fun W => ofu_int (-(x + 1)) (by omega) (by omega) W)
    clear hlen
    go_enter Try.func36, Try.ntmps36
    go_wp2_with fail
    have b1 := Box.new w false (.slice none 0 0) 38
    have hb0 : Below w.heap.size w (w.alloc (.cells #[.bool false, .slice none 0 0] 38)) := (Below.refl _ _).alloc (Nat.le_refl _) _
    generalize w.alloc (.cells #[.bool false, .slice none 0 0] 38) = w0 at *
    refine (O1.out _).mono ?_
    rintro e w1 ⟨p1, A1, n1, c1, rfl, z1, k1⟩
    go_wp2_with fail
    refine (ofu_int 1 (by decide) (by decide) _).mono ?_
    rintro e w2 ⟨p2, A2, n2, c2, rfl, z2, k2⟩
    have z1' := z1.below k2
    have l1 := z1'.small L1.out
    have l2 := z2.small L2.out
    go_wp2_with fail
    refine (add_any p1 p2 A1 A2 n1 n2 c1 c2 _ _ _ z1' z2 (by omega) (by omega)).mono ?_
    rintro e w3 ⟨p3, A3, n3, c3, rfl, z3, k3⟩
    rw [HS1.out] at z3
    have l3 := z3.small L3.out
    go_wp2_with fail
    refine (sub_any false p3 none A3 0 n3 0 c3 0 _ _ (Zs.zero _) z3 (by omega) (by omega)).mono ?_
    rintro e w4 ⟨p4, A4, n4, c4, rfl, z4, k4⟩
    rw [HS2.out] at z4
    have hbw := below_next (below_next (below_next (below_next hb0 k1) k2) k3) k4
    have B := (((b1.below' k1).below' k2).below' k3).below' k4
    clear b1 hb0 k1 k2 k3 k4 z1 z2 z3 z1'
    obtain ⟨_, d2, d3, e2, e3⟩ := id B
    go_wp2
    exact bodyPost_ret (v := .agg #[.bool p4, .slice A4 n4 c4]) (by simp [results, Try.results36, go_sem, d2, d3]) rfl (B.ret z4 hbw (Nat.le_refl _))
  · have O1 := Lib.hid (fun W => ofu_int x (by omega) (by omega) W)
    go_enter Try.func36, Try.ntmps36
    go_wp2_with fail
    have b1 := Box.new w false (.slice none 0 0) 38
    have hb0 : Below w.heap.size w (w.alloc (.cells #[.bool false, .slice none 0 0] 38)) := (Below.refl _ _).alloc (Nat.le_refl _) _
    generalize w.alloc (.cells #[.bool false, .slice none 0 0] 38) = w0 at *
    refine (O1.out _).mono ?_
    rintro e w1 ⟨p1, A1, n1, c1, rfl, z1, k1⟩
    have hbw := below_next hb0 k1
    have B := b1.below' k1
    clear b1 hb0 k1
    obtain ⟨_, d2, d3, e2, e3⟩ := id B
    go_wp2
    exact bodyPost_ret (v := .agg #[.bool p1, .slice A1 n1 c1]) (by simp [results, Try.results36, go_sem, d2, d3]) rfl (B.ret z1 hbw (Nat.le_refl _))

theorem Box.self2 {w : World} {b : Nat} {p : Bool} {v : Value} (h : Box w b p v) (q : Bool) (u : Value) : Box ((w.setCell ⟨b, 0, none⟩ (.bool q)).setCell ⟨b, 1, none⟩ u) b q u := by
  refine ⟨by simpa [World.setCell] using h.lt, ?_, ?_, ?_, ?_⟩
  · rw [World.cell?_setCell_other _ _ _ _ (by simp)]
    exact World.cell?_setCell_same _ _ _ h.c0
  · refine World.cell?_setCell_same _ _ _ (u := v) ?_
    rw [World.cell?_setCell_other _ _ _ _ (by simp)]
    exact h.c1
  · simp [h.f0]
  · simp [h.f1]

/-- What holds at the head of a round of Power: g the answer's block, b the number's. -/
def PowRel (w : World) (N g b : Nat) (i : Value) (wr : World) : Prop :=
  ∃ (k : Nat) (p : Bool) (A : Option Addr) (n c : Nat), i = .int .i64 k ∧ k ≤ N ∧ Box wr g false (.slice none 0 0) ∧ Box wr b p (.slice A n c) ∧ Zs wr p A n c (2 ^ k) ∧ Below w.heap.size w wr

theorem two_pow_digits (k : Nat) : ((2 : Int) ^ k).natAbs < 65536 ^ (k + 1) := by
  rw [Int.natAbs_pow]
  have h1 : (2 : Nat) ^ k ≤ 65536 ^ k := Nat.pow_le_pow_left (by decide) k
  have h2 : (65536 : Nat) ^ k < 65536 ^ (k + 1) := Nat.pow_lt_pow_right (by decide) (Nat.lt_succ_self k)
  exact Nat.lt_of_le_of_lt h1 h2

set_option maxHeartbeats 2000000 in
theorem power_any (N : Nat) (hN : N ≤ 1000) (w : World) :
    Calls Try.prog 37 #[.int .i64 (N : Int)] w (RetZ w (2 ^ N)) := by
  go_enter Try.func37, Try.ntmps37
  go_wp2_with fail
  have b1 := Box.new w false (.slice none 0 0) 38
  have hb0 : Below w.heap.size w (w.alloc (.cells #[.bool false, .slice none 0 0] 38)) := (Below.refl _ _).alloc (Nat.le_refl _) _
  generalize w.alloc (.cells #[.bool false, .slice none 0 0] 38) = w0 at *
  refine (ofu_int 1 (by decide) (by decide) _).mono ?_
  rintro e w1 ⟨p1, A1, n1, c1, rfl, z1, k1⟩
  have hbw := below_next hb0 k1
  have B1 := b1.below' k1
  clear b1 hb0 k1
  go_wp2_with fail
  obtain ⟨b, hb⟩ : ∃ b, b = w1.heap.size := ⟨_, rfl⟩
  rw [← hb]
  have hlt := B1.lt
  rw [← hb] at hlt
  go_loopw [4] (fun i wr => PowRel w N w.heap.size b i wr) (fun i _ => N - (intOf i).toNat)
  case atStart =>
    refine ⟨0, p1, A1, n1, c1, rfl, Nat.zero_le _, B1.alloc _, ?_, z1.below ((Below.refl _ _).alloc (Nat.le_refl _) _), hbw.alloc hbw.size _⟩
    rw [hb]
    exact Box.new _ _ _ _
  case round =>
    obtain ⟨k, p, A, n, c, rfl, hk, G, B, hz, hbel⟩ := hrel
    have hn := hz.small (two_pow_digits k)
    have hsum : (2 : Int) ^ k + 2 ^ k = 2 ^ (k + 1) := by rw [Int.pow_succ]; omega
    have HS := Lib.hid hsum
    have hbs := hbel.size
    clear hsum z1 hbw B1 hb
    by_cases h1 : k < N
    · obtain ⟨_, a0, a1, f0, f1⟩ := id B
      go_wp2_with fail
      refine (add_any p p A A n n c c _ _ _ hz hz (by omega) (by omega)).mono ?_
      rintro e w2 ⟨q, D, m, d, rfl, z2, k2⟩
      rw [HS.out] at z2
      have G' := G.below' k2
      have B' := B.below' k2
      have hbel' := below_next hbel k2
      clear a0 a1 f0 f1 G B hbel k2 hz
      obtain ⟨_, a0, a1, f0, f1⟩ := id B'
      go_wp2
      go_roundw
      case rel =>
        exact ⟨k + 1, q, D, m, d, int_eq (by omega), by omega, G'.far2 (by omega) _ _, B'.self2 _ _, z2.set2 B'.c0 q _, (hbel'.setCell (p := ⟨b, 0, none⟩) (by show _ ≤ b; omega) _).setCell (p := ⟨b, 1, none⟩) (by show _ ≤ b; omega) _⟩
      case measure => simp only [intOf]; omega
    · obtain rfl : k = N := by omega
      obtain ⟨_, a0, a1, f0, f1⟩ := id B
      obtain ⟨_, g0, g1, e0, e1⟩ := id G
      go_wp2
      exact bodyPost_ret (v := .agg #[.bool p, .slice A n c]) (by simp [results, Try.results37, go_sem, g0, g1]) rfl (G.ret hz hbel (Nat.le_refl _))
end Go.Proofs.Ytnopgdheffnfdaa
