/- The calls OfU, Neg and Abs: a number without a sign, the other sign, without its sign. -/
import Derived.Test.YtnopgdheffnfdaaCompare
namespace Go.Proofs.Ytnopgdheffnfdaa
open Go.RowKit

theorem RetZ.of_eq {w : World} {x y : Int} {e : Ending} {w' : World} (h : RetZ w x e w') (hxy : x = y) : RetZ w y e w' := hxy ▸ h
/-- a number's answer handed on in a new world -/
theorem RetZ.from {w w0 : World} {z : Int} {e : Ending} {w' : World} (h : RetZ w z e w') (hb : Below w0.heap.size w0 w) : RetZ w0 z e w' := by
  obtain ⟨p, A, n, c, he, hz, hb'⟩ := h
  exact ⟨p, A, n, c, he, hz, hb.trans (hb'.mono hb.size)⟩

theorem Zs.val {w : World} {p : Bool} {A : Option Addr} {n c : Nat} {z : Int} (h : Zs w p A n c z) : sgn p z.natAbs = z := by
  unfold sgn
  rw [h.sign]
  by_cases hz : z < 0
  · simp [hz]; omega
  · simp [hz]; omega

/-- Digits stay while a cell is written of a block whose first cell is no number. -/
theorem Ds.set {w : World} {A : Option Addr} {n c : Nat} {l : List Nat} (h : Ds w A n c l) {b : Nat} {x : Bool} (hb : w.cell? ⟨b, 0, none⟩ = some (.bool x)) (o : Nat) (u : Value) : Ds (w.setCell ⟨b, o, none⟩ u) A n c l :=
  ⟨h.len, h.cap, h.max, h.dig, fun hn => by
    obtain ⟨g, e, hg, hc⟩ := h.cells hn
    have hne : g ≠ b := by
      rintro rfl
      have := hc 0 hn
      rw [hb] at this
      cases this
    refine ⟨g, e, by simpa [World.setCell] using hg, fun j hj => ?_⟩
    rw [World.cell?_setCell_other w _ _ _ (fun e => hne (congrArg Addr.block e).symm)]
    exact hc j hj⟩
theorem Zs.set {w : World} {p : Bool} {A : Option Addr} {n c : Nat} {z : Int} (h : Zs w p A n c z) {b : Nat} {x : Bool} (hb : w.cell? ⟨b, 0, none⟩ = some (.bool x)) (o : Nat) (u : Value) : Zs (w.setCell ⟨b, o, none⟩ u) p A n c z := ⟨h.sign, h.ds.set hb o u⟩
/-- both cells of a number's block written -/
theorem Zs.set2 {w : World} {p : Bool} {A : Option Addr} {n c : Nat} {z : Int} (h : Zs w p A n c z) {b : Nat} {x : Bool} (hb : w.cell? ⟨b, 0, none⟩ = some (.bool x)) (r : Bool) (u : Value) :
    Zs ((w.setCell ⟨b, 0, none⟩ (.bool r)).setCell ⟨b, 1, none⟩ u) p A n c z :=
  (h.set hb 0 (.bool r)).set (x := r) (World.cell?_setCell_same _ _ _ hb) 1 u
theorem retZ_mk {w w1 : World} {z : Int} {q : Bool} {B : Option Addr} {m d b : Nat} {x : Bool} (hz : Zs w1 q B m d z) (hw : Below w.heap.size w w1) (hbl : w.heap.size ≤ b) (hx : w1.cell? ⟨b, 0, none⟩ = some (.bool x)) :
    RetZ w z (.returned (.agg #[.bool q, .slice B m d])) ((w1.setCell ⟨b, 0, none⟩ (.bool q)).setCell ⟨b, 1, none⟩ (.slice B m d)) :=
  ⟨q, B, m, d, rfl, hz.set2 hx q _, (hw.setCell (p := ⟨b, 0, none⟩) hbl _).setCell (p := ⟨b, 1, none⟩) hbl _⟩

set_option maxHeartbeats 1000000 in
theorem neg_any (p : Bool) (A : Option Addr) (n c : Nat) (z : Int) (w : World) (h : Zs w p A n c z) (hn : n ≤ 1000000) :
    Calls Try.prog 34 #[.agg #[.bool p, .slice A n c]] w (RetZ w (-z)) := by
  have hs : sgn (!p) (val (digs z.natAbs)) = -z := by
    rw [val_digs]
    have := h.val
    unfold sgn at this ⊢
    cases p <;> simp at this ⊢ <;> omega
  have HS := Lib.hid hs
  clear hs
  go_enter Try.func34, Try.ntmps34
  go_wp2_with fail
  have hb0 : Below w.heap.size w ((w.alloc (.cells #[.bool p, .slice A n c] 38)).alloc (.cells #[.bool false, .slice none 0 0] 38)) := ((Below.refl _ _).alloc (Nat.le_refl _) _).alloc (by simp) _
  refine (tidy_any _ A n c _ _ (h.ds.below hb0) hn).mono ?_
  rintro e w1 ⟨q, B, m, d, rfl, hz, hb⟩
  obtain ⟨hc, hf⟩ := bcell hb
  have hsz := hb.size
  simp only [World.size_alloc] at hsz
  rw [HS.out] at hz
  go_wp2
  exact bodyPost_ret (v := .agg #[.bool q, .slice B m d]) (by simp [results, Try.results34, go_sem, hc]) rfl
    (retZ_mk (x := false) hz (hb0.trans (hb.mono (by simp; omega))) (by omega) (by rw [hc _ _ (by simp)]; simp))

set_option maxHeartbeats 1000000 in
theorem abs_any (p : Bool) (A : Option Addr) (n c : Nat) (z : Int) (w : World) (h : Zs w p A n c z) (hn : n ≤ 1000000) :
    Calls Try.prog 17 #[.agg #[.bool p, .slice A n c]] w (RetZ w z.natAbs) := by
  have hs : sgn false (val (digs z.natAbs)) = (z.natAbs : Int) := by rw [val_digs]; rfl
  have HS := Lib.hid hs
  clear hs
  go_enter Try.func17, Try.ntmps17
  go_wp2_with fail
  have hb0 : Below w.heap.size w ((w.alloc (.cells #[.bool p, .slice A n c] 38)).alloc (.cells #[.bool false, .slice none 0 0] 38)) := ((Below.refl _ _).alloc (Nat.le_refl _) _).alloc (by simp) _
  refine (tidy_any _ A n c _ _ (h.ds.below hb0) hn).mono ?_
  rintro e w1 ⟨q, B, m, d, rfl, hz, hb⟩
  obtain ⟨hc, hf⟩ := bcell hb
  have hsz := hb.size
  simp only [World.size_alloc] at hsz
  rw [HS.out] at hz
  go_wp2
  exact bodyPost_ret (v := .agg #[.bool q, .slice B m d]) (by simp [results, Try.results17, go_sem, hc]) rfl
    (retZ_mk (x := false) hz (hb0.trans (hb.mono (by simp; omega))) (by omega) (by rw [hc _ _ (by simp)]; simp))

/-- What holds at the head of a round of OfU, N the number. -/
def OfURel (w0 : World) (N : Nat) (nv v i : Value) (wr : World) : Prop :=
  ∃ (out : List Nat) (k : Nat), k ≤ 4 ∧ nv = .int .u64 ((N / 65536 ^ k : Nat) : Int) ∧ wr.ownsRow w0.heap.size 3 1 v k (ints out) ∧ i = .int .i64 k ∧ out.length = k ∧ Dig out ∧ val out + 65536 ^ k * (N / 65536 ^ k) = N ∧ Below w0.heap.size w0 wr

set_option maxHeartbeats 1000000 in
theorem ofu_any (N : Nat) (w : World) (hN : N < 18446744073709551616) :
    Calls Try.prog 38 #[.int .u64 (N : Int)] w (RetZ w N) := by
  obtain ⟨i0, hi, hz0, hz1, hz2⟩ := info_parts int_info
  have hend : ∀ k, 4 ≤ k → N / 65536 ^ k = 0 := fun k hk => Nat.div_eq_of_lt (Nat.lt_of_lt_of_le hN (by
    have := Nat.pow_le_pow_right (n := 65536) (by decide) hk
    simpa using this))
  have HEND := Lib.hid hend
  have hlt0 : N ≤ 18446744073709551615 := by omega
  have HN := Lib.hid hN
  clear hend hN
  go_enter Try.func38, Try.ntmps38
  go_wp2
  obtain ⟨w0, hw0⟩ : ∃ w0, w0 = w.alloc (.cells #[.bool false, .slice none 0 0] 38) := ⟨_, rfl⟩
  have HW := Lib.hid hw0
  rw [← hw0]
  clear hw0
  go_loopw [0, 3, 4] (fun nv v i wr => OfURel w0 N nv v i wr) (fun _ _ i _ => 4 - (intOf i).toNat)
  case atStart => exact ⟨[], 0, by omega, by simp, World.ownsRow_nil w0 _ _ _, rfl, rfl, Dig.nil, by simp [val], Below.refl _ _⟩
  case round =>
    obtain ⟨out, k, hk, rfl, hown, rfl, hl, hdo, hv, hbel⟩ := hrel
    have hlt := hown.lt
    have hsz := hbel.size
    by_cases h1 : k < 4
    · have hle : N / 65536 ^ k ≤ 18446744073709551615 := Nat.le_trans (Nat.div_le_self _ _) hlt0
      have hnext : N / 65536 ^ (k + 1) = N / 65536 ^ k / 65536 := by rw [Nat.pow_succ, Nat.div_div_eq_div_mul]
      have hval : val (out ++ [N / 65536 ^ k % 65536]) + 65536 ^ (k + 1) * (N / 65536 ^ k / 65536) = N := by
        rw [val_append, hl, Nat.pow_succ]
        have e5 : val [N / 65536 ^ k % 65536] = N / 65536 ^ k % 65536 := by simp [val]
        rw [e5, Nat.mul_assoc, Nat.add_assoc, ← Nat.mul_add]
        rw [Nat.mod_add_div]
        exact hv
      have HV := Lib.hid hval
      have HX := Lib.hid hnext
      have HL := Lib.hid hl
      clear hval hnext hl hv
      generalize N / 65536 ^ k = r at *
      go_wp2_with (at_builtin
                   refine wpList_append_own_at _ rfl (.tmp 9) (.tmp 13) 36 rfl w0.heap.size 3 i0 _ 1 8 Try.underlying36 hi hz0 hz1 hz2 rfl (by decide) u3 k (ints out) rfl (hown.alloc _) ⟨wr.heap.size, 0, none⟩ 1 1 [.int .i64 ((r : Int) % 65536)] rfl rfl (cell_one_new _ _ _) ?_ ?_ ?_ ?_ ?_
                   · intro u hu; rw [List.mem_singleton.1 hu]; rfl
                   · unfold maxLen; omega
                   · omega
                   · simp; omega
                   intro v1 w1 hown1 hg1 _ _)
      go_roundw
      case rel =>
        refine ⟨out ++ [r % 65536], k + 1, by omega, by rw [HX.out]; exact int_eq (by omega), ?_, int_eq (by omega), by rw [List.length_append, HL.out]; rfl, hdo.snoc (Nat.mod_lt _ (by decide)), by rw [HX.out]; exact HV.out, ?_⟩
        · rw [ints_snoc out (r % 65536) _ (by omega)] at hown1
          exact hown1
        · exact (hbel.alloc hsz _).grown hg1 (by simp; omega) (fun q hq => (hlt q hq).1)
      case measure => simp only [intOf]; omega
    · have hfin : val out = N := by rw [HEND.out k (by omega)] at hv; omega
      have HF := Lib.hid hfin
      clear hfin hv hl
      obtain ⟨C, f, rfl, hD⟩ := Ds.of_own hown hdo
      rw [HW.out] at hbel
      have hsz1 := hbel.size
      simp only [World.size_alloc] at hsz1
      go_wp2_with fail
      refine (tidy_any _ _ _ _ _ _ hD (by omega)).mono ?_
      rintro e w1 ⟨q, B, m, d, rfl, hz, hb⟩
      have hb1 := hbel.trans (hb.mono hbel.size)
      obtain ⟨hc, hf⟩ := bcell hb1
      have hsz2 := hb1.size
      simp only [World.size_alloc] at hsz2
      rw [HF.out] at hz
      go_wp2
      exact bodyPost_ret (v := .agg #[.bool q, .slice B m d]) (by simp [results, Try.results38, go_sem, hc]) rfl
        (retZ_mk (x := false) hz (((Below.refl _ _).alloc (Nat.le_refl _) _).trans (hb1.mono (by simp))) (by omega) (by rw [hc _ _ (by simp)]; simp))
end Go.Proofs.Ytnopgdheffnfdaa
