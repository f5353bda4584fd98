/- The call Fits: is a number one of 64 bits; that number. -/
import Derived.Test.YtnopgdheffnfdaaSub
import Derived.Test.YtnopgdheffnfdaaIn
import Derived.Deep.RegionWith
namespace Go.Proofs.Ytnopgdheffnfdaa
open Go.RowKit

def two63 : Int := 9223372036854775808
theorem two63_pow : (2 : Int) ^ 63 = two63 := by decide
theorem power63 (W : World) : Calls Try.prog 37 #[.int .i64 63] W (RetZ W two63) := by
  have := power_any 63 (by decide) W
  rw [two63_pow] at this
  exact this
theorem two63_small : (two63).natAbs < 65536 ^ 4 := by rw [pow4]; decide
theorem ntwo63_small : (-two63).natAbs < 65536 ^ 4 := by rw [pow4]; decide

set_option maxHeartbeats 2000000 in
theorem fits_great (p : Bool) (A : Option Addr) (n c : Nat) (z : Int) (w : World) (hz : Zs w p A n c z) (hn : n ≤ 900000) (h : two63 ≤ z) :
    Calls Try.prog 66 #[.agg #[.bool p, .slice A n c]] w fun e w' => e = .returned (.tuple #[.int .i64 0, .bool false]) ∧ Below w.heap.size w w' := by
  have hc : 0 ≤ cmpZ z two63 := by
    rcases Int.lt_or_eq_of_le h with h1 | h1
    · rw [cmpZ_gt h1]; decide
    · rw [cmpZ_eq h1.symm]; decide
  clear h
  generalize hv : cmpZ z two63 = cv at *
  have HV := Lib.hid hv
  clear hv
  go_enter Try.func66, Try.ntmps66
  go_wp2_with fail
  have b1 := Box.new w p (.slice A n c) 38
  have hb0 : Below w.heap.size w (w.alloc (.cells #[.bool p, .slice A n c] 38)) := (Below.refl _ _).alloc (Nat.le_refl _) _
  generalize w.alloc (.cells #[.bool p, .slice A n c] 38) = w0 at *
  have B := b1.drew
  obtain ⟨_, a0, a1, _, _⟩ := b1
  have hX := (hz.below hb0).drew
  go_region_with (first
      | (go_at_call 37; refine (power63 _).mono ?_; rintro e w1 ⟨r, C, k, f, rfl, hD, hb⟩
         have hk := hD.small two63_small
         have hX1 := hX.below hb
         obtain ⟨_, a2, a3, _, _⟩ := B.below' hb)
      | (go_at_call 21; refine (cmp_any p r A C n k c f z two63 _ hX1 hD hn (by omega)).mono ?_; rintro e w2 ⟨rfl, hb2⟩
         rw [HV.out]))
  all_goals
    have HB := below_next (below_next hb0.drew hb) hb2
    go_wp2
    go_ret2
    exact ⟨rfl, HB⟩

set_option maxHeartbeats 4000000 in
theorem fits_less (p : Bool) (A : Option Addr) (n c : Nat) (z : Int) (w : World) (hz : Zs w p A n c z) (hn : n ≤ 900000) (h : z < -two63) :
    Calls Try.prog 66 #[.agg #[.bool p, .slice A n c]] w fun e w' => e = .returned (.tuple #[.int .i64 0, .bool false]) ∧ Below w.heap.size w w' := by
  have hc1 : cmpZ z two63 = -1 := cmpZ_lt (by unfold two63 at *; omega)
  have hc2 : cmpZ z (-two63) = -1 := cmpZ_lt h
  clear h
  have HV1 := Lib.hid hc1
  have HV2 := Lib.hid hc2
  clear hc1 hc2
  go_enter Try.func66, Try.ntmps66
  go_wp2_with fail
  have b1 := Box.new w p (.slice A n c) 38
  have hb0 : Below w.heap.size w (w.alloc (.cells #[.bool p, .slice A n c] 38)) := (Below.refl _ _).alloc (Nat.le_refl _) _
  generalize w.alloc (.cells #[.bool p, .slice A n c] 38) = w0 at *
  have B := b1.drew
  obtain ⟨_, a0, a1, _, _⟩ := b1
  have hX := (hz.below hb0).drew
  have HB := hb0.drew
  clear hb0 hz
  go_region_held3 (fun w' => w'.cell? ⟨w.heap.size, 0, none⟩ = some (.bool p) ∧ w'.cell? ⟨w.heap.size, 1, none⟩ = some (.slice A n c)) (first | go_keep | exact ⟨B.c0, B.c1⟩)
    (first
      | (go_at_call 37; refine (power63 _).mono ?_; rintro e w1 ⟨r, C, k, f, rfl, hD, hb⟩
         have hk := hD.small two63_small
         replace hX := hX.below hb
         replace B := B.below' hb
         replace HB := below_next HB hb
         clear hb
         obtain ⟨_, a2, a3, _, _⟩ := id B)
      | (go_at_call 34; refine (neg_any r C k f _ _ hD (by omega)).mono ?_; rintro e w1 ⟨r, C, k, f, rfl, hD, hb⟩
         have hk := hD.small ntwo63_small
         replace hX := hX.below hb
         replace B := B.below' hb
         replace HB := below_next HB hb
         clear hb
         obtain ⟨_, a2, a3, _, _⟩ := id B)
      | (go_at_call 21; refine (cmp_any p r A C n k c f z _ _ hX hD hn (by omega)).mono ?_; rintro e w2 ⟨rfl, hb⟩
         first | rw [HV1.out] | rw [HV2.out]
         replace hX := hX.below hb
         replace B := B.below' hb
         replace HB := below_next HB hb
         clear hb
         obtain ⟨_, a2, a3, _, _⟩ := id B))
  go_wp2
  go_ret2
  exact ⟨rfl, HB⟩

theorem val_drop_le (l : List Nat) (k : Nat) : val (l.drop k) ≤ val l := by
  rcases Nat.lt_or_ge l.length k with h | h
  · rw [List.drop_of_length_le (by omega)]; exact Nat.zero_le _
  · rw [val_split l k h]
    have : val (l.drop k) ≤ 65536 ^ k * val (l.drop k) := Nat.le_mul_of_pos_left _ (Nat.pow_pos (by decide))
    omega
/-- What holds at the head of a round of Fits. -/
def FitsRel (p : Bool) (n : Nat) (l : List Nat) (v i : Value) : Prop :=
  ∃ k : Nat, k ≤ n ∧ i = .int .i64 ((k : Int) - 1) ∧ v = .int .i64 (sgn p (val (l.drop k)))

set_option maxRecDepth 100000 in
set_option maxHeartbeats 4000000 in
theorem fits_yes (p : Bool) (A : Option Addr) (n c : Nat) (z : Int) (w : World) (hz : Zs w p A n c z) (hn : n ≤ 900000) (h1 : -two63 ≤ z) (h2 : z < two63) :
    Calls Try.prog 66 #[.agg #[.bool p, .slice A n c]] w fun e w' => e = .returned (.tuple #[.int .i64 z, .bool true]) ∧ Below w.heap.size w w' := by
  have hc1 : cmpZ z two63 = -1 := cmpZ_lt h2
  have hc2 : ¬ (cmpZ z (-two63) < 0) := by
    rcases Int.lt_or_eq_of_le h1 with h3 | h3
    · rw [cmpZ_gt h3]; decide
    · rw [cmpZ_eq h3.symm]; decide
  generalize hcv : cmpZ z (-two63) = cv at *
  have hv := hz.val
  have HV1 := Lib.hid hc1
  have HV2 := Lib.hid hcv
  have HZ := Lib.hid hv
  have H1 := Lib.hid h1
  have H2 := Lib.hid h2
  clear hc1 hcv h1 h2 hv
  go_enter Try.func66, Try.ntmps66
  go_wp2_with fail
  have b1 := Box.new w p (.slice A n c) 38
  have hb0 : Below w.heap.size w (w.alloc (.cells #[.bool p, .slice A n c] 38)) := (Below.refl _ _).alloc (Nat.le_refl _) _
  generalize w.alloc (.cells #[.bool p, .slice A n c] 38) = w0 at *
  have B := b1.drew
  obtain ⟨_, a0, a1, _, _⟩ := b1
  have hX := (hz.below hb0).drew
  have HB := hb0.drew
  clear hb0 hz
  go_region_held3 (fun w' => w'.cell? ⟨w.heap.size, 0, none⟩ = some (.bool p) ∧ w'.cell? ⟨w.heap.size, 1, none⟩ = some (.slice A n c)) (first | go_keep | exact ⟨B.c0, B.c1⟩)
    (first
      | (go_at_call 37; refine (power63 _).mono ?_; rintro e w1 ⟨r, C, k, f, rfl, hD, hb⟩
         have hk := hD.small two63_small
         replace hX := hX.below hb
         replace B := B.below' hb
         replace HB := below_next HB hb
         clear hb
         obtain ⟨_, a2, a3, _, _⟩ := id B)
      | (go_at_call 34; refine (neg_any r C k f _ _ hD (by omega)).mono ?_; rintro e w1 ⟨r, C, k, f, rfl, hD, hb⟩
         have hk := hD.small ntwo63_small
         replace hX := hX.below hb
         replace B := B.below' hb
         replace HB := below_next HB hb
         clear hb
         obtain ⟨_, a2, a3, _, _⟩ := id B)
      | (go_at_call 21; refine (cmp_any p r A C n k c f z _ _ hX hD hn (by omega)).mono ?_; rintro e w2 ⟨rfl, hb⟩
         first | rw [HV1.out] | rw [HV2.out]
         replace hX := hX.below hb
         replace B := B.below' hb
         replace HB := below_next HB hb
         clear hb
         obtain ⟨_, a2, a3, _, _⟩ := id B))
  have hds := hX.ds
  clear hX
  go_wp2_with fail
  go_loop [4, 5] (fun v i => FitsRel p n (digs z.natAbs) v i) (fun _ i => (intOf i + 1).toNat)
  case atStart =>
    refine ⟨n, Nat.le_refl _, rfl, ?_⟩
    rw [List.drop_of_length_le (by rw [hds.len]; exact Nat.le_refl _)]
    cases p <;> rfl
  case round =>
    obtain ⟨k, hk, rfl, rfl⟩ := hrel
    clear a0 a1
    rcases k with _ | k
    · have he : sgn p (val ((digs z.natAbs).drop 0)) = z := by rw [List.drop_zero, val_digs]; exact HZ.out
      have HE := Lib.hid he
      clear he
      rw [HE.out]
      go_wp2
      go_ret2
      exact ⟨rfl, HB⟩
    · rw [show ((k + 1 : Nat) : Int) - 1 = k from by omega]
      obtain ⟨g, rfl, hg, hcl⟩ := hds.cells (by omega)
      have q1 := hcl k (by omega)
      have hlt : k < (digs z.natAbs).length := by rw [hds.len]; omega
      have hstep := val_drop (digs z.natAbs) k hlt
      have hle := val_drop_le (digs z.natAbs) k
      rw [val_digs] at hle
      have hd := hds.dig.getD k
      have hz1 := HZ.out
      have hz2 := H1.out
      have hz3 := H2.out
      clear hcl hlt
      generalize (digs z.natAbs).getD k 0 = D at *
      generalize val ((digs z.natAbs).drop (k + 1)) = V at *
      have HS := Lib.hid hstep
      have hpk : (0 : Int) ≤ k := by omega
      cases p
      · have hb1 : D + 65536 * V ≤ 9223372036854775807 := by
          unfold two63 at *
          unfold sgn at hz1
          simp at hz1
          omega
        clear hstep hle hz1 hz2 hz3
        rw [show sgn false V = (V : Int) from rfl]
        go_wp2
        go_round
        case rel => exact ⟨k, by omega, rfl, int_eq (by rw [HS.out]; show _ = ((D + 65536 * V : Nat) : Int); omega)⟩
        case measure => simp only [intOf]; omega
      · have hb1 : D + 65536 * V ≤ 9223372036854775808 := by
          unfold two63 at *
          unfold sgn at hz1
          simp at hz1
          omega
        clear hstep hle hz1 hz2 hz3
        rw [show sgn true V = -(V : Int) from rfl]
        go_wp2
        go_round
        case rel => exact ⟨k, by omega, rfl, int_eq (by rw [HS.out]; show _ = -((D + 65536 * V : Nat) : Int); omega)⟩
        case measure => simp only [intOf]; omega

end Go.Proofs.Ytnopgdheffnfdaa
