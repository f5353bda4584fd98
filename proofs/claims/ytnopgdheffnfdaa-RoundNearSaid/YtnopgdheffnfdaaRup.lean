/- Package round's To and Ratio, at any wide numbers and any mode. -/
import Derived.Test.YtnopgdheffnfdaaRto
namespace Go.Proofs.Ytnopgdheffnfdaa
open Go.RowKit

/-- the fraction a by b, b not 0, with b above 0 -/
def upN (a b : Int) : Int := if b < 0 then -a else a
def upD (b : Int) : Int := if b < 0 then -b else b
theorem up_parts {a b : Int} (hb : b ≠ 0) : 0 < upD b ∧ upN a b / upD b = a.fdiv b ∧ upN a b % upD b = (if b < 0 then -a.fmod b else a.fmod b) := by
  unfold upN upD
  by_cases h : b < 0
  · rw [if_pos h, if_pos h, if_pos h]
    have e := Int.fmod_add_mul_fdiv a b
    have l : b < a.fmod b ∧ a.fmod b ≤ 0 := by
      have := (Int.fdiv_fmod_unique' (a := a) (r := a.fmod b) (q := a.fdiv b) h).1 ⟨rfl, rfl⟩
      omega
    generalize a.fmod b = r at *
    generalize a.fdiv b = q at *
    have := (Int.ediv_emod_unique (a := -a) (b := -b) (r := -r) (q := q) (by omega)).2 ⟨by rw [Int.neg_mul]; omega, by omega, by omega⟩
    exact ⟨by omega, this.1, this.2⟩
  · rw [if_neg h, if_neg h, if_neg h]
    exact ⟨by omega, (Int.fdiv_eq_ediv_of_nonneg a (by omega)).symm, (Int.fmod_eq_emod_of_nonneg a (by omega)).symm⟩
/-- does it become the upper one? -/
def upB (a b m : Int) : Bool := if a.fmod b = 0 then false else upR (upN a b) (upD b) m
/-- the fraction a by b, rounded -/
def nearR (a b m : Int) : Int := nearZ (upN a b) (upD b) m
theorem nearR_eq {a b m : Int} (hb : b ≠ 0) : nearR a b m = if upB a b m = true then a.fdiv b + 1 else a.fdiv b := by
  obtain ⟨_, e1, e2⟩ := up_parts (a := a) hb
  unfold nearR nearZ upB
  rw [e1, e2]
  by_cases h : a.fmod b = 0
  · rw [h]; simp
  · have h' : (if b < 0 then -a.fmod b else a.fmod b) ≠ 0 := by split <;> omega
    rw [if_neg h', if_neg h]
theorem ord_range (x y : Int) : ord x y = -1 ∧ x < y ∨ ord x y = 0 ∧ x = y ∨ ord x y = 1 ∧ y < x := by
  rcases Int.lt_trichotomy x y with h | h | h
  · exact .inl ⟨ord_lt h, h⟩
  · exact .inr (.inl ⟨ord_eq h, h⟩)
  · exact .inr (.inr ⟨ord_gt h, h⟩)
theorem near_sign {r b : Int} (hl : 0 < b ∧ 0 ≤ r ∧ r < b ∨ b < 0 ∧ b < r ∧ r ≤ 0) :
    (0 < ord r (b - r) * ord b 0 ↔ upD b < 2 * (if b < 0 then -r else r)) ∧ (ord r (b - r) * ord b 0 < 0 ↔ 2 * (if b < 0 then -r else r) < upD b) ∧ IntKind.i64.wrap (ord r (b - r) * ord b 0) = ord r (b - r) * ord b 0 := by
  unfold upD
  rcases hl with ⟨h, _, _⟩ | ⟨h, _, _⟩
  · rw [ord_gt h, if_neg (by omega), if_neg (by omega), Int.mul_one]
    rcases ord_range r (b - r) with ⟨e, k⟩ | ⟨e, k⟩ | ⟨e, k⟩ <;> rw [e] <;> refine ⟨by omega, by omega, by decide⟩
  · rw [ord_lt h, if_pos h, if_pos h]
    rcases ord_range r (b - r) with ⟨e, k⟩ | ⟨e, k⟩ | ⟨e, k⟩ <;> rw [e] <;> refine ⟨by omega, by omega, by decide⟩
theorem odd_lo (q : Int) : ((loW q).tmod 2 == 1) = decide (q % 2 ≠ 0) := by
  have h0 : 0 ≤ loW q := by unfold loW; omega
  rw [Int.tmod_eq_emod_of_nonneg h0]
  have e : loW q % 2 = q % 2 := by unfold loW; omega
  rw [e]
  by_cases h : q % 2 = 0
  · rw [h]; rfl
  · have : q % 2 = 1 := by omega
    rw [this]; rfl
theorem fmod_range {a b : Int} (hb : b ≠ 0) : 0 < b ∧ 0 ≤ a.fmod b ∧ a.fmod b < b ∨ b < 0 ∧ b < a.fmod b ∧ a.fmod b ≤ 0 := by
  obtain ⟨h1, _, h3⟩ := up_parts (a := a) hb
  have h4 := Int.emod_nonneg (upN a b) (b := upD b) (by omega)
  have h5 := Int.emod_lt_of_pos (upN a b) h1
  rw [h3] at h4 h5
  unfold upD at h5
  by_cases h : b < 0
  · rw [if_pos h] at h4 h5; rw [if_pos h] at h5; omega
  · rw [if_neg h] at h4 h5; rw [if_neg h] at h5; omega
/-- what rises tells is what rounding asks -/
theorem rises_up (a b m : Int) (hb : b ≠ 0) (m1 : 1 ≤ m) (m9 : m ≤ 9) :
    risesB (ord (a.fdiv b) 0) (ord (a.fmod b) (b - a.fmod b) * ord b 0) ((loW (a.fdiv b)).tmod 2 == 1) m = upR (upN a b) (upD b) m := by
  obtain ⟨k1, k2, _⟩ := near_sign (fmod_range hb)
  obtain ⟨d0, e1, e2⟩ := up_parts (a := a) hb
  rw [← e2] at k1 k2
  rw [odd_lo, ← e1]
  have sg : ord (upN a b / upD b) 0 < 0 ↔ upN a b < 0 := by
    rw [ord_iff]
    constructor
    · intro h
      by_cases hn : upN a b < 0
      · exact hn
      · have := Int.ediv_nonneg (a := upN a b) (b := upD b) (by omega) (by omega); omega
    · intro h; exact Int.ediv_neg_of_neg_of_pos h d0
  have sd : decide (ord (upN a b / upD b) 0 < 0) = decide (upN a b < 0) := by simp only [sg]
  have sn : (!decide (ord (upN a b / upD b) 0 < 0)) = decide (0 ≤ upN a b) := by
    rw [sd]; by_cases c : upN a b < 0
    · rw [decide_eq_true c, decide_eq_false (by omega)]; rfl
    · rw [decide_eq_false c, decide_eq_true (by omega)]; rfl
  generalize ord (a.fmod b) (b - a.fmod b) * ord b 0 = nr at *
  generalize upN a b = n at *
  generalize upD b = d at *
  have hm : m = 1 ∨ m = 2 ∨ m = 3 ∨ m = 4 ∨ m = 5 ∨ m = 6 ∨ m = 7 ∨ m = 8 ∨ m = 9 := by omega
  unfold risesB upR halfB
  rw [sn, sd]
  by_cases c1 : 0 < nr
  · have x1 := k1.1 c1
    have x2 : ¬ 2 * (n % d) < d := by omega
    rcases hm with rfl | rfl | rfl | rfl | rfl | rfl | rfl | rfl | rfl <;> simp [c1, x1, x2]
  · have x1 : ¬ d < 2 * (n % d) := fun h => c1 (k1.2 h)
    by_cases c2 : nr = 0
    · have x2 : ¬ 2 * (n % d) < d := fun h => by have := k2.2 h; omega
      rcases hm with rfl | rfl | rfl | rfl | rfl | rfl | rfl | rfl | rfl <;> simp [c2, x1, x2]
    · have x2 : 2 * (n % d) < d := k2.1 (by omega)
      rcases hm with rfl | rfl | rfl | rfl | rfl | rfl | rfl | rfl | rfl <;> simp [c1, c2, x1, x2]

theorem fmod_inW {a b : Int} (hb : InW b) (h0 : b ≠ 0) : InW (a.fmod b) ∧ InW (b - a.fmod b) ∧ (0 < b → InW (a.fmod b - b)) := by
  have h := fmod_range (a := a) h0
  unfold InW two127 at *
  omega
theorem ret_in {w : World} {z : Int} {e : Ending} {w' : World} (hz : InW z) (h : RetWE w z e w') : e = .returned (.tuple #[.agg #[.int .i64 (hiW z), .int .u64 (loW z)], .int .i64 0]) ∧ Below w.heap.size w w' := by
  obtain ⟨t1, t2, t3⟩ := told_in hz
  refine ⟨?_, h.2⟩
  rw [h.1, t1, t2, t3]
theorem rises_any (a b m : Int) (hb : InW b) (hb0 : b ≠ 0) (m1 : 1 ≤ m) (m9 : m ≤ 9) (w : World) :
    Calls Try.prog 28 #[.agg #[.int .i64 (hiW (a.fdiv b)), .int .u64 (loW (a.fdiv b))], .agg #[.int .i64 (hiW (a.fmod b)), .int .u64 (loW (a.fmod b))], .agg #[.int .i64 (hiW b), .int .u64 (loW b)], .int .i64 m] w (RetV w (.bool (upB a b m))) := by
  by_cases h0 : a.fmod b = 0
  · rw [show upB a b m = false by unfold upB; rw [if_pos h0], h0]
    exact rises_zero _ _ _ w
  · obtain ⟨i1, i2, _⟩ := fmod_inW (a := a) hb hb0
    rw [show upB a b m = upR (upN a b) (upD b) m by unfold upB; rw [if_neg h0], ← rises_up a b m hb0 m1 m9]
    exact rises_core _ _ _ (b - a.fmod b) _ _ _ _ m (Lib.hid fun W => (wideSub b _ hb i1 W).mono fun e w' h => ret_in i2 h) (Lib.hid fun W => wideCmp _ _ W) (Lib.hid fun W => wideSign _ W) (Lib.hid fun W => wideSign _ W)
      (near_sign (fmod_range hb0)).2.2 (Lib.hid h0) m1 m9 w
theorem floor_in (a b : Int) (ha : InW a) (hb : InW b) (hb0 : b ≠ 0) (iq : InW (a.fdiv b)) (W : World) :
    Calls Try.prog 27 #[.agg #[.int .i64 (hiW a), .int .u64 (loW a)], .agg #[.int .i64 (hiW b), .int .u64 (loW b)]] W (RetHalves W (hiW (a.fdiv b)) (loW (a.fdiv b)) (hiW (a.fmod b)) (loW (a.fmod b)) 0) := by
  obtain ⟨t1, t2, t3⟩ := told_in iq
  obtain ⟨u1, u2, _⟩ := told_in (fmod_inW (a := a) hb hb0).1
  exact (floorW_any a b ha hb hb0 W).mono fun e w' ⟨h1, h2⟩ => ⟨by rw [h1]; unfold hv2 lv2; rw [if_pos iq, if_pos iq, t1, t2, t3, u1, u2], h2⟩
theorem floor_over (a b : Int) (ha : InW a) (hb : InW b) (hb0 : b ≠ 0) (iq : ¬ InW (a.fdiv b)) (W : World) :
    Calls Try.prog 27 #[.agg #[.int .i64 (hiW a), .int .u64 (loW a)], .agg #[.int .i64 (hiW b), .int .u64 (loW b)]] W (RetHalves W 0 0 0 0 2) := by
  obtain ⟨t1, t2, t3⟩ := told_no iq
  exact (floorW_any a b ha hb hb0 W).mono fun e w' ⟨h1, h2⟩ => ⟨by rw [h1]; unfold hv2 lv2; rw [if_neg iq, if_neg iq, t1, t2, t3], h2⟩
/-- What a call that refuses with an error's number leaves. -/
def RetNo (w : World) (n : Int) (e : Ending) (w' : World) : Prop := e = .returned (.tuple #[.agg #[.int .i64 0, .int .u64 0], .int .i64 n]) ∧ Below w.heap.size w w'

theorem roundTo_no (a b m : Int) (h : m < 1 ∨ 9 < m ∨ b ≤ 0) (w : World) :
    Calls Try.prog 9 #[.agg #[.int .i64 (hiW a), .int .u64 (loW a)], .agg #[.int .i64 (hiW b), .int .u64 (loW b)], .int .i64 m] w (RetNo w 1) := by
  by_cases hm : m < 1 ∨ 9 < m
  · exact to_mode a b m (Lib.hid fun W => known_no m hm W) w
  · refine to_least a b m (ord b 0) ?_ (Lib.hid fun W => known_yes m (by omega) (by omega) W) (Lib.hid fun W => wideSign b W) w
    rcases ord_range b 0 with ⟨e, k⟩ | ⟨e, k⟩ | ⟨e, k⟩ <;> omega
theorem roundTo_any (a b m : Int) (ha : InW a) (hb : InW b) (hb0 : 0 < b) (m1 : 1 ≤ m) (m9 : m ≤ 9) (w : World) :
    Calls Try.prog 9 #[.agg #[.int .i64 (hiW a), .int .u64 (loW a)], .agg #[.int .i64 (hiW b), .int .u64 (loW b)], .int .i64 m] w (RetWE w (nearR a b m * b)) := by
  have hbn : b ≠ 0 := by omega
  have e := Int.fmod_add_mul_fdiv a b
  have hs : ¬ ord b 0 ≤ 0 := by rw [ord_gt hb0]; decide
  obtain ⟨i1, i2, i3⟩ := fmod_inW (a := a) hb hbn
  have iq : InW (a.fdiv b) := by
    rw [Int.fdiv_eq_ediv_of_nonneg a (by omega)]
    unfold InW two127 at *
    have h1 := Int.ediv_mul_add_emod a b
    have h2 := Int.emod_nonneg a hbn
    have h3 := Int.emod_lt_of_pos a hb0
    generalize a / b = q at *
    generalize a % b = r at *
    have hq : q * b = a - r := by omega
    constructor
    · apply Classical.byContradiction
      intro c
      have : q * b ≤ (-170141183460469231731687303715884105729) * b := Int.mul_le_mul_of_nonneg_right (by omega) (by omega)
      omega
    · apply Classical.byContradiction
      intro c
      have : 170141183460469231731687303715884105728 * b ≤ q * b := Int.mul_le_mul_of_nonneg_right (by omega) (by omega)
      omega
  have KN := Lib.hid (fun W => known_yes m m1 m9 W)
  have SG := Lib.hid (fun W => wideSign b W)
  have FL := Lib.hid (fun W => floor_in a b ha hb hbn iq W)
  have RI := fun W => rises_any a b m hb hbn m1 m9 W
  have nr := nearR_eq (a := a) (b := b) (m := m) hbn
  by_cases hu : upB a b m = true
  · rw [hu] at RI
    rw [nr, if_pos hu, show (a.fdiv b + 1) * b = a - (a.fmod b - b) by rw [Int.add_mul, Int.mul_comm]; omega]
    exact to_up a b m (ord b 0) _ _ (a.fmod b - b) _ _ _ hs KN SG FL (Lib.hid RI) (Lib.hid fun W => (wideSub _ _ i1 hb W).mono fun e w' h => ret_in (i3 hb0) h) (Lib.hid fun W => wideSub _ _ ha (i3 hb0) W) w
  · have hu' : upB a b m = false := by simpa using hu
    rw [hu'] at RI
    rw [nr, if_neg hu, show a.fdiv b * b = a - a.fmod b by rw [Int.mul_comm]; omega]
    exact to_down a b m (ord b 0) _ _ _ _ _ hs KN SG FL (Lib.hid RI) (Lib.hid fun W => wideSub _ _ ha i1 W) w
theorem ratio_arg (a b m : Int) (h : m < 1 ∨ 9 < m) (w : World) :
    Calls Try.prog 12 #[.agg #[.int .i64 (hiW a), .int .u64 (loW a)], .agg #[.int .i64 (hiW b), .int .u64 (loW b)], .int .i64 m] w (RetNo w 1) := ratio_mode a b m (Lib.hid fun W => known_no m h W) w
theorem ratio_zero (a m : Int) (m1 : 1 ≤ m) (m9 : m ≤ 9) (w : World) :
    Calls Try.prog 12 #[.agg #[.int .i64 (hiW a), .int .u64 (loW a)], .agg #[.int .i64 (hiW 0), .int .u64 (loW 0)], .int .i64 m] w (RetNo w 3) :=
  ratio_no a 0 m 3 (by decide) (Lib.hid fun W => known_yes m m1 m9 W) (Lib.hid fun W => (floorW_zero a W).mono fun e w' ⟨h1, h2⟩ => ⟨h1, h2⟩) w
theorem ratio_any (a b m : Int) (ha : InW a) (hb : InW b) (hb0 : b ≠ 0) (m1 : 1 ≤ m) (m9 : m ≤ 9) (w : World) :
    Calls Try.prog 12 #[.agg #[.int .i64 (hiW a), .int .u64 (loW a)], .agg #[.int .i64 (hiW b), .int .u64 (loW b)], .int .i64 m] w (RetWE w (nearR a b m)) := by
  have KN := Lib.hid (fun W => known_yes m m1 m9 W)
  have nr := nearR_eq (a := a) (b := b) (m := m) hb0
  by_cases iq : InW (a.fdiv b)
  · have FL := Lib.hid (fun W => floor_in a b ha hb hb0 iq W)
    have RI := fun W => rises_any a b m hb hb0 m1 m9 W
    by_cases hu : upB a b m = true
    · rw [hu] at RI
      rw [nr, if_pos hu]
      exact ratio_up a b m _ _ _ _ _ KN FL (Lib.hid RI) (Lib.hid fun W => wideOf 1 (by decide) W) (Lib.hid fun W => wideAdd _ 1 iq (inW_of_64 (by decide)) W) w
    · have hu' : upB a b m = false := by simpa using hu
      rw [hu'] at RI
      rw [nr, if_neg hu]
      obtain ⟨t1, t2, t3⟩ := told_in iq
      exact (ratio_down a b m _ _ KN FL (Lib.hid RI) w).mono fun e w' ⟨h1, h2⟩ => ⟨by rw [h1, t1, t2, t3], h2⟩
  · have FL := Lib.hid (fun W => floor_over a b ha hb hb0 iq W)
    have no : ¬ InW (nearR a b m) := by
      have hb1 : b = -1 ∧ a = -170141183460469231731687303715884105728 := by
        have e := Int.fmod_add_mul_fdiv a b
        have h := fmod_range (a := a) hb0
        generalize a.fmod b = r at *
        generalize a.fdiv b = q at *
        unfold InW two127 at *
        rcases h with ⟨h1, h2, h3⟩ | ⟨h1, h2, h3⟩
        · exfalso
          apply iq
          constructor
          · apply Classical.byContradiction
            intro c
            have : b * q ≤ b * (-170141183460469231731687303715884105729) := Int.mul_le_mul_of_nonneg_left (by omega) (by omega)
            omega
          · apply Classical.byContradiction
            intro c
            have : b * 170141183460469231731687303715884105728 ≤ b * q := Int.mul_le_mul_of_nonneg_left (by omega) (by omega)
            omega
        · by_cases hq : q < 170141183460469231731687303715884105728
          · exfalso
            apply iq
            refine ⟨?_, hq⟩
            apply Classical.byContradiction
            intro c
            have : b * (-170141183460469231731687303715884105729) ≤ b * q := Int.mul_le_mul_of_nonpos_left (by omega) (by omega)
            omega
          · have : b * q ≤ b * 170141183460469231731687303715884105728 := Int.mul_le_mul_of_nonpos_left (by omega) (by omega)
            omega
      obtain ⟨rfl, rfl⟩ := hb1
      rw [nr, show upB (-170141183460469231731687303715884105728) (-1) m = false by unfold upB; rw [if_pos (by decide)]]
      decide
    obtain ⟨t1, t2, t3⟩ := told_no no
    exact (ratio_no a b m 2 (by decide) KN FL w).mono fun e w' ⟨h1, h2⟩ => ⟨by rw [h1, t1, t2, t3], h2⟩
end Go.Proofs.Ytnopgdheffnfdaa
