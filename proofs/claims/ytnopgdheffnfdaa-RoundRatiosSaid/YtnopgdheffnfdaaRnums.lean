/- The document's answer of layer 4, at any numbers: Near, To and Ratio. -/
import Derived.Test.YtnopgdheffnfdaaRnone
namespace Go.Proofs.Ytnopgdheffnfdaa
open Go.RowKit

theorem cmpZ_neg (x y : Int) : cmpZ x y < 0 ↔ x < y := by
  rcases Int.lt_trichotomy x y with h | h | h
  · rw [cmpZ_lt h]; omega
  · rw [cmpZ_eq h]; omega
  · rw [cmpZ_gt h]; omega
theorem cmpZ_pos (x y : Int) : 0 < cmpZ x y ↔ y < x := by
  rcases Int.lt_trichotomy x y with h | h | h
  · rw [cmpZ_lt h]; omega
  · rw [cmpZ_eq h]; omega
  · rw [cmpZ_gt h]; omega
theorem pick_near {x y m : Int} (h0 : x % y ≠ 0) : pickN (x / y) (cmpZ x 0) (cmpZ (x % y + x % y) y) m = nearZ x y m := by
  have c1 : cmpZ (x % y + x % y) y < 0 ↔ 2 * (x % y) < y := by rw [cmpZ_neg]; omega
  have c2 : 0 < cmpZ (x % y + x % y) y ↔ y < 2 * (x % y) := by rw [cmpZ_pos]; omega
  have c3 : cmpZ x 0 < 0 ↔ x < 0 := cmpZ_neg x 0
  unfold nearZ
  rw [if_neg h0]
  unfold pickN upR
  simp only [c1, c2, c3]
  by_cases a1 : 5 ≤ m ∧ 2 * (x % y) < y
  · rw [if_pos a1, if_pos a1]; simp
  · rw [if_neg a1, if_neg a1]
    by_cases a2 : 5 ≤ m ∧ y < 2 * (x % y)
    · rw [if_pos a2, if_pos a2]; simp
    · rw [if_neg a2, if_neg a2]
      by_cases a3 : m = 1 ∨ m = 5
      · rw [if_pos a3, if_pos a3]; simp
      · rw [if_neg a3, if_neg a3]
        by_cases a4 : m = 2 ∨ m = 6
        · rw [if_pos a4, if_pos a4]; simp
        · rw [if_neg a4, if_neg a4]
          by_cases a5 : m = 3 ∨ m = 7
          · rw [if_pos a5, if_pos a5]
            by_cases a6 : x < 0
            · rw [if_pos a6, decide_eq_false (by omega)]; simp
            · rw [if_neg a6, decide_eq_true (by omega)]; simp
          · rw [if_neg a5, if_neg a5]
            by_cases a7 : m = 4 ∨ m = 8
            · rw [if_pos a7, if_pos a7]
              by_cases a6 : x < 0
              · rw [if_pos a6, decide_eq_true a6]; simp
              · rw [if_neg a6, decide_eq_false a6]; simp
            · rw [if_neg a7, if_neg a7]
              by_cases a8 : x / y % 2 = 0
              · rw [if_pos a8, decide_eq_false (by omega)]; simp
              · rw [if_neg a8, decide_eq_true a8]; simp
theorem near_any (p q : Bool) (A B : Option Addr) (n m c d : Nat) (x y mo : Int) (hy0 : 0 < y) (m1 : 1 ≤ mo) (m9 : mo ≤ 9) (sx : x.natAbs < 65536 ^ 9) (sy : y.natAbs < 65536 ^ 9) (w : World) (hx : Zs w p A n c x) (hy : Zs w q B m d y) :
    Calls Try.prog 30 #[.agg #[.bool p, .slice A n c], .agg #[.bool q, .slice B m d], .int .i64 mo] w (RetNB w (nearZ x y mo)) := by
  have ln := hx.small sx
  have lm := hy.small sy
  obtain ⟨e1, e2⟩ := floor_parts (n := x) hy0
  have DV : Hid (∀ W, Zs W p A n c x → Zs W q B m d y → Calls Try.prog 20 #[.agg #[.bool p, .slice A n c], .agg #[.bool q, .slice B m d]] W (RetQR W (x / y) (x % y))) :=
    Lib.hid fun W h1 h2 => by have := div_any p q A B n m c d x y W h1 h2 (by omega) (by omega) (by omega); rwa [e1, e2] at this
  have sl : Hid ((x / y).natAbs < 65536 ^ 9) := Lib.hid (by rw [← e1]; exact quot_small sx (by omega))
  have sr : Hid ((x % y).natAbs < 65536 ^ 9) := Lib.hid (by rw [← e2]; exact rest_small sy (by omega))
  by_cases h0 : x % y = 0
  · have : nearZ x y mo = x / y := by unfold nearZ; rw [if_pos h0]
    rw [this]
    exact near_zero p q A B n m c d x y _ _ mo m1 m9 DV sl sr (Lib.hid fun p A n c W h1 h2 => by have := sign_any p A n c _ W h1 h2; rwa [cmpZ_eq h0] at this) w hx hy
  · rw [← pick_near h0]
    have r0 := Int.emod_nonneg x (b := y) (by omega)
    refine near_rest p q A B n m c d x y _ _ mo m1 m9 DV sl sr (cmpZ (x % y) 0) _ _ ?_ (Lib.hid fun p A n c W h1 h2 => sign_any p A n c _ W h1 h2) (Lib.hid fun W h1 => sign_any p A n c x W h1 (by omega)) (Lib.hid fun p A n c W h1 h2 h3 => cmp_any p q A B n m c d _ y W h1 h2 h3 (by omega)) w hx hy
    rw [cmpZ_gt (by omega)]; decide
theorem toR_no (a b mo : Int) (ha : InW a) (hb : InW b) (h : mo < 1 ∨ 9 < mo ∨ b ≤ 0) (w : World) :
    Calls Try.prog 10 #[.agg #[.int .i64 (hiW a), .int .u64 (loW a)], .agg #[.int .i64 (hiW b), .int .u64 (loW b)], .int .i64 mo] w (RetNo w 1) := by
  have OB := Lib.hid (fun W => wof_z b hb W)
  have SI := Lib.hid (fun p A n c W h1 h2 => sign_any p A n c b W h1 h2)
  by_cases hb0 : b ≤ 0
  · refine toR_least a b mo (cmpZ b 0) OB (Lib.hid (small_w hb)) SI ?_ w
    have := cmpZ_pos b 0
    omega
  · refine toR_mode a b mo (cmpZ b 0) OB (Lib.hid (small_w hb)) SI ?_ (Lib.hid fun W => wof_z a ha W) (Lib.hid (small_w ha)) (Lib.hid fun p q A B n m c d W => near_none p q A B n m c d mo (by omega) W) w
    have := cmpZ_pos b 0
    omega
theorem near_le {x y m : Int} (hy : 0 < y) : (nearZ x y m).natAbs ≤ x.natAbs + 1 := by
  have e := (floor_parts (n := x) hy).1
  have h := (fdiv_le x y (by omega)).1
  rw [e] at h
  rcases near_two (n := x) (d := y) (m := m) with k | ⟨k, _⟩ <;> omega
theorem toR_yes (a b mo : Int) (ha : InW a) (hb : InW b) (hb0 : 0 < b) (m1 : 1 ≤ mo) (m9 : mo ≤ 9) (w : World) :
    Calls Try.prog 10 #[.agg #[.int .i64 (hiW a), .int .u64 (loW a)], .agg #[.int .i64 (hiW b), .int .u64 (loW b)], .int .i64 mo] w (RetWE w (nearZ a b mo * b)) := by
  have OB := Lib.hid (fun W => wof_z b hb W)
  have SI := Lib.hid (fun p A n c W h1 h2 => sign_any p A n c b W h1 h2)
  have aa := abs_w ha
  have ab := abs_w hb
  have nl := near_le (x := a) (y := b) (m := mo) hb0
  have sk : (nearZ a b mo).natAbs < 65536 ^ 9 := small_2w (by omega)
  refine toR_any a b mo (cmpZ b 0) (nearZ a b mo) _ OB (Lib.hid (small_w hb)) SI ?_ (Lib.hid fun W => wof_z a ha W) (Lib.hid (small_w ha))
    (Lib.hid fun p q A B n m c d W h1 h2 => near_any p q A B n m c d a b mo hb0 m1 m9 (small_w ha) (small_w hb) W h1 h2) (Lib.hid sk)
    (Lib.hid fun p q A B n m c d W h1 h2 h3 h4 => mul_any p q A B n m c d _ b W h1 h2 h3 h4) (Lib.hid ?_) (Lib.hid fun p A n c W h1 h2 => wtold_any p A n c _ W h1 h2) w
  · have := cmpZ_pos b 0
    omega
  · rw [Int.natAbs_mul]
    refine Nat.lt_of_lt_of_le (Nat.mul_lt_mul'' sk (small_w hb)) ?_
    rw [← Nat.pow_add]
    exact Nat.pow_le_pow_right (by decide) (by decide)
theorem ratioR_arg (a b mo : Int) (ha : InW a) (hb : InW b) (h : mo < 1 ∨ 9 < mo) (w : World) :
    Calls Try.prog 13 #[.agg #[.int .i64 (hiW a), .int .u64 (loW a)], .agg #[.int .i64 (hiW b), .int .u64 (loW b)], .int .i64 mo] w (RetNo w 1) := by
  have OA := Lib.hid (fun W => wof_z a ha W)
  have OB := Lib.hid (fun W => wof_z b hb W)
  by_cases h1 : mo < 1
  · exact ratioR_less a b mo OA OB (Lib.hid (small_w ha)) (Lib.hid (small_w hb)) h1 w
  · exact ratioR_more a b mo OA OB (Lib.hid (small_w ha)) (Lib.hid (small_w hb)) h1 (by omega) w
theorem ratioR_no (a mo : Int) (ha : InW a) (m1 : 1 ≤ mo) (m9 : mo ≤ 9) (w : World) :
    Calls Try.prog 13 #[.agg #[.int .i64 (hiW a), .int .u64 (loW a)], .agg #[.int .i64 (hiW 0), .int .u64 (loW 0)], .int .i64 mo] w (RetNo w 3) := by
  have hb : InW 0 := inW_of_64 (by decide)
  exact ratioR_zero a 0 mo (Lib.hid fun W => wof_z a ha W) (Lib.hid fun W => wof_z 0 hb W) (Lib.hid (small_w ha)) (Lib.hid (small_w hb)) (by omega) (by omega)
    (Lib.hid fun p A n c W h1 h2 => by have := sign_any p A n c 0 W h1 h2; rwa [cmpZ_eq rfl] at this) w
theorem ratioR_yes (a b mo : Int) (ha : InW a) (hb : InW b) (hb0 : b ≠ 0) (m1 : 1 ≤ mo) (m9 : mo ≤ 9) (w : World) :
    Calls Try.prog 13 #[.agg #[.int .i64 (hiW a), .int .u64 (loW a)], .agg #[.int .i64 (hiW b), .int .u64 (loW b)], .int .i64 mo] w (RetWE w (nearR a b mo)) := by
  have OA := Lib.hid (fun W => wof_z a ha W)
  have OB := Lib.hid (fun W => wof_z b hb W)
  have SI := Lib.hid (fun p A n c W h1 h2 => sign_any p A n c b W h1 h2)
  have aa := abs_w ha
  have hs : (cmpZ b 0 == 0) = false := by
    rw [beq_eq_false_iff_ne]
    rcases Int.lt_trichotomy b 0 with h | h | h
    · rw [cmpZ_lt h]; decide
    · exact absurd h hb0
    · rw [cmpZ_gt h]; decide
  have TD := Lib.hid (fun p A n c W h1 h2 => wtold_any p A n c (nearR a b mo) W h1 h2)
  by_cases h : b < 0
  · have e : nearR a b mo = nearZ (-a) (-b) mo := by unfold nearR upN upD; rw [if_pos h, if_pos h]
    have sx : (-a).natAbs < 65536 ^ 9 := by rw [Int.natAbs_neg]; exact small_w ha
    have sy : (-b).natAbs < 65536 ^ 9 := by rw [Int.natAbs_neg]; exact small_w hb
    have nl := near_le (x := -a) (y := -b) (m := mo) (by omega)
    have sk : (nearR a b mo).natAbs < 65536 ^ 9 := small_2w (by rw [e]; omega)
    exact ratioR_neg a b mo _ _ OA OB (Lib.hid (small_w ha)) (Lib.hid (small_w hb)) (by omega) (by omega) hs SI (Lib.hid sk) TD h
      (Lib.hid fun p A n c W h1 h2 => neg_any p A n c a W h1 h2) (Lib.hid fun p A n c W h1 h2 => neg_any p A n c b W h1 h2) (Lib.hid sx) (Lib.hid sy)
      (Lib.hid fun p q A B n m c d W h1 h2 => by rw [e]; exact near_any p q A B n m c d _ _ mo (by omega) m1 m9 sx sy W h1 h2) w
  · have e : nearR a b mo = nearZ a b mo := by unfold nearR upN upD; rw [if_neg h, if_neg h]
    have nl := near_le (x := a) (y := b) (m := mo) (by omega)
    have sk : (nearR a b mo).natAbs < 65536 ^ 9 := small_2w (by rw [e]; omega)
    exact ratioR_pos a b mo _ _ OA OB (Lib.hid (small_w ha)) (Lib.hid (small_w hb)) (by omega) (by omega) hs SI (Lib.hid sk) TD h
      (Lib.hid fun p q A B n m c d W h1 h2 => by rw [e]; exact near_any p q A B n m c d _ _ mo (by omega) m1 m9 (small_w ha) (small_w hb) W h1 h2) w
/-- both answer the same -/
theorem tos_same (a b m : Int) (ha : InW a) (hb : InW b) : ∃ x y e : Int, (∀ W, Calls Try.prog 9 #[.agg #[.int .i64 (hiW a), .int .u64 (loW a)], .agg #[.int .i64 (hiW b), .int .u64 (loW b)], .int .i64 m] W (fun o w' => o = .returned (.tuple #[.agg #[.int .i64 x, .int .u64 y], .int .i64 e]) ∧ Below W.heap.size W w')) ∧ (∀ W, Calls Try.prog 10 #[.agg #[.int .i64 (hiW a), .int .u64 (loW a)], .agg #[.int .i64 (hiW b), .int .u64 (loW b)], .int .i64 m] W (fun o w' => o = .returned (.tuple #[.agg #[.int .i64 x, .int .u64 y], .int .i64 e]) ∧ Below W.heap.size W w')) := by
  by_cases h : m < 1 ∨ 9 < m ∨ b ≤ 0
  · exact ⟨0, 0, 1, fun W => roundTo_no a b m h W, fun W => toR_no a b m ha hb h W⟩
  · have e : nearR a b m = nearZ a b m := by unfold nearR upN upD; rw [if_neg (by omega), if_neg (by omega)]
    refine ⟨hv (nearZ a b m * b), lv (nearZ a b m * b), ev (nearZ a b m * b), fun W => ?_, fun W => toR_yes a b m ha hb (by omega) (by omega) (by omega) W⟩
    have := roundTo_any a b m ha hb (by omega) (by omega) (by omega) W
    rw [e] at this
    exact this
end Go.Proofs.Ytnopgdheffnfdaa
