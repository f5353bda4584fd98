/- What the calls of math/bits that package wide makes answer: sums with a carry, differences with a borrow, products of two words, a quotient by ten. -/
import Derived.Test.YtpjhenipeafbiaaWdef
import Derived.WalkKit
import Derived.OpenShut
import Derived.LoopTactic
import Derived.Outline
import Derived.Laws.Externs
import Derived.Laws.Bits64b
import Derived.Shelf.Spec.BitsCarry
import Derived.Lib.Mul64
namespace Go.Proofs.Ytpjhenipeafbiaa
open Go.RowKit

theorem add64 (x y c : Int) (hx : 0 ≤ x) (hy : 0 ≤ y) (hc0 : 0 ≤ c) (hc : c ≤ 1) (w : World) : (callFunc 48 #[.int .u64 x, .int .u64 y, .int .u64 c]).run Try.prog w =
    .ok (.value (.tuple #[.int .u64 ((x + y + c) % 18446744073709551616), .int .u64 ((x + y + c) / 18446744073709551616)])) w := by
  rw [run_callFunc_extern Try.func48 (by kernel_rfl) (by kernel_rfl) (by kernel_rfl) (e := add64Entry) (by kernel_rfl), run_add64 x y c hx hy hc0 hc]
  rfl
theorem add64_0 (x y : Int) (hx : 0 ≤ x) (hy : 0 ≤ y) (w : World) : (callFunc 48 #[.int .u64 x, .int .u64 y, .int .u64 0]).run Try.prog w =
    .ok (.value (.tuple #[.int .u64 ((x + y) % 18446744073709551616), .int .u64 ((x + y) / 18446744073709551616)])) w := by
  simpa using add64 x y 0 hx hy (Int.le_refl 0) (by decide) w

/-- the borrow -/
def bor (x y : Int) : Int := if x < y then 1 else 0
theorem sub64 (x y b : Int) (hx : 0 ≤ x) (hy : 0 ≤ y) (hy' : y < 18446744073709551616) (hb0 : 0 ≤ b) (hb : b ≤ 1) (w : World) : (callFunc 59 #[.int .u64 x, .int .u64 y, .int .u64 b]).run Try.prog w =
    .ok (.value (.tuple #[.int .u64 ((x - y - b) % 18446744073709551616), .int .u64 (bor x (y + b))])) w := by
  obtain ⟨x, rfl⟩ := Int.eq_ofNat_of_zero_le hx
  obtain ⟨y, rfl⟩ := Int.eq_ofNat_of_zero_le hy
  obtain ⟨b, rfl⟩ := Int.eq_ofNat_of_zero_le hb0
  have e1 : (((x + 18446744073709551616 - y - b) % 18446744073709551616 : Nat) : Int) = ((x : Int) - y - b) % 18446744073709551616 := by omega
  have e2 : ((if x < y + b then 1 else 0 : Nat) : Int) = bor (x : Int) (y + b) := by unfold bor; split <;> split <;> omega
  rw [← e1, ← e2, run_callFunc_extern Try.func59 (by kernel_rfl) (by kernel_rfl) (by kernel_rfl) (e := sub64Entry) (by kernel_rfl), run_sub64 x y b (by omega)]
  rfl
theorem sub64_0 (x y : Int) (hx : 0 ≤ x) (hy : 0 ≤ y) (hy' : y < 18446744073709551616) (w : World) : (callFunc 59 #[.int .u64 x, .int .u64 y, .int .u64 0]).run Try.prog w =
    .ok (.value (.tuple #[.int .u64 ((x - y) % 18446744073709551616), .int .u64 (bor x y)])) w := by
  simpa using sub64 x y 0 hx hy hy' (Int.le_refl 0) (by decide) w

/-! a quotient by ten -/
set_option maxRecDepth 100000 in
theorem len64_10  (w : World) :
    Calls Try.prog 63 #[.int .u64 10] w fun e w' => e = .returned (.int .i64 4) ∧ w = w' := by
  go_enter Try.func63, Try.ntmps63
  go_wp2
  go_ret
  exact ⟨by kernel_rfl, rfl⟩
theorem lead64_10  (w : World) :
    Calls Try.prog 62 #[.int .u64 10] w fun e w' => e = .returned (.int .i64 60) ∧ w = w' := by
  go_enter Try.func62, Try.ntmps62
  go_wp2_with (go_at_call 63; refine (len64_10 _).mono ?_; rintro e w' ⟨rfl, rfl⟩)
  go_ret
  exact ⟨rfl, rfl⟩

theorem bits_or_disj (a b k : Nat) (ha : a % 2 ^ k = 0) (hb : b < 2 ^ k) (h : a + b < 18446744073709551616) :
    bits .or .u64 (a : Int) (b : Int) = ((a + b : Nat) : Int) := by
  rw [bits_or_u64_nat a b (by omega) (by omega)]
  congr 1
  have e : a = a / 2 ^ k * 2 ^ k := (Nat.div_mul_cancel (Nat.dvd_of_mod_eq_zero ha)).symm
  rw [e, ← Nat.shiftLeft_eq, Nat.shiftLeft_add_eq_or_of_lt hb]
theorem bits_or_shift (hi lo : Int) (h1 : 0 ≤ hi) (h2 : hi < 10) (h3 : 0 ≤ lo) (h4 : lo ≤ 18446744073709551615) :
    bits .or .u64 (hi * 1152921504606846976) (lo / 16) = hi * 1152921504606846976 + lo / 16 := by
  obtain ⟨hi, rfl⟩ := Int.eq_ofNat_of_zero_le h1
  obtain ⟨lo, rfl⟩ := Int.eq_ofNat_of_zero_le h3
  have h := bits_or_disj (hi * 1152921504606846976) (lo / 16) 60 (by omega) (by omega) (by omega)
  simpa using h
theorem and_low (v : Int) (h0 : 0 ≤ v) (h1 : v < 18446744073709551616) (h2 : v % 4294967296 = 0) : bits .and .u64 v 4294967295 = 0 := by
  obtain ⟨v, rfl⟩ := Int.eq_ofNat_of_zero_le h0
  have h := bits_and_u64_nat v 4294967295 (by omega) (by omega)
  have e : v &&& 4294967295 = v % 4294967296 := Nat.and_two_pow_sub_one_eq_mod v 32
  rw [e] at h
  rw [show v % 4294967296 = 0 by omega] at h
  exact h

theorem div64_10_0 (lo : Int) (w : World) (h1 : 0 ≤ lo) (h2 : lo ≤ 18446744073709551615) :
    Calls Try.prog 60 #[.int .u64 0, .int .u64 lo, .int .u64 10] w fun e w' => e = .returned (.tuple #[.int .u64 (lo / 10), .int .u64 (lo % 10)]) ∧ Below w.heap.size w w' := by
  have e1 : lo.tdiv 10 = lo / 10 := Int.tdiv_eq_ediv_of_nonneg h1
  have e2 : lo.tmod 10 = lo % 10 := Int.tmod_eq_emod_of_nonneg h1
  have e3 : IntKind.u64.wrap (lo / 10) = lo / 10 := IntWalk.u64_in _ (by omega)
  go_enter Try.func60, Try.ntmps60
  go_wp2
  go_region
  go_wp2
  go_ret2
  exact ⟨rfl, (Below.refl _ _).drew⟩

set_option maxRecDepth 100000 in
set_option maxHeartbeats 4000000 in
theorem div64_10_1 (hi lo : Int) (w : World) (h0 : 0 < hi) (h1 : hi < 10) (h2 : 0 ≤ lo) (h3 : lo ≤ 18446744073709551615) :
    Calls Try.prog 60 #[.int .u64 hi, .int .u64 lo, .int .u64 10] w fun e w' => e = .returned (.tuple #[.int .u64 ((hi * 18446744073709551616 + lo) / 10), .int .u64 ((hi * 18446744073709551616 + lo) % 10)]) ∧ Below w.heap.size w w' := by
  have h0' : (hi == 0) = false := by rw [beq_eq_false_iff_ne]; omega
  have h10 : ¬ ((10 : Int) ≤ hi) := by omega
  have eO := bits_or_shift hi lo (by omega) h1 h2 h3
  have hU : ∃ U : Int, U = hi * 1152921504606846976 + lo / 16 := ⟨_, rfl⟩
  obtain ⟨U, hU⟩ := hU
  rw [← hU] at eO
  have hV : ∃ V : Int, V = (lo % 16) * 1152921504606846976 := ⟨_, rfl⟩
  obtain ⟨V, hV⟩ := hV
  have eV : IntKind.u64.wrap (lo * 1152921504606846976) = V := by rw [IntKind.wrap_u64]; omega
  have eA : bits .and .u64 11529215046068469760 4294967295 = 0 := and_low _ (by decide) (by decide) (by decide)
  have eB : bits .and .u64 V 4294967295 = 0 := and_low _ (by omega) (by omega) (by omega)
  have hq1 : ∃ q : Int, q = U / 2684354560 := ⟨_, rfl⟩
  obtain ⟨q, hq⟩ := hq1
  have eq1 : U.tdiv 2684354560 = q := by rw [Int.tdiv_eq_ediv_of_nonneg (by omega), hq]
  have eq2 : IntKind.u64.wrap q = q := IntWalk.u64_in _ (by omega)
  have eq3 : IntKind.u64.wrap (q * 2684354560) = q * 2684354560 := IntWalk.u64_in _ (by omega)
  have hr1 : ∃ r : Int, r = U - q * 2684354560 := ⟨_, rfl⟩
  obtain ⟨r, hr⟩ := hr1
  have er : IntKind.u64.wrap (U - q * 2684354560) = r := by rw [← hr]; exact IntWalk.u64_in _ (by omega)
  have hV1 : ∃ V1 : Int, V1 = V / 4294967296 := ⟨_, rfl⟩
  obtain ⟨V1, hV1⟩ := hV1
  have eV1 : V / 4294967296 = V1 := hV1.symm
  have g1 : ¬ (4294967296 ≤ q) := by omega
  have hU2 : ∃ X : Int, X = r * 4294967296 + V1 := ⟨_, rfl⟩
  obtain ⟨X, hX⟩ := hU2
  have f1 : IntKind.u64.wrap (IntKind.u64.wrap (IntKind.u64.wrap (U * 4294967296) + V1) - IntKind.u64.wrap (q * 11529215046068469760)) = X := by
    rw [IntKind.wrap_u64, IntKind.wrap_u64, IntKind.wrap_u64, IntKind.wrap_u64]; omega
  have hs : ∃ s : Int, s = X / 2684354560 := ⟨_, rfl⟩
  obtain ⟨s, hs⟩ := hs
  have es1 : X.tdiv 2684354560 = s := by rw [Int.tdiv_eq_ediv_of_nonneg (by omega), hs]
  have es2 : IntKind.u64.wrap s = s := IntWalk.u64_in _ (by omega)
  have es3 : IntKind.u64.wrap (s * 2684354560) = s * 2684354560 := IntWalk.u64_in _ (by omega)
  have ht : ∃ t : Int, t = X - s * 2684354560 := ⟨_, rfl⟩
  obtain ⟨t, ht⟩ := ht
  have et : IntKind.u64.wrap (X - s * 2684354560) = t := by rw [← ht]; exact IntWalk.u64_in _ (by omega)
  have g2 : ¬ (4294967296 ≤ s) := by omega
  have hy : ∃ Y : Int, Y = t / 268435456 := ⟨_, rfl⟩
  obtain ⟨Y, hY⟩ := hy
  have f2 : IntKind.u64.wrap (IntKind.u64.wrap (IntKind.u64.wrap (X * 4294967296)) - IntKind.u64.wrap (s * 11529215046068469760)) / 1152921504606846976 = Y := by
    rw [IntKind.wrap_u64, IntKind.wrap_u64, IntKind.wrap_u64, IntKind.wrap_u64]; omega
  have f3 : IntKind.u64.wrap (q * 4294967296) = q * 4294967296 := IntWalk.u64_in _ (by omega)
  have f4 : IntKind.u64.wrap (q * 4294967296 + s) = q * 4294967296 + s := IntWalk.u64_in _ (by omega)
  have r1 : q * 4294967296 + s = (hi * 18446744073709551616 + lo) / 10 := by omega
  have r2 : Y = (hi * 18446744073709551616 + lo) % 10 := by omega
  have k1 : 0 ≤ r ∧ r < 2684354560 := by omega
  have k2 : 0 ≤ V1 ∧ V1 < 4294967296 := by omega
  have k3 : 0 ≤ q := by omega
  have k4 : 0 ≤ s := by omega
  have k5 : 0 ≤ t ∧ t < 2684354560 := by omega
  obtain ⟨k1, k1'⟩ := k1
  obtain ⟨k2, k2'⟩ := k2
  obtain ⟨k5, k5'⟩ := k5
  have R1 := Lib.hid r1
  have R2 := Lib.hid r2
  clear r1 r2 hU hV hq hr hV1 hX hs ht hY h2 h3
  have j1 : 0 ≤ 4294967296 * r + V1 := by omega
  have j2 : 0 ≤ 4294967296 * t := by omega
  go_enter Try.func60, Try.ntmps60
  go_wp2_with (go_at_call 62; refine (lead64_10 _).mono ?_; rintro e w' ⟨rfl, rfl⟩)
  go_loop [15, 16] (fun a b => a = .int .u64 q ∧ b = .int .u64 r) (fun _ _ => 0)
  case atStart => exact ⟨rfl, rfl⟩
  case round =>
    obtain ⟨rfl, rfl⟩ := hrel
    go_wp2
    go_loop [18, 16] (fun a b => a = .int .u64 s ∧ b = .int .u64 t) (fun _ _ => 0)
    case atStart => exact ⟨rfl, rfl⟩
    case round =>
      obtain ⟨rfl, rfl⟩ := hrel
      go_wp2
      go_ret2
      exact ⟨by rw [← R1.out, ← R2.out]; rfl, Below.refl _ _⟩

theorem div64_ten (hi lo : Int) (w : World) (h0 : 0 ≤ hi) (h1 : hi < 10) (h2 : 0 ≤ lo) (h3 : lo ≤ 18446744073709551615) :
    Calls Try.prog 60 #[.int .u64 hi, .int .u64 lo, .int .u64 10] w fun e w' => e = .returned (.tuple #[.int .u64 ((hi * 18446744073709551616 + lo) / 10), .int .u64 ((hi * 18446744073709551616 + lo) % 10)]) ∧ Below w.heap.size w w' := by
  by_cases h : hi = 0
  · subst h
    simpa using div64_10_0 lo w h2 h3
  · exact div64_10_1 hi lo w (by omega) h1 h2 h3

/-! products -/
theorem mul64_maskN (a : Nat) (ha : a < 18446744073709551616) : bits .and .u64 (a : Int) 4294967295 = ((a % 4294967296 : Nat) : Int) := by
  have h := bits_and_u64_nat a 4294967295 ha (by omega)
  rw [show a &&& 4294967295 = a % 4294967296 from Nat.and_two_pow_sub_one_eq_mod a 32] at h
  exact h
theorem mul64_wrapN (a : Nat) (ha : a < 18446744073709551616) : IntKind.u64.wrap (a : Int) = (a : Int) := IntWalk.u64_in _ (by omega)
theorem mul64_wrapM (a : Nat) : IntKind.u64.wrap (a : Int) = ((a % 18446744073709551616 : Nat) : Int) := by rw [IntKind.wrap_u64]; omega

theorem mul64_mask (t : Int) (h0 : 0 ≤ t) (h1 : t < 18446744073709551616) : bits .and .u64 t 4294967295 = t % 4294967296 := by
  obtain ⟨t, rfl⟩ := Int.eq_ofNat_of_zero_le h0
  rw [show ((t : Nat) : Int) = Int.ofNat t from rfl] at *
  have := mul64_maskN t (by have : (Int.ofNat t) = (t : Int) := rfl; omega)
  rw [show (Int.ofNat t) = (t : Int) from rfl, this]
  omega

set_option maxHeartbeats 1000000 in
theorem mul64_nat (x y : Nat) (hx : x < 18446744073709551616) (hy : y < 18446744073709551616) (w : World) :
    Calls Try.prog 55 #[.int .u64 x, .int .u64 y] w fun e w' => e = .returned (.tuple #[.int .u64 ((x * y / 18446744073709551616 : Nat) : Int), .int .u64 ((x * y % 18446744073709551616 : Nat) : Int)]) ∧ w' = w := by
  obtain ⟨_, bt, bw, hhi⟩ := Lib.mul64_hi x y hx hy
  have mx : bits .and .u64 (x : Int) 4294967295 = ((x % 4294967296 : Nat) : Int) := mul64_maskN x hx
  have my : bits .and .u64 (y : Int) 4294967295 = ((y % 4294967296 : Nat) : Int) := mul64_maskN y hy
  have dx : (x : Int) / 4294967296 = ((x / 4294967296 : Nat) : Int) := by omega
  have dy : (y : Int) / 4294967296 = ((y / 4294967296 : Nat) : Int) := by omega
  have hlo := mul64_wrapM (x * y)
  rw [Int.natCast_mul] at hlo
  have hcd := Lib.half_mul_le (a := x % 4294967296) (b := y % 4294967296) (by omega) (by omega)
  have had := Lib.half_mul_le (a := x / 4294967296) (b := y % 4294967296) (by omega) (by omega)
  have hcb := Lib.half_mul_le (a := x % 4294967296) (b := y / 4294967296) (by omega) (by omega)
  have hab := Lib.half_mul_le (a := x / 4294967296) (b := y / 4294967296) (by omega) (by omega)
  have e1 := (Int.natCast_mul (x % 4294967296) (y % 4294967296)).symm
  have e2 := (Int.natCast_mul (x / 4294967296) (y % 4294967296)).symm
  have e3 := (Int.natCast_mul (x % 4294967296) (y / 4294967296)).symm
  have e4 := (Int.natCast_mul (x / 4294967296) (y / 4294967296)).symm
  generalize x / 4294967296 * (y / 4294967296) = ab at *
  generalize x / 4294967296 * (y % 4294967296) = ad at *
  generalize x % 4294967296 * (y / 4294967296) = cb at *
  generalize x % 4294967296 * (y % 4294967296) = cd at *
  generalize ((x / 4294967296 : Nat) : Int) = A at *
  generalize ((y / 4294967296 : Nat) : Int) = B at *
  generalize ((x % 4294967296 : Nat) : Int) = C at *
  generalize ((y % 4294967296 : Nat) : Int) = D at *
  have hH : (((x * y / 18446744073709551616 : Nat)) : Int) = (ab : Int) + ((ad : Int) + (cd : Int) / 4294967296) / 4294967296 + (((ad : Int) + (cd : Int) / 4294967296) % 4294967296 + (cb : Int)) / 4294967296 := by rw [← hhi]; omega
  have eM := mul64_mask ((ad : Int) + (cd : Int) / 4294967296) (by omega) (by omega)
  have bt' : (ad : Int) + (cd : Int) / 4294967296 < 18446744073709551616 := by omega
  have bw' : ((ad : Int) + (cd : Int) / 4294967296) % 4294967296 + (cb : Int) < 18446744073709551616 := by omega
  have bh' : (ab : Int) + ((ad : Int) + (cd : Int) / 4294967296) / 4294967296 + (((ad : Int) + (cd : Int) / 4294967296) % 4294967296 + (cb : Int)) / 4294967296 < 18446744073709551616 := by rw [← hH]; have := Nat.div_lt_of_lt_mul (m := x * y) (n := 18446744073709551616) (k := 18446744073709551616) (Nat.mul_lt_mul'' hx hy); omega
  have HH := Lib.hid hH
  clear hhi bt bw hH
  generalize (((x * y / 18446744073709551616 : Nat)) : Int) = H at *
  generalize (((x * y % 18446744073709551616 : Nat)) : Int) = L at *
  go_enter Try.func55, Try.ntmps55
  go_wp2
  go_ret2
  exact ⟨by rw [HH.out]; rfl, rfl⟩
theorem mul64_any (x y : Int) (hx0 : 0 ≤ x) (hx : x ≤ 18446744073709551615) (hy0 : 0 ≤ y) (hy : y ≤ 18446744073709551615) (w : World) :
    Calls Try.prog 55 #[.int .u64 x, .int .u64 y] w fun e w' => e = .returned (.tuple #[.int .u64 (x * y / 18446744073709551616), .int .u64 (x * y % 18446744073709551616)]) ∧ w' = w := by
  obtain ⟨x, rfl⟩ := Int.eq_ofNat_of_zero_le hx0
  obtain ⟨y, rfl⟩ := Int.eq_ofNat_of_zero_le hy0
  have h := mul64_nat x y (by omega) (by omega) w
  rw [Int.natCast_ediv, Int.natCast_emod, Int.natCast_mul] at h
  exact h
end Go.Proofs.Ytpjhenipeafbiaa
