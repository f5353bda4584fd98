/- What the calls of math/bits that package wide makes answer besides: products of two words, a quotient by ten. -/
import Derived.Test.YtlidicnbmfkghaaGreatDoorGx
import Derived.Lib.Mul64
namespace Go.Proofs.YtlidicnbmfkghaaGreatDoor
open Go.RowKit

/-! a quotient by ten -/
set_option maxRecDepth 100000 in
theorem len64_10  (w : World) :
    Calls Tryz.prog 107 #[.int .u64 10] w fun e w' => e = .returned (.int .i64 4) ∧ w = w' := by
  go_enter Tryz.func107, Tryz.ntmps107
  go_wp2
  go_ret
  exact ⟨by kernel_rfl, rfl⟩
theorem bits_or_shift (hi lo : Int) (h1 : 0 ≤ hi) (h2 : hi < 10) (h3 : 0 ≤ lo) (h4 : lo ≤ 18446744073709551615) :
    bits .or .u64 (hi * 1152921504606846976) (lo / 16) = hi * 1152921504606846976 + lo / 16 := by
  obtain ⟨hi, rfl⟩ := Int.eq_ofNat_of_zero_le h1
  obtain ⟨lo, rfl⟩ := Int.eq_ofNat_of_zero_le h3
  have h := bits_or_disj (hi * 1152921504606846976) (lo / 16) 60 (by omega) (by omega) (by omega)
  simpa using h
theorem and_low (v : Int) (h0 : 0 ≤ v) (h1 : v < 18446744073709551616) (h2 : v % 4294967296 = 0) : bits .and .u64 v 4294967295 = 0 := by
  obtain ⟨v, rfl⟩ := Int.eq_ofNat_of_zero_le h0
  have h := bits_and_u64_nat v 4294967295 (by omega) (by omega)
  have e : v &&& 4294967295 = v % 4294967296 := Nat.and_two_pow_sub_one_eq_mod v 32
  rw [e] at h
  rw [show v % 4294967296 = 0 by omega] at h
  exact h

/-! products -/
theorem mul64_maskN (a : Nat) (ha : a < 18446744073709551616) : bits .and .u64 (a : Int) 4294967295 = ((a % 4294967296 : Nat) : Int) := by
  have h := bits_and_u64_nat a 4294967295 ha (by omega)
  rw [show a &&& 4294967295 = a % 4294967296 from Nat.and_two_pow_sub_one_eq_mod a 32] at h
  exact h
theorem mul64_wrapN (a : Nat) (ha : a < 18446744073709551616) : IntKind.u64.wrap (a : Int) = (a : Int) := IntWalk.u64_in _ (by omega)
theorem mul64_wrapM (a : Nat) : IntKind.u64.wrap (a : Int) = ((a % 18446744073709551616 : Nat) : Int) := by rw [IntKind.wrap_u64]; omega

theorem mul64_mask (t : Int) (h0 : 0 ≤ t) (h1 : t < 18446744073709551616) : bits .and .u64 t 4294967295 = t % 4294967296 := by
  obtain ⟨t, rfl⟩ := Int.eq_ofNat_of_zero_le h0
  rw [show ((t : Nat) : Int) = Int.ofNat t from rfl] at *
  have := mul64_maskN t (by have : (Int.ofNat t) = (t : Int) := rfl; omega)
  rw [show (Int.ofNat t) = (t : Int) from rfl, this]
  omega

set_option maxRecDepth 100000 in
set_option maxHeartbeats 1000000 in
theorem mul64_nat (x y : Nat) (hx : x < 18446744073709551616) (hy : y < 18446744073709551616) (w : World) :
    Calls Tryz.prog 88 #[.int .u64 x, .int .u64 y] w fun e w' => e = .returned (.tuple #[.int .u64 ((x * y / 18446744073709551616 : Nat) : Int), .int .u64 ((x * y % 18446744073709551616 : Nat) : Int)]) ∧ w' = w := by
  obtain ⟨_, bt, bw, hhi⟩ := Lib.mul64_hi x y hx hy
  have mx : bits .and .u64 (x : Int) 4294967295 = ((x % 4294967296 : Nat) : Int) := mul64_maskN x hx
  have my : bits .and .u64 (y : Int) 4294967295 = ((y % 4294967296 : Nat) : Int) := mul64_maskN y hy
  have dx : (x : Int) / 4294967296 = ((x / 4294967296 : Nat) : Int) := by omega
  have dy : (y : Int) / 4294967296 = ((y / 4294967296 : Nat) : Int) := by omega
  have hlo := mul64_wrapM (x * y)
  rw [Int.natCast_mul] at hlo
  have hcd := Lib.half_mul_le (a := x % 4294967296) (b := y % 4294967296) (by omega) (by omega)
  have had := Lib.half_mul_le (a := x / 4294967296) (b := y % 4294967296) (by omega) (by omega)
  have hcb := Lib.half_mul_le (a := x % 4294967296) (b := y / 4294967296) (by omega) (by omega)
  have hab := Lib.half_mul_le (a := x / 4294967296) (b := y / 4294967296) (by omega) (by omega)
  have e1 := (Int.natCast_mul (x % 4294967296) (y % 4294967296)).symm
  have e2 := (Int.natCast_mul (x / 4294967296) (y % 4294967296)).symm
  have e3 := (Int.natCast_mul (x % 4294967296) (y / 4294967296)).symm
  have e4 := (Int.natCast_mul (x / 4294967296) (y / 4294967296)).symm
  generalize x / 4294967296 * (y / 4294967296) = ab at *
  generalize x / 4294967296 * (y % 4294967296) = ad at *
  generalize x % 4294967296 * (y / 4294967296) = cb at *
  generalize x % 4294967296 * (y % 4294967296) = cd at *
  generalize ((x / 4294967296 : Nat) : Int) = A at *
  generalize ((y / 4294967296 : Nat) : Int) = B at *
  generalize ((x % 4294967296 : Nat) : Int) = C at *
  generalize ((y % 4294967296 : Nat) : Int) = D at *
  have hH : (((x * y / 18446744073709551616 : Nat)) : Int) = (ab : Int) + ((ad : Int) + (cd : Int) / 4294967296) / 4294967296 + (((ad : Int) + (cd : Int) / 4294967296) % 4294967296 + (cb : Int)) / 4294967296 := by rw [← hhi]; omega
  have eM := mul64_mask ((ad : Int) + (cd : Int) / 4294967296) (by omega) (by omega)
  have bt' : (ad : Int) + (cd : Int) / 4294967296 < 18446744073709551616 := by omega
  have bw' : ((ad : Int) + (cd : Int) / 4294967296) % 4294967296 + (cb : Int) < 18446744073709551616 := by omega
  have bh' : (ab : Int) + ((ad : Int) + (cd : Int) / 4294967296) / 4294967296 + (((ad : Int) + (cd : Int) / 4294967296) % 4294967296 + (cb : Int)) / 4294967296 < 18446744073709551616 := by rw [← hH]; have := Nat.div_lt_of_lt_mul (m := x * y) (n := 18446744073709551616) (k := 18446744073709551616) (Nat.mul_lt_mul'' hx hy); omega
  have HH := Lib.hid hH
  clear hhi bt bw hH
  generalize (((x * y / 18446744073709551616 : Nat)) : Int) = H at *
  generalize (((x * y % 18446744073709551616 : Nat)) : Int) = L at *
  go_enter Tryz.func88, Tryz.ntmps88
  go_wp2
  go_ret2
  exact ⟨by rw [HH.out]; rfl, rfl⟩
theorem mul64_any (x y : Int) (hx0 : 0 ≤ x) (hx : x ≤ 18446744073709551615) (hy0 : 0 ≤ y) (hy : y ≤ 18446744073709551615) (w : World) :
    Calls Tryz.prog 88 #[.int .u64 x, .int .u64 y] w fun e w' => e = .returned (.tuple #[.int .u64 (x * y / 18446744073709551616), .int .u64 (x * y % 18446744073709551616)]) ∧ w' = w := by
  obtain ⟨x, rfl⟩ := Int.eq_ofNat_of_zero_le hx0
  obtain ⟨y, rfl⟩ := Int.eq_ofNat_of_zero_le hy0
  have h := mul64_nat x y (by omega) (by omega) w
  rw [Int.natCast_ediv, Int.natCast_emod, Int.natCast_mul] at h
  exact h
end Go.Proofs.YtlidicnbmfkghaaGreatDoor
