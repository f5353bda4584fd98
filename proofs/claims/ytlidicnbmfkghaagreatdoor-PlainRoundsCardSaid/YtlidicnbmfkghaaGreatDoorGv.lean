import Derived.Test.YtlidicnbmfkghaaGreatDoorGa
import Derived.Below
import Derived.Lib.BitFns
import Derived.Lib.Strings
import Derived.Lib.Slices
import Derived.Lib.Small
import Derived.Lib.Walk
import Derived.Test.YtlidicnbmfkghaaGreatDoorGx
import Derived.RangeFuncNested
import Derived.RangeFuncBound
import Derived.RangeFuncCalls
import Derived.RangeFuncLeaves
import Derived.Shelf.Abstract
import Derived.Shelf.RegionOpen
import Derived.WalkKit
import Derived.OwnWalkIn
import Derived.TacticsInMore
import Derived.LoopNIn
import Derived.LoopIn
import Derived.Test.YtlidicnbmfkghaaGreatDoorGw
import Derived.Sort.CutIn
/- How many bits a word has (math/bits): a number of bits that is enough. -/
namespace Go.Proofs.YtlidicnbmfkghaaGreatDoor
open Go.RowKit

/-- What a call leaves that answers a number of bits that is enough for x, at most m. -/
def RetLen (w : World) (m : Nat) (x : Int) (e : Ending) (w' : World) : Prop := ∃ n : Nat, e = .returned (.int .i64 n) ∧ n ≤ m ∧ x < 2 ^ n ∧ Below w.heap.size w w'

theorem tab_fin : ∀ n : Fin 256, (0 ≤ Lib.len8 (n.val : Int) ∧ Lib.len8 (n.val : Int) ≤ 8) ∧ n.val < 2 ^ (Lib.len8 (n.val : Int)).toNat := by decide +kernel
theorem tab (b : Int) (h0 : 0 ≤ b) (h1 : b ≤ 255) : ∃ n : Nat, Lib.len8 b = n ∧ n ≤ 8 ∧ b < 2 ^ n := by
  obtain ⟨⟨t1, t2⟩, t3⟩ := tab_fin ⟨b.toNat, by omega⟩
  simp only [Int.toNat_of_nonneg h0] at t1 t2 t3
  refine ⟨(Lib.len8 b).toNat, by omega, by omega, ?_⟩
  have h : b = (b.toNat : Int) := by omega
  rw [h]
  exact_mod_cast t3
theorem up_pow {x : Int} {k n : Nat} (h : x / 2 ^ k < 2 ^ n) : x < 2 ^ (k + n) := by
  have hk : (0 : Int) < 2 ^ k := Int.pow_pos (by decide)
  rw [Int.pow_add, Int.mul_comm]
  exact Int.lt_mul_of_ediv_lt hk h
theorem len_sum (k : Nat) (y : Int) (h0 : 0 ≤ y) (h1 : y < 256) (hk : k ≤ 56) : wrap64 (k + wrap64 (Lib.len8 y)) = k + Lib.len8 y := by
  obtain ⟨n, e, h, _⟩ := tab y h0 (by omega)
  rw [e]; unfold wrap64; omega
theorem len_ret {w : World} {x y : Int} (k : Nat) (_ : 0 ≤ x) (hk : k ≤ 56) (hy0 : 0 ≤ y) (hy : y ≤ 255) (hxy : x / 2 ^ k = y) (v : Int) (hv : v = k + Lib.len8 y) : RetLen w 64 x (.returned (.int .i64 v)) w := by
  obtain ⟨n, e, h1, h2⟩ := tab y hy0 hy
  refine ⟨k + n, by rw [hv, e]; rfl, by omega, up_pow (by rw [hxy]; exact h2), Below.refl _ _⟩

theorem run_tab (P : Program) (w : World) (t : TypeId) (k : IntKind) (i : Int) (h : P.underlying t = some .string) (h0 : 0 ≤ i) (h1 : i < 256) :
    (Instr.index t (.string Lib.len8tab) (.int k i)).run P w = .ok (.int .u8 (Lib.len8 i)) w := Lib.run_index_len8tab w t k i h h0 (by omega)
attribute [local go_sem high] run_tab
set_option maxHeartbeats 4000000 in
set_option maxRecDepth 100000 in
theorem len64_any (x : Int) (w : World) (h0 : 0 ≤ x) (h1 : x ≤ 18446744073709551615) : Calls Tryz.prog 107 #[.int .u64 x] w (RetLen w 64 x) := by
  by_cases p : 4294967296 ≤ x
  · by_cases q : 65536 ≤ x / 4294967296
    · by_cases r : 256 ≤ x / 4294967296 / 65536
      · have c0 : 0 ≤ x / 4294967296 / 65536 / 256 := by omega
        have c1 : x / 4294967296 / 65536 / 256 < 256 := by omega
        go_enter Tryz.func107, Tryz.ntmps107
        go_wp2
        go_ret
        exact len_ret 56 h0 (by omega) (by omega) (by omega) (by omega) _ (len_sum 56 _ c0 c1 (by omega))
      · have c0 : 0 ≤ x / 4294967296 / 65536 := by omega
        have c1 : x / 4294967296 / 65536 < 256 := by omega
        go_enter Tryz.func107, Tryz.ntmps107
        go_wp2
        go_ret
        exact len_ret 48 h0 (by omega) (by omega) (by omega) (by omega) _ (len_sum 48 _ c0 c1 (by omega))
    · by_cases r : 256 ≤ x / 4294967296
      · have c0 : 0 ≤ x / 4294967296 / 256 := by omega
        have c1 : x / 4294967296 / 256 < 256 := by omega
        go_enter Tryz.func107, Tryz.ntmps107
        go_wp2
        go_ret
        exact len_ret 40 h0 (by omega) (by omega) (by omega) (by omega) _ (len_sum 40 _ c0 c1 (by omega))
      · have c0 : 0 ≤ x / 4294967296 := by omega
        have c1 : x / 4294967296 < 256 := by omega
        go_enter Tryz.func107, Tryz.ntmps107
        go_wp2
        go_ret
        exact len_ret 32 h0 (by omega) (by omega) (by omega) (by omega) _ (len_sum 32 _ c0 c1 (by omega))
  · by_cases q : 65536 ≤ x
    · by_cases r : 256 ≤ x / 65536
      · have c0 : 0 ≤ x / 65536 / 256 := by omega
        have c1 : x / 65536 / 256 < 256 := by omega
        go_enter Tryz.func107, Tryz.ntmps107
        go_wp2
        go_ret
        exact len_ret 24 h0 (by omega) (by omega) (by omega) (by omega) _ (len_sum 24 _ c0 c1 (by omega))
      · have c0 : 0 ≤ x / 65536 := by omega
        have c1 : x / 65536 < 256 := by omega
        go_enter Tryz.func107, Tryz.ntmps107
        go_wp2
        go_ret
        exact len_ret 16 h0 (by omega) (by omega) (by omega) (by omega) _ (len_sum 16 _ c0 c1 (by omega))
    · by_cases r : 256 ≤ x
      · have c0 : 0 ≤ x / 256 := by omega
        have c1 : x / 256 < 256 := by omega
        go_enter Tryz.func107, Tryz.ntmps107
        go_wp2
        go_ret
        exact len_ret 8 h0 (by omega) (by omega) (by omega) (by omega) _ (len_sum 8 _ c0 c1 (by omega))
      · have c0 : 0 ≤ x := by omega
        have c1 : x < 256 := by omega
        go_enter Tryz.func107, Tryz.ntmps107
        go_wp2
        go_ret
        exact len_ret 0 h0 (by omega) (by omega) (by omega) (by omega) _ (by have e := len_sum 0 x c0 c1 (by omega); rwa [show ((0 : Nat) : Int) + wrap64 (Lib.len8 x) = wrap64 (Lib.len8 x) from by omega] at e)
end Go.Proofs.YtlidicnbmfkghaaGreatDoor

/- Package divide's calls on sizes (numbers without a sign, in two halves): bits, doubling, comparing, taking away. -/
namespace Go.Proofs.YtlidicnbmfkghaaGreatDoor
open Go.RowKit

/-- a size -/
def InS (s : Int) : Prop := 0 ≤ s ∧ s < 340282366920938463463374607431768211456
/-- What a call that answers a size leaves. -/
def RetSz (w : World) (s : Int) (e : Ending) (w' : World) : Prop := e = .returned (.agg #[.int .u64 (hiW s), .int .u64 (loW s)]) ∧ Below w.heap.size w w'
theorem halfs {s : Int} (h : InS s) : 0 ≤ hiW s ∧ hiW s ≤ 18446744073709551615 ∧ 0 ≤ loW s ∧ loW s ≤ 18446744073709551615 ∧ s = hiW s * 18446744073709551616 + loW s := by
  unfold InS at h
  unfold hiW loW
  omega
theorem of_halfs {hi lo s : Int} (h : s = hi * 18446744073709551616 + lo) (h2 : 0 ≤ lo) (h3 : lo ≤ 18446744073709551615) : hiW s = hi ∧ loW s = lo := by
  unfold hiW loW
  omega

theorem RetLen.below {w w0 : World} {m : Nat} {x : Int} {e : Ending} {w' : World} (h : RetLen w m x e w') (hb : Below w0.heap.size w0 w) : RetLen w0 m x e w' := by
  obtain ⟨n, h1, h2, h3, h4⟩ := h
  exact ⟨n, h1, h2, h3, below_thru hb h4⟩
theorem len_hi {h l : Int} {n : Nat} (h1 : h < 2 ^ n) (hl : l ≤ 18446744073709551615) : h * 18446744073709551616 + l < 2 ^ (64 + n) := by
  rw [Int.pow_add]
  generalize (2 : Int) ^ n = p at *
  rw [show (2 : Int) ^ 64 = 18446744073709551616 from by decide]
  omega

set_option maxRecDepth 100000 in
theorem length_any (s : Int) (hs : InS s) (w : World) : Calls Tryz.prog 104 #[.agg #[.int .u64 (hiW s), .int .u64 (loW s)]] w (RetLen w 128 s) := by
  obtain ⟨h0, h1, l0, l1, es⟩ := halfs hs
  have ES := Lib.hid es
  clear es hs
  have HB := below_box w (.cells #[.int .u64 (hiW s), .int .u64 (loW s)] 118)
  generalize hiW s = h at *
  generalize loW s = l at *
  by_cases hz : h = 0
  · subst hz
    go_enter Tryz.func104, Tryz.ntmps104
    go_wp2_with (go_at_call 107; (with_reducible refine (len64_any _ _ l0 l1).mono ?_); rintro e w' ⟨n, rfl, hn, hx, hb⟩)
    go_ret
    exact ⟨n, rfl, by omega, by rw [ES.out]; omega, below_thru HB hb⟩
  · have hz' : (h == 0) = false := by rw [beq_eq_false_iff_ne]; exact hz
    go_enter Tryz.func104, Tryz.ntmps104
    go_wp2_with (go_at_call 107; (with_reducible refine (len64_any _ _ h0 h1).mono ?_); rintro e w' ⟨n, rfl, hn, hx, hb⟩)
    go_ret
    exact ⟨64 + n, rfl, by omega, by rw [ES.out]; exact len_hi hx l1, below_thru HB hb⟩

theorem and_one (y : Int) (h0 : 0 ≤ y) (h1 : y ≤ 18446744073709551615) : bits .and .u64 y 1 = y % 2 := by
  obtain ⟨y, rfl⟩ := Int.eq_ofNat_of_zero_le h0
  have := bits_and_u64_nat y 1 (by omega) (by omega)
  rw [Nat.and_one_is_mod] at this
  exact_mod_cast this
theorem bit_lo (s : Int) (n : Nat) (hn : n < 64) : loW s / 2 ^ n % 2 = s / 2 ^ n % 2 := by
  have hp : (0 : Int) < 2 ^ n := Int.pow_pos (by decide)
  have e : s = loW s + 2 ^ n * (2 * (2 ^ (63 - n) * hiW s)) := by
    rw [show (2 : Int) ^ n * (2 * (2 ^ (63 - n) * hiW s)) = (2 ^ n * 2 ^ (63 - n)) * (2 * hiW s) by rw [Int.mul_assoc, ← Int.mul_assoc 2 (2 ^ (63 - n)) (hiW s), Int.mul_comm 2 (2 ^ (63 - n)), Int.mul_assoc], ← Int.pow_add, show n + (63 - n) = 63 by omega, show (2 : Int) ^ 63 = 9223372036854775808 by decide]
    unfold loW hiW; omega
  generalize hl : loW s = l at *
  generalize 2 ^ (63 - n) * hiW s = k at *
  rw [e, Int.add_mul_ediv_left _ _ (by omega)]
  omega
theorem bit_hi (s : Int) (n : Nat) (hn : 64 ≤ n) : hiW s / 2 ^ (n - 64) % 2 = s / 2 ^ n % 2 := by
  unfold hiW
  rw [Int.ediv_ediv_of_nonneg (by decide), show (18446744073709551616 : Int) = 2 ^ 64 by decide, ← Int.pow_add, show 64 + (n - 64) = n by omega]
theorem div_le (y p : Int) (h0 : 0 ≤ y) (h1 : y ≤ 18446744073709551615) (hp : 0 < p) : 0 ≤ y / p ∧ y / p ≤ 18446744073709551615 :=
  ⟨Int.ediv_nonneg h0 (by omega), Int.le_trans (Int.ediv_le_self _ h0) h1⟩

set_option maxRecDepth 100000 in
theorem bitAt_any (s : Int) (n : Nat) (hs : InS s) (hn : n < 128) (w : World) : Calls Tryz.prog 105 #[.agg #[.int .u64 (hiW s), .int .u64 (loW s)], .int .i64 n] w (RetV w (.int .u64 (s / 2 ^ n % 2))) := by
  obtain ⟨h0, h1, l0, l1, _⟩ := halfs hs
  have HB := below_box w (.cells #[.int .u64 (hiW s), .int .u64 (loW s)] 118)
  by_cases h : 64 ≤ n
  · have E := Lib.hid (bit_hi s n h)
    have b := div_le (hiW s) (2 ^ (n - 64)) h0 h1 (Int.pow_pos (by decide))
    have F := Lib.hid (and_one _ b.1 b.2)
    have h' : (64 : Int) ≤ n := by omega
    clear hs b
    generalize hiW s = x at *
    generalize loW s = y at *
    go_enter Tryz.func105, Tryz.ntmps105
    go_wp2
    go_ret
    exact ⟨by rw [← E.out, ← F.out]; rfl, HB⟩
  · have E := Lib.hid (bit_lo s n (by omega))
    have b := div_le (loW s) (2 ^ n) l0 l1 (Int.pow_pos (by decide))
    have F := Lib.hid (and_one _ b.1 b.2)
    have h' : (n : Int) < 64 := by omega
    clear hs b
    generalize hiW s = x at *
    generalize loW s = y at *
    go_enter Tryz.func105, Tryz.ntmps105
    go_wp2
    go_ret
    exact ⟨by rw [← E.out, ← F.out]; rfl, HB⟩

theorem or_bit (a b : Int) (h0 : 0 ≤ a) (h1 : a % 2 = 0) (h2 : a ≤ 18446744073709551614) (b0 : 0 ≤ b) (b1 : b ≤ 1) : bits .or .u64 a b = a + b := by
  obtain ⟨a, rfl⟩ := Int.eq_ofNat_of_zero_le h0
  obtain ⟨b, rfl⟩ := Int.eq_ofNat_of_zero_le b0
  have := bits_or_disj a b 1 (by omega) (by omega) (by omega)
  rw [this]; rfl
set_option maxRecDepth 100000 in
theorem twice_any (s b : Int) (hs : InS s) (hs2 : InS (2 * s + b)) (b0 : 0 ≤ b) (b1 : b ≤ 1) (w : World) : Calls Tryz.prog 99 #[.agg #[.int .u64 (hiW s), .int .u64 (loW s)], .int .u64 b] w (RetSz w (2 * s + b)) := by
  obtain ⟨h0, h1, l0, l1, es⟩ := halfs hs
  unfold InS at hs2
  obtain ⟨e1, e2⟩ : hiW (2 * s + b) = 2 * hiW s + loW s / 9223372036854775808 ∧ loW (2 * s + b) = (loW s * 2) % 18446744073709551616 + b := of_halfs (by omega) (by omega) (by omega)
  have w1 : IntKind.u64.wrap (hiW s * 2) = hiW s * 2 := by rw [IntKind.wrap_u64]; omega
  have w2 : IntKind.u64.wrap (loW s * 2) = loW s * 2 % 18446744073709551616 := IntKind.wrap_u64 _
  have F1 := Lib.hid (show bits .or .u64 (IntKind.u64.wrap (hiW s * 2)) (loW s / 9223372036854775808) = hiW (2 * s + b) by rw [w1, or_bit _ _ (by omega) (by omega) (by omega) (by omega) (by omega)]; omega)
  have F2 := Lib.hid (show bits .or .u64 (IntKind.u64.wrap (loW s * 2)) b = loW (2 * s + b) by rw [w2, or_bit _ _ (by omega) (by omega) (by omega) (by omega) (by omega)]; omega)
  clear w1 w2 es hs2 hs e1 e2
  have HB := fun u v => below_thru (below_box w (.cells #[.int .u64 (hiW s), .int .u64 (loW s)] 118)) (below_box _ (.cells #[.int .u64 u, .int .u64 v] 118))
  generalize gH : hiW (2 * s + b) = H at *
  generalize gL : loW (2 * s + b) = L at *
  have GH := Lib.hid gH
  have GL := Lib.hid gL
  clear gH gL
  generalize hiW s = x at *
  generalize loW s = y at *
  have HB2 := Lib.hid HB
  clear HB
  go_enter Tryz.func99, Tryz.ntmps99
  go_wp2
  exact bodyPost_ret (v := .agg #[.int .u64 (bits .or .u64 (IntKind.u64.wrap (x * 2)) (y / 9223372036854775808)), .int .u64 (bits .or .u64 (IntKind.u64.wrap (y * 2)) b)]) (by simp [results, Tryz.results99, go_sem]) rfl ⟨by rw [F1.out, F2.out, GH.out, GL.out], HB2.out _ _⟩

theorem ord_less (a b : Int) (h : ord a b < 0 ↔ a < b) : decide (ord a b < 0) = decide (a < b) := by simp [h]
theorem ord_iff (a b : Int) : ord a b < 0 ↔ a < b := by
  rcases Int.lt_trichotomy a b with h | h | h
  · rw [ord_lt h]; constructor <;> intro <;> omega
  · rw [ord_eq h]; constructor <;> intro <;> omega
  · rw [ord_gt h]; constructor <;> intro <;> omega
set_option maxRecDepth 100000 in
theorem less_any (a b : Int) (ha : InS a) (hb : InS b) (w : World) : Calls Tryz.prog 100 #[.agg #[.int .u64 (hiW a), .int .u64 (loW a)], .agg #[.int .u64 (hiW b), .int .u64 (loW b)]] w (RetV w (.bool (decide (a < b)))) := by
  have HB := below_thru (below_box w (.cells #[.int .u64 (hiW a), .int .u64 (loW a)] 118)) (below_box _ (.cells #[.int .u64 (hiW b), .int .u64 (loW b)] 118))
  obtain ⟨h0, h1, l0, l1, es⟩ := halfs ha
  obtain ⟨k0, k1, m0, m1, fs⟩ := halfs hb
  by_cases h : hiW a = hiW b
  · have E := Lib.hid (show decide (a < b) = decide (loW a < loW b) by congr 1; apply propext; constructor <;> intro <;> omega)
    have O := Lib.hid (ord_eq h)
    clear es fs h
    generalize hiW a = x at *
    generalize hiW b = y at *
    generalize loW a = u at *
    generalize loW b = v at *
    go_enter Tryz.func100, Tryz.ntmps100
    go_wp2_with (go_at_call 90; refine (compare_u64 _ _ _).mono ?_; rintro e w' ⟨rfl, rfl⟩; rw [O.out])
    go_ret
    exact ⟨by rw [E.out]; rfl, HB⟩
  · have E := Lib.hid (show decide (a < b) = decide (ord (hiW a) (hiW b) < 0) by rw [ord_less _ _ (ord_iff _ _)]; congr 1; apply propext; constructor <;> intro <;> omega)
    have n0 : ¬ ord (hiW a) (hiW b) = 0 := by rcases Int.lt_trichotomy (hiW a) (hiW b) with h | h' | h; rw [ord_lt h]; decide; exact absurd h' h; rw [ord_gt h]; decide
    have n1 : (ord (hiW a) (hiW b) == 0) = false := by rw [beq_eq_false_iff_ne]; exact n0
    clear es fs h
    go_enter Tryz.func100, Tryz.ntmps100
    go_wp2_with (go_at_call 90; refine (compare_u64 _ _ _).mono ?_; rintro e w' ⟨rfl, rfl⟩)
    go_ret
    exact ⟨by rw [E.out]; rfl, HB⟩

set_option maxRecDepth 100000 in
theorem without_any (a b : Int) (ha : InS a) (hb : InS b) (hab : b ≤ a) (w : World) : Calls Tryz.prog 101 #[.agg #[.int .u64 (hiW a), .int .u64 (loW a)], .agg #[.int .u64 (hiW b), .int .u64 (loW b)]] w (RetSz w (a - b)) := by
  have HB := fun u v => below_thru (below_thru (below_box w (.cells #[.int .u64 (hiW a), .int .u64 (loW a)] 118)) (below_box _ (.cells #[.int .u64 (hiW b), .int .u64 (loW b)] 118))) (below_box _ (.cells #[.int .u64 u, .int .u64 v] 118))
  have HB2 := Lib.hid HB
  clear HB
  obtain ⟨h0, h1, l0, l1, es⟩ := halfs ha
  obtain ⟨k0, k1, m0, m1, fs⟩ := halfs hb
  obtain ⟨c, hc, c0, c1, c2⟩ : ∃ c : Int, c = bor (loW a) (loW b) ∧ 0 ≤ c ∧ c ≤ 1 ∧ (c = if loW a < loW b then 1 else 0) := ⟨_, rfl, by unfold bor; split <;> omega, by unfold bor; split <;> omega, rfl⟩
  have A1 : ∀ W, (callFunc 106 #[.int .u64 (loW a), .int .u64 (loW b), .int .u64 0]).run Tryz.prog W = .ok (.value (.tuple #[.int .u64 (loW (a - b)), .int .u64 c])) W := fun W => by
    rw [sub64_0 _ _ l0 m0 (by omega), ← hc]
    have : loW (a - b) = (loW a - loW b) % 18446744073709551616 := by unfold loW; omega
    rw [this]
  have A2 : ∀ W, (callFunc 106 #[.int .u64 (hiW a), .int .u64 (hiW b), .int .u64 c]).run Tryz.prog W = .ok (.value (.tuple #[.int .u64 (hiW (a - b)), .int .u64 (bor (hiW a) (hiW b + c))])) W := fun W => by
    rw [sub64 _ _ _ h0 k0 (by omega) c0 c1]
    have : hiW (a - b) = (hiW a - hiW b - c) % 18446744073709551616 := by
      have e : hiW (a - b) = hiW a - hiW b - c := (of_halfs (lo := loW a - loW b + c * 18446744073709551616) (by omega) (by split at c2 <;> omega) (by split at c2 <;> omega)).1
      have : 0 ≤ hiW (a - b) ∧ hiW (a - b) ≤ 18446744073709551615 := ⟨(halfs (s := a - b) ⟨by omega, by have := ha.2; have := hb.1; omega⟩).1, (halfs (s := a - b) ⟨by omega, by have := ha.2; have := hb.1; omega⟩).2.1⟩
      omega
    rw [this]
  clear es fs hc c2 ha hb hab
  generalize bor (hiW a) (hiW b + c) = d at *
  generalize gH : hiW (a - b) = H at *
  generalize gL : loW (a - b) = L at *
  have GH := Lib.hid gH
  have GL := Lib.hid gL
  clear gH gL
  generalize hiW a = x at *
  generalize hiW b = y at *
  generalize loW a = u at *
  generalize loW b = v at *
  go_enter Tryz.func101, Tryz.ntmps101
  go_wp2_with (first | simp only [A1] | simp only [A2])
  exact bodyPost_ret (v := .agg #[.int .u64 H, .int .u64 L]) (by simp [results, Tryz.results101, go_sem]) rfl ⟨by rw [GH.out, GL.out], HB2.out _ _⟩
end Go.Proofs.YtlidicnbmfkghaaGreatDoor

/- Package divide's calls below, sizeOf and signed: numbers without their sign, and with one. -/
namespace Go.Proofs.YtlidicnbmfkghaaGreatDoor
open Go.RowKit

set_option maxRecDepth 100000 in
theorem below_w (a : Int) (w : World) : Calls Tryz.prog 94 #[.agg #[.int .i64 (hiW a), .int .u64 (loW a)]] w (RetV w (.bool (decide (a < 0)))) := by
  have HB := below_box w (.cells #[.int .i64 (hiW a), .int .u64 (loW a)] 45)
  have E := Lib.hid (show decide (a < 0) = decide (ord a 0 < 0) by simp only [ord_iff])
  have S := Lib.hid (fun W => wideSign a W)
  generalize ord a 0 = o at *
  generalize hx : hiW a = x at *
  generalize hy : loW a = y at *
  have HX := Lib.hid hx
  have HY := Lib.hid hy
  clear hx hy
  go_enter Tryz.func94, Tryz.ntmps94
  go_wp2_with (go_at_call 36; (with_reducible refine (S.out _).mono ?_); rintro e w' ⟨rfl, hb⟩)
  go_ret
  exact ⟨by rw [E.out]; rfl, below_thru HB hb⟩
theorem below_is (a : Int) (p : Bool) (h : decide (a < 0) = p) (w : World) : Calls Tryz.prog 94 #[.agg #[.int .i64 (hiW a), .int .u64 (loW a)]] w (RetV w (.bool p)) := by
  rw [← h]; exact below_w a w

theorem absw_pos {a : Int} (h : InW a) (h0 : 0 ≤ a) : IntKind.u64.wrap (hiW a) = hiW (a.natAbs : Int) ∧ loW a = loW (a.natAbs : Int) := by
  rw [show (a.natAbs : Int) = a by omega, IntKind.wrap_u64]
  unfold InW two127 at h; unfold hiW; omega
theorem absw_neg {a : Int} (h : InW a) (h0 : a < 0) (h1 : InW (-a)) : IntKind.u64.wrap (hiW (-a)) = hiW (a.natAbs : Int) ∧ loW (-a) = loW (a.natAbs : Int) := by
  rw [show (a.natAbs : Int) = -a by omega, IntKind.wrap_u64]
  unfold InW two127 at h h1; unfold hiW; omega
theorem abs_least {a : Int} (h : InW a) (h0 : a < 0) (h1 : ¬ InW (-a)) : IntKind.u64.wrap (hiW a) = hiW (a.natAbs : Int) ∧ loW a = loW (a.natAbs : Int) := by
  rw [IntKind.wrap_u64]
  have : a = -170141183460469231731687303715884105728 := by unfold InW two127 at h h1; omega
  subst this
  decide
theorem told_in {z : Int} (h : InW z) : hv z = hiW z ∧ lv z = loW z ∧ ev z = 0 := by unfold hv lv ev; rw [if_pos h, if_pos h, if_pos h]; exact ⟨rfl, rfl, rfl⟩
theorem told_no {z : Int} (h : ¬ InW z) : hv z = 0 ∧ lv z = 0 ∧ ev z = 2 := by unfold hv lv ev; rw [if_neg h, if_neg h, if_neg h]; exact ⟨rfl, rfl, rfl⟩

set_option maxRecDepth 100000 in
set_option maxHeartbeats 1000000 in
theorem sizeOf_any (a : Int) (ha : InW a) (w : World) : Calls Tryz.prog 92 #[.agg #[.int .i64 (hiW a), .int .u64 (loW a)]] w (RetSz w (a.natAbs : Int)) := by
  have B := Lib.hid (fun p h W => below_is a p h W)
  have N := Lib.hid (fun W => wideNeg a ha W)
  by_cases h0 : 0 ≤ a
  · have E := Lib.hid (absw_pos ha h0)
    have BF := Lib.hid (fun W => B.out false (by rw [decide_eq_false_iff_not]; omega) W)
    clear B h0 ha N
    generalize hx : hiW a = x at *
    generalize hy : loW a = y at *
    have HX := Lib.hid hx
    have HY := Lib.hid hy
    clear hx hy
    go_enter Tryz.func92, Tryz.ntmps92
    go_wp2_with fail
    have A := (Pair.new w (.int .i64 x) (.int .u64 y) 45).below (below_box _ (.cells #[.int .u64 0, .int .u64 0] 118))
    have R := Pair.new (w.alloc (.cells #[.int .i64 x, .int .u64 y] 45)) (.int .u64 0) (.int .u64 0) 118
    have HB := below_thru (below_box w (.cells #[.int .i64 x, .int .u64 y] 45)) (below_box _ (.cells #[.int .u64 0, .int .u64 0] 118))
    simp only [World.size_alloc] at R
    generalize (w.alloc (.cells #[.int .i64 x, .int .u64 y] 45)).alloc (.cells #[.int .u64 0, .int .u64 0] 118) = w0 at *
    refine (BF.out w0).mono ?_
    rintro e w1 ⟨rfl, k⟩
    replace A := A.below k
    replace R := R.below k
    replace HB := below_thru HB k
    clear k
    obtain ⟨_, a0, a1, _, _⟩ := id A
    obtain ⟨_, r0, r1, r2, r3⟩ := id R
    go_wp2
    have R2 := R.self2 (.int .u64 (IntKind.u64.wrap x)) (.int .u64 y)
    exact bodyPost_ret (v := .agg #[.int .u64 (IntKind.u64.wrap x), .int .u64 y]) (by simp [results, Tryz.results92, go_sem, R2.c0, R2.c1]) rfl ⟨by rw [E.out.1, E.out.2], (HB.setCell (p := ⟨w.heap.size + 1, 0, none⟩) (by show _ ≤ w.heap.size + 1; omega) _).setCell (p := ⟨w.heap.size + 1, 1, none⟩) (by show _ ≤ w.heap.size + 1; omega) _⟩
  · have h0' : a < 0 := by omega
    have BT := Lib.hid (fun W => B.out true (decide_eq_true h0') W)
    clear B h0
    by_cases h1 : InW (-a)
    · have E := Lib.hid (absw_neg ha h0' h1)
      have T := Lib.hid (told_in h1)
      clear h1 h0' ha
      generalize hiW (-a) = u at *
      generalize loW (-a) = v at *
      generalize hx : hiW a = x at *
      generalize hy : loW a = y at *
      have HX := Lib.hid hx
      have HY := Lib.hid hy
      clear hx hy
      go_enter Tryz.func92, Tryz.ntmps92
      go_wp2_with fail
      have A := (Pair.new w (.int .i64 x) (.int .u64 y) 45).below (below_box _ (.cells #[.int .u64 0, .int .u64 0] 118))
      have R := Pair.new (w.alloc (.cells #[.int .i64 x, .int .u64 y] 45)) (.int .u64 0) (.int .u64 0) 118
      have HB := below_thru (below_box w (.cells #[.int .i64 x, .int .u64 y] 45)) (below_box _ (.cells #[.int .u64 0, .int .u64 0] 118))
      simp only [World.size_alloc] at R
      generalize (w.alloc (.cells #[.int .i64 x, .int .u64 y] 45)).alloc (.cells #[.int .u64 0, .int .u64 0] 118) = w0 at *
      refine (BT.out w0).mono ?_
      rintro e w1 ⟨rfl, k⟩
      replace A := A.below k
      replace R := R.below k
      replace HB := below_thru HB k
      clear k
      obtain ⟨_, a0, a1, _, _⟩ := id A
      go_wp2_with fail
      refine (N.out w1).mono ?_
      rintro e w2 ⟨rfl, k⟩
      rw [T.out.1, T.out.2.1, T.out.2.2]
      replace A := A.below k
      replace R := R.below k
      replace HB := below_thru HB k
      clear k a0 a1
      have hlt := R.lt
      obtain ⟨_, a0, a1, f0, f1⟩ := id (A.below (below_box _ (.cells #[.int .i64 u, .int .u64 v] 45)))
      obtain ⟨_, r0, r1, r2, r3⟩ := id (R.below (below_box _ (.cells #[.int .i64 u, .int .u64 v] 45)))
      have i1 : w.heap.size + 1 ≠ w.heap.size := by omega
      have R2 := (((R.below (below_box _ (.cells #[.int .i64 u, .int .u64 v] 45))).far2 (Ne.symm i1) (.int .i64 u) (.int .u64 v))).self2 (.int .u64 (IntKind.u64.wrap u)) (.int .u64 v)
      replace HB := below_thru HB (below_box _ (.cells #[.int .i64 u, .int .u64 v] 45))
      go_wp2
      exact bodyPost_ret (v := .agg #[.int .u64 (IntKind.u64.wrap u), .int .u64 v]) (by simp [results, Tryz.results92, go_sem, R2.c0, R2.c1]) rfl ⟨by rw [E.out.1, E.out.2], (((HB.setCell (p := ⟨w.heap.size, 0, none⟩) (Nat.le_refl _) _).setCell (p := ⟨w.heap.size, 1, none⟩) (Nat.le_refl _) _).setCell (p := ⟨w.heap.size + 1, 0, none⟩) (by show _ ≤ w.heap.size + 1; omega) _).setCell (p := ⟨w.heap.size + 1, 1, none⟩) (by show _ ≤ w.heap.size + 1; omega) _⟩
    · have E := Lib.hid (abs_least ha h0' h1)
      have T := Lib.hid (told_no h1)
      clear h1 h0' ha
      generalize hx : hiW a = x at *
      generalize hy : loW a = y at *
      have HX := Lib.hid hx
      have HY := Lib.hid hy
      clear hx hy
      go_enter Tryz.func92, Tryz.ntmps92
      go_wp2_with fail
      have A := (Pair.new w (.int .i64 x) (.int .u64 y) 45).below (below_box _ (.cells #[.int .u64 0, .int .u64 0] 118))
      have R := Pair.new (w.alloc (.cells #[.int .i64 x, .int .u64 y] 45)) (.int .u64 0) (.int .u64 0) 118
      have HB := below_thru (below_box w (.cells #[.int .i64 x, .int .u64 y] 45)) (below_box _ (.cells #[.int .u64 0, .int .u64 0] 118))
      simp only [World.size_alloc] at R
      generalize (w.alloc (.cells #[.int .i64 x, .int .u64 y] 45)).alloc (.cells #[.int .u64 0, .int .u64 0] 118) = w0 at *
      refine (BT.out w0).mono ?_
      rintro e w1 ⟨rfl, k⟩
      replace A := A.below k
      replace R := R.below k
      replace HB := below_thru HB k
      clear k
      obtain ⟨_, a0, a1, _, _⟩ := id A
      go_wp2_with fail
      refine (N.out w1).mono ?_
      rintro e w2 ⟨rfl, k⟩
      rw [T.out.1, T.out.2.1, T.out.2.2]
      replace A := A.below k
      replace R := R.below k
      replace HB := below_thru HB k
      clear k a0 a1
      obtain ⟨_, a0, a1, f0, f1⟩ := id (A.below (below_box _ (.cells #[.int .i64 0, .int .u64 0] 45)))
      obtain ⟨_, r0, r1, r2, r3⟩ := id (R.below (below_box _ (.cells #[.int .i64 0, .int .u64 0] 45)))
      have R2 := ((R.below (below_box _ (.cells #[.int .i64 0, .int .u64 0] 45)))).self2 (.int .u64 (IntKind.u64.wrap x)) (.int .u64 y)
      replace HB := below_thru HB (below_box _ (.cells #[.int .i64 0, .int .u64 0] 45))
      go_wp2
      exact bodyPost_ret (v := .agg #[.int .u64 (IntKind.u64.wrap x), .int .u64 y]) (by simp [results, Tryz.results92, go_sem, R2.c0, R2.c1]) rfl ⟨by rw [E.out.1, E.out.2], (HB.setCell (p := ⟨w.heap.size + 1, 0, none⟩) (by show _ ≤ w.heap.size + 1; omega) _).setCell (p := ⟨w.heap.size + 1, 1, none⟩) (by show _ ≤ w.heap.size + 1; omega) _⟩

/-- the number of that size, below 0 or not -/
def sg (m : Bool) (s : Int) : Int := if m then -s else s
theorem sg_nat (a : Int) : sg (decide (a < 0)) (a.natAbs : Int) = a := by
  unfold sg
  by_cases h : a < 0
  · rw [decide_eq_true h, if_pos rfl]; omega
  · rw [decide_eq_false h, if_neg (by decide)]; omega

/-- what signed makes of a size below 2^127, and of 2^127 -/
theorem in_small {s : Int} (h0 : 0 ≤ s) (h1 : s < 170141183460469231731687303715884105728) : InW s ∧ InW (-s) := by unfold InW two127; omega
theorem hi_small {s : Int} (h0 : 0 ≤ s) (h1 : s < 170141183460469231731687303715884105728) : wrap64 (hiW s) = hiW s := by unfold wrap64 hiW; omega

set_option maxRecDepth 100000 in
set_option maxHeartbeats 1000000 in
theorem signed_minus (s : Int) (h0 : 0 ≤ s) (h1 : s < 170141183460469231731687303715884105728) (w : World) : Calls Tryz.prog 93 #[.agg #[.int .u64 (hiW s), .int .u64 (loW s)], .bool true] w (RetWE w (-s)) := by
  obtain ⟨i1, i2⟩ := in_small h0 h1
  have hw := Lib.hid (hi_small h0 h1)
  have BF := Lib.hid (fun W => below_is s false (by rw [decide_eq_false_iff_not]; omega) W)
  have N := Lib.hid (fun W => wideNeg s i1 W)
  have T := Lib.hid (told_in i1)
  obtain ⟨q0, q1, l0, l1, es⟩ := halfs (s := s) (by unfold InS; omega)
  clear es
  clear i1 i2 h0 h1
  generalize hx : hiW s = x at *
  generalize hy : loW s = y at *
  have HX := Lib.hid hx
  have HY := Lib.hid hy
  clear hx hy
  go_enter Tryz.func93, Tryz.ntmps93
  go_wp2_with fail
  rw [hw.out]
  have R := (Pair.new (w.alloc (.cells #[.int .u64 x, .int .u64 y] 118)) (.int .i64 0) (.int .u64 0) 45).below (below_box _ (.cells #[.int .i64 x, .int .u64 y] 45))
  have A := Pair.new ((w.alloc (.cells #[.int .u64 x, .int .u64 y] 118)).alloc (.cells #[.int .i64 0, .int .u64 0] 45)) (.int .i64 x) (.int .u64 y) 45
  have HB := below_thru (below_thru (below_box w (.cells #[.int .u64 x, .int .u64 y] 118)) (below_box _ (.cells #[.int .i64 0, .int .u64 0] 45))) (below_box _ (.cells #[.int .i64 x, .int .u64 y] 45))
  simp only [World.size_alloc] at R A
  generalize ((w.alloc (.cells #[.int .u64 x, .int .u64 y] 118)).alloc (.cells #[.int .i64 0, .int .u64 0] 45)).alloc (.cells #[.int .i64 x, .int .u64 y] 45) = w0 at *
  refine (BF.out w0).mono ?_
  rintro e w1 ⟨rfl, k⟩
  replace A := A.below k
  replace R := R.below k
  replace HB := below_thru HB k
  clear k
  obtain ⟨_, a0, a1, _, _⟩ := id A
  go_wp2_with fail
  refine (N.out w1).mono ?_
  rintro e w2 ⟨rfl, k⟩
  generalize gu : hv (-s) = u at *
  generalize gv : lv (-s) = v at *
  generalize gd : ev (-s) = d at *
  have GG := Lib.hid (And.intro gu (And.intro gv gd))
  clear gu gv gd
  replace A := A.below k
  replace R := R.below k
  replace HB := below_thru HB k
  clear k a0 a1
  obtain ⟨_, r0, r1, r2, r3⟩ := id R
  go_wp2
  have R2 := R.self2 (.int .i64 u) (.int .u64 v)
  exact bodyPost_ret (v := .tuple #[.agg #[.int .i64 u, .int .u64 v], .int .i64 d]) (by simp [results, Tryz.results93, go_sem, R2.c0, R2.c1]) rfl ⟨by rw [GG.out.1, GG.out.2.1, GG.out.2.2], (HB.setCell (p := ⟨w.heap.size + 1, 0, none⟩) (by show _ ≤ w.heap.size + 1; omega) _).setCell (p := ⟨w.heap.size + 1, 1, none⟩) (by show _ ≤ w.heap.size + 1; omega) _⟩

set_option maxRecDepth 100000 in
set_option maxHeartbeats 1000000 in
theorem signed_plus (s : Int) (h0 : 0 ≤ s) (h1 : s < 170141183460469231731687303715884105728) (w : World) : Calls Tryz.prog 93 #[.agg #[.int .u64 (hiW s), .int .u64 (loW s)], .bool false] w (RetWE w s) := by
  obtain ⟨i1, i2⟩ := in_small h0 h1
  have hw := Lib.hid (hi_small h0 h1)
  have BF := Lib.hid (fun W => below_is s false (by rw [decide_eq_false_iff_not]; omega) W)
  have T := Lib.hid (told_in i1)
  obtain ⟨q0, q1, l0, l1, es⟩ := halfs (s := s) (by unfold InS; omega)
  clear es
  clear i1 i2 h0 h1
  generalize hx : hiW s = x at *
  generalize hy : loW s = y at *
  have HX := Lib.hid hx
  have HY := Lib.hid hy
  clear hx hy
  go_enter Tryz.func93, Tryz.ntmps93
  go_wp2_with fail
  rw [hw.out]
  have R := (Pair.new (w.alloc (.cells #[.int .u64 x, .int .u64 y] 118)) (.int .i64 0) (.int .u64 0) 45).below (below_box _ (.cells #[.int .i64 x, .int .u64 y] 45))
  have A := Pair.new ((w.alloc (.cells #[.int .u64 x, .int .u64 y] 118)).alloc (.cells #[.int .i64 0, .int .u64 0] 45)) (.int .i64 x) (.int .u64 y) 45
  have HB := below_thru (below_thru (below_box w (.cells #[.int .u64 x, .int .u64 y] 118)) (below_box _ (.cells #[.int .i64 0, .int .u64 0] 45))) (below_box _ (.cells #[.int .i64 x, .int .u64 y] 45))
  simp only [World.size_alloc] at R A
  generalize ((w.alloc (.cells #[.int .u64 x, .int .u64 y] 118)).alloc (.cells #[.int .i64 0, .int .u64 0] 45)).alloc (.cells #[.int .i64 x, .int .u64 y] 45) = w0 at *
  refine (BF.out w0).mono ?_
  rintro e w1 ⟨rfl, k⟩
  replace A := A.below k
  replace R := R.below k
  replace HB := below_thru HB k
  clear k
  obtain ⟨_, a0, a1, _, _⟩ := id A
  go_wp2_with fail
  refine (BF.out w1).mono ?_
  rintro e w2 ⟨rfl, k⟩
  replace A := A.below k
  replace R := R.below k
  replace HB := below_thru HB k
  clear k a0 a1
  obtain ⟨_, a0, a1, _, _⟩ := id A
  obtain ⟨_, r0, r1, r2, r3⟩ := id R
  go_wp2
  have R2 := R.self2 (.int .i64 x) (.int .u64 y)
  exact bodyPost_ret (v := .tuple #[.agg #[.int .i64 x, .int .u64 y], .int .i64 0]) (by simp [results, Tryz.results93, go_sem, R2.c0, R2.c1]) rfl ⟨by rw [T.out.1, T.out.2.1, T.out.2.2]; first | done | rw [HX.out, HY.out], (HB.setCell (p := ⟨w.heap.size + 1, 0, none⟩) (by show _ ≤ w.heap.size + 1; omega) _).setCell (p := ⟨w.heap.size + 1, 1, none⟩) (by show _ ≤ w.heap.size + 1; omega) _⟩

set_option maxRecDepth 100000 in
set_option maxHeartbeats 1000000 in
theorem signed_least (w : World) : Calls Tryz.prog 93 #[.agg #[.int .u64 9223372036854775808, .int .u64 0], .bool true] w (RetWE w (-170141183460469231731687303715884105728)) := by
  have hw := Lib.hid (show wrap64 9223372036854775808 = -9223372036854775808 by unfold wrap64; omega)
  have BF := Lib.hid (fun W => below_is (-170141183460469231731687303715884105728) true (by decide) W)
  rw [show hiW (-170141183460469231731687303715884105728) = -9223372036854775808 by decide, show loW (-170141183460469231731687303715884105728) = 0 by decide] at BF
  go_enter Tryz.func93, Tryz.ntmps93
  go_wp2_with fail
  rw [hw.out]
  have R := (Pair.new (w.alloc (.cells #[.int .u64 9223372036854775808, .int .u64 0] 118)) (.int .i64 0) (.int .u64 0) 45).below (below_box _ (.cells #[.int .i64 (-9223372036854775808), .int .u64 0] 45))
  have A := Pair.new ((w.alloc (.cells #[.int .u64 9223372036854775808, .int .u64 0] 118)).alloc (.cells #[.int .i64 0, .int .u64 0] 45)) (.int .i64 (-9223372036854775808)) (.int .u64 0) 45
  have HB := below_thru (below_thru (below_box w (.cells #[.int .u64 9223372036854775808, .int .u64 0] 118)) (below_box _ (.cells #[.int .i64 0, .int .u64 0] 45))) (below_box _ (.cells #[.int .i64 (-9223372036854775808), .int .u64 0] 45))
  simp only [World.size_alloc] at R A
  generalize ((w.alloc (.cells #[.int .u64 9223372036854775808, .int .u64 0] 118)).alloc (.cells #[.int .i64 0, .int .u64 0] 45)).alloc (.cells #[.int .i64 (-9223372036854775808), .int .u64 0] 45) = w0 at *
  refine (BF.out w0).mono ?_
  rintro e w1 ⟨rfl, k⟩
  replace A := A.below k
  replace R := R.below k
  replace HB := below_thru HB k
  clear k
  obtain ⟨_, a0, a1, _, _⟩ := id A
  go_wp2_with fail
  refine (BF.out w1).mono ?_
  rintro e w2 ⟨rfl, k⟩
  replace A := A.below k
  replace R := R.below k
  replace HB := below_thru HB k
  clear k a0 a1
  obtain ⟨_, a0, a1, _, _⟩ := id A
  obtain ⟨_, r0, r1, r2, r3⟩ := id R
  go_wp2
  have R2 := R.self2 (.int .i64 (-9223372036854775808)) (.int .u64 0)
  exact bodyPost_ret (v := .tuple #[.agg #[.int .i64 (-9223372036854775808), .int .u64 0], .int .i64 0]) (by simp [results, Tryz.results93, go_sem, R2.c0, R2.c1]) rfl ⟨rfl, (HB.setCell (p := ⟨w.heap.size + 1, 0, none⟩) (by show _ ≤ w.heap.size + 1; omega) _).setCell (p := ⟨w.heap.size + 1, 1, none⟩) (by show _ ≤ w.heap.size + 1; omega) _⟩

set_option maxRecDepth 100000 in
set_option maxHeartbeats 1000000 in
theorem signed_over (w : World) : Calls Tryz.prog 93 #[.agg #[.int .u64 9223372036854775808, .int .u64 0], .bool false] w (RetWE w 170141183460469231731687303715884105728) := by
  have hw := Lib.hid (show wrap64 9223372036854775808 = -9223372036854775808 by unfold wrap64; omega)
  have BF := Lib.hid (fun W => below_is (-170141183460469231731687303715884105728) true (by decide) W)
  rw [show hiW (-170141183460469231731687303715884105728) = -9223372036854775808 by decide, show loW (-170141183460469231731687303715884105728) = 0 by decide] at BF
  go_enter Tryz.func93, Tryz.ntmps93
  go_wp2_with fail
  rw [hw.out]
  have R := (Pair.new (w.alloc (.cells #[.int .u64 9223372036854775808, .int .u64 0] 118)) (.int .i64 0) (.int .u64 0) 45).below (below_box _ (.cells #[.int .i64 (-9223372036854775808), .int .u64 0] 45))
  have A := Pair.new ((w.alloc (.cells #[.int .u64 9223372036854775808, .int .u64 0] 118)).alloc (.cells #[.int .i64 0, .int .u64 0] 45)) (.int .i64 (-9223372036854775808)) (.int .u64 0) 45
  have HB := below_thru (below_thru (below_box w (.cells #[.int .u64 9223372036854775808, .int .u64 0] 118)) (below_box _ (.cells #[.int .i64 0, .int .u64 0] 45))) (below_box _ (.cells #[.int .i64 (-9223372036854775808), .int .u64 0] 45))
  simp only [World.size_alloc] at R A
  generalize ((w.alloc (.cells #[.int .u64 9223372036854775808, .int .u64 0] 118)).alloc (.cells #[.int .i64 0, .int .u64 0] 45)).alloc (.cells #[.int .i64 (-9223372036854775808), .int .u64 0] 45) = w0 at *
  refine (BF.out w0).mono ?_
  rintro e w1 ⟨rfl, k⟩
  replace A := A.below k
  replace R := R.below k
  replace HB := below_thru HB k
  clear k
  obtain ⟨_, a0, a1, _, _⟩ := id A
  go_wp2_with fail
  refine (BF.out w1).mono ?_
  rintro e w2 ⟨rfl, k⟩
  replace A := A.below k
  replace R := R.below k
  replace HB := below_thru HB k
  clear k a0 a1
  obtain ⟨_, a0, a1, _, _⟩ := id A
  obtain ⟨_, r0, r1, r2, r3⟩ := id R
  go_wp2
  have R2 := R.self2 (.int .i64 0) (.int .u64 0)
  exact bodyPost_ret (v := .tuple #[.agg #[.int .i64 0, .int .u64 0], .int .i64 2]) (by simp [results, Tryz.results93, go_sem, R2.c0, R2.c1]) rfl ⟨rfl, (HB.setCell (p := ⟨w.heap.size + 1, 0, none⟩) (by show _ ≤ w.heap.size + 1; omega) _).setCell (p := ⟨w.heap.size + 1, 1, none⟩) (by show _ ≤ w.heap.size + 1; omega) _⟩

theorem signed_any (s : Int) (m : Bool) (h0 : 0 ≤ s) (h1 : s ≤ 170141183460469231731687303715884105728) (w : World) : Calls Tryz.prog 93 #[.agg #[.int .u64 (hiW s), .int .u64 (loW s)], .bool m] w (RetWE w (sg m s)) := by
  by_cases h : s = 170141183460469231731687303715884105728
  · subst h
    cases m
    · exact signed_over w
    · exact signed_least w
  · cases m
    · exact signed_plus s h0 (by omega) w
    · exact signed_minus s h0 (by omega) w
end Go.Proofs.YtlidicnbmfkghaaGreatDoor

/- Package divide's iterator over a size's bits, from the highest one down: what it hands on, one after the other. -/
namespace Go.Proofs.YtlidicnbmfkghaaGreatDoor
open Go.RowKit Go.Shelf
attribute [local go_sem] Oper.semAt_some

/-- a bit -/
abbrev Bit := { x : Int // 0 ≤ x ∧ x ≤ 1 }
/-- the number of some bits, the highest one first -/
def bval (l : List Bit) : Int := l.foldl (fun s v => 2 * s + v.1) 0
theorem bval_snoc (l : List Bit) (x : Bit) : bval (l ++ [x]) = 2 * bval l + x.1 := by simp [bval]
theorem bval_nil : bval [] = 0 := rfl
theorem bval_bound (l : List Bit) : 0 ≤ bval l ∧ bval l < 2 ^ l.length := by
  obtain ⟨n, hn⟩ : ∃ n, l.length = n := ⟨_, rfl⟩
  induction n generalizing l with
  | zero =>
    obtain rfl : l = [] := List.eq_nil_of_length_eq_zero hn
    simp [bval_nil]
  | succ n ih =>
    have hne : l ≠ [] := by rintro rfl; simp at hn
    have h := ih l.dropLast (by simp [hn])
    have e := bval_snoc l.dropLast (l.getLast hne)
    rw [List.dropLast_concat_getLast hne] at e
    rw [List.length_dropLast, hn, Nat.add_sub_cancel] at h
    rw [e, hn, Int.pow_succ]
    have := (l.getLast hne).2
    omega
theorem pow_le_128 {k : Nat} (h : k ≤ 128) : (2 : Int) ^ k ≤ 340282366920938463463374607431768211456 := by
  have e : (2 : Int) ^ 128 = 340282366920938463463374607431768211456 := by decide
  rw [← e, show 128 = k + (128 - k) by omega, Int.pow_add]
  have h1 : (0 : Int) < 2 ^ k := Int.pow_pos (by decide)
  have h2 : (0 : Int) < 2 ^ (128 - k) := Int.pow_pos (by decide)
  have := Int.mul_le_mul_of_nonneg_left (show (1 : Int) ≤ 2 ^ (128 - k) by omega) (Int.le_of_lt h1)
  omega
theorem bval_in (l : List Bit) (h : l.length ≤ 128) : InS (bval l) := ⟨(bval_bound l).1, Int.lt_of_lt_of_le (bval_bound l).2 (pow_le_128 h)⟩

/-- what a round keeps: the block of the size -/
def KeptP (B : Nat) (u v : Value) (W W' : World) : Prop := W.heap.size ≤ W'.heap.size ∧ (Pair W B u v → Pair W' B u v)
theorem keptP_t {B : Nat} {u v : Value} {X Y Z : World} (h : KeptP B u v X Y) (k : KeptP B u v Y Z) : KeptP B u v X Z := ⟨Nat.le_trans h.1 k.1, fun p => k.2 (h.2 p)⟩
theorem pair_grown {B : Nat} {u v : Value} {W W' : World} {row : Option Nat} (h : Pair W B u v) (hg : W.grownBy W' row) (hr : ∀ r, row = some r → ∃ o : Obj, W.heap[r]? = some o ∧ o.isCells = false) : Pair W' B u v :=
  ⟨Nat.lt_of_lt_of_le h.lt hg.size, cell_kept h.c0 hg hr, cell_kept h.c1 hg hr, (frozen_kept h.c0 hg hr).trans h.f0, (frozen_kept h.c1 hg hr).trans h.f1⟩
theorem keptP_b {B : Nat} {u v : Value} (W : World) (l : Nat) (o o' : Obj) (h : W.heap[l]? = some o) (hc : o.isCells = false) : KeptP B u v W (W.putObj l o') :=
  ⟨(grownBy_putObj' W l o').size, fun p => pair_grown p (grownBy_putObj' W l o') (fun r e => by cases e; exact ⟨o, h, hc⟩)⟩
theorem pair_own {β : Type} (b : Nat) (f g : β → Value) : Own (fun s W => Pair W b (f s) (g s)) := fun _ _ _ _ hs hg hr => pair_grown hs hg hr
theorem grown_of_below {W W' : World} (h : Below W.heap.size W W') : W.grownBy W' none := ⟨h.os, h.tape, h.output, h.size, fun k hk _ => h.block k hk⟩
theorem others_of_below {W W' : World} (h : Below W.heap.size W W') : KeepsOthers W W' := ⟨h.size, fun k _ hk _ => (h.block k (Array.getElem?_eq_some_iff.1 hk).1).trans hk⟩

set_option maxRecDepth 100000 in
/-- the maker of the iterator: the size is boxed; the function value captures the box -/
theorem fromHighest_any (u v : Int) (w : World) : Calls Tryz.prog 98 #[.agg #[.int .u64 u, .int .u64 v]] w
    fun e w' => e = .returned (.func (.func 103) #[] #[.pointer (some ⟨w.heap.size, 0, none⟩)]) ∧ w' = w.alloc (.cells #[.int .u64 u, .int .u64 v] 118) := by
  go_enter Tryz.func98, Tryz.ntmps98
  go_wp2
  go_ret
  exact ⟨rfl, rfl⟩

theorem bit_step (s : Int) (k : Nat) : s / 2 ^ k = 2 * (s / 2 ^ (k + 1)) + s / 2 ^ k % 2 := by
  have e : s / 2 ^ (k + 1) = s / 2 ^ k / 2 := by rw [Int.pow_succ, Int.ediv_ediv_of_nonneg (Int.le_of_lt (Int.pow_pos (by decide)))]
  rw [e]; omega
theorem div_top {s : Int} {n : Nat} (h0 : 0 ≤ s) (h : s < 2 ^ n) : s / 2 ^ n = 0 := Int.ediv_eq_zero_of_lt h0 h

/-- what holds at the head of a round of the iterator: k bits are left -/
def BitRel (s : Int) (n B : Nat) (J : List Bit → World → Prop) (x : Value) (W : World) : Prop :=
  ∃ (k : Nat) (a : Int) (pre : List Bit), x = .int .i64 a ∧ a = (k : Int) - 1 ∧ k + pre.length = n ∧ bval pre = s / 2 ^ k ∧ J pre W ∧ Pair W B (.int .u64 (hiW s)) (.int .u64 (loW s))

set_option maxRecDepth 100000 in
set_option maxHeartbeats 2000000 in
theorem bits1 (n l B : Nat) (hn : 1 ≤ n) (s : Int) (hs : InS s) (J Jx : List Bit → World → Prop) (W : World) (hJ : AbidesFrom W.heap.size J)
    (hY : ∀ pre x W1, J pre W1 → pre.length < 128 → YieldAt Fence.wide (n - 1) Tryz.prog l #[.int .u64 (x : Bit).1] W1 fun e W' =>
      (e = .returned (.bool true) ∧ J (pre ++ [x]) W' ∧ KeptP B (.int .u64 (hiW s)) (.int .u64 (loW s)) W1 W') ∨ (e = .returned (.bool false) ∧ Jx (pre ++ [x]) W'))
    (hB : Pair W B (.int .u64 (hiW s)) (.int .u64 (loW s))) (h0 : J [] W) :
    CallsIn Fence.wide n Tryz.prog 103 #[.func (.yield l) #[] #[], .pointer (some ⟨B, 0, none⟩)] W fun e W' => (∃ v, e = .returned v) ∧
      ((∃ ys, (bval ys = s ∧ ys.length ≤ 128) ∧ J ys W') ∨ (∃ pre, True ∧ Jx pre W')) := by
  have LEN := Lib.hid (fun W => length_any s hs W)
  have BIT := Lib.hid (fun k hk W => bitAt_any s k hs hk W)
  have TOP := Lib.hid (fun k h => div_top (n := k) hs.1 h)
  clear hs
  refine callsIn_of_wp Tryz.func103 rfl trivial ?_ rfl
  simp only [Tryz.ntmps103, List.size_toArray, List.length_cons, List.length_nil, Nat.reduceAdd, Nat.reduceSub, Array.replicate_succ, Array.replicate_zero, List.push_toArray, List.append_toArray, List.nil_append, List.cons_append]
  obtain ⟨_, b0, b1, _, _⟩ := id hB
  gi_wp2_with (refine ⟨trivial, ?_⟩; gi_at_call 104; (with_reducible refine (callsIn_wide.2 (LEN.out _)).mono ?_); rintro e W1 ⟨m, rfl, hm, hx, hb⟩)
  have hJ1 := hJ [] W W1 none h0 (grown_of_below hb) (fun r e => by cases e)
  have hB1 := hB.below hb
  have T0 := TOP.out m hx
  have hsz := hb.size
  clear b0 b1 hx
  replace hJ : ∀ pre X Y, J pre X → W.heap.size ≤ X.heap.size → Below X.heap.size X Y → J pre Y := fun pre X Y hx _ k => hJ pre X Y none hx (grown_of_below k) (fun r e => by cases e)
  have HJ := Lib.hid hJ
  have HY := Lib.hid hY
  have HT := Lib.hid T0
  clear hJ hY h0 T0 LEN TOP hb
  gi_loopw [3] (fun x wr => BitRel s m B J x wr ∧ W.heap.size ≤ wr.heap.size) (fun x _ => (intOf x + 1).toNat)
  case atStart => exact ⟨⟨m, _, [], rfl, rfl, by simp, by rw [bval_nil, HT.out], hJ1, hB1⟩, hsz⟩
  case round =>
    obtain ⟨⟨k, a, pre, rfl, ha, hk, hv, hJp, hBp⟩, hsz2⟩ := hrel
    clear hJ1 hB1
    have HV := Lib.hid hv
    clear hv
    rcases k with _ | k
    · have hlt : a < 0 := by omega
      clear ha
      gi_wp2
      go_end0
      exact ⟨⟨_, rfl⟩, .inl ⟨pre, ⟨by rw [HV.out]; simp, by omega⟩, hJp⟩⟩
    · obtain rfl : a = (k : Int) := by omega
      obtain ⟨_, b0, b1, _, _⟩ := id hBp
      have HK := Lib.hid hk
      clear ha hk
      gi_wp2_with fail
      refine ⟨trivial, ?_⟩
      refine (callsIn_wide.2 (BIT.out k (by have := HK.out; omega) wr)).mono ?_
      rintro e W2 ⟨rfl, kb⟩
      have hk0 : (k : Int) < 128 := by have := HK.out; omega
      replace hJp := HJ.out _ _ _ hJp hsz2 kb
      replace hBp := hBp.below kb
      have hsz3 := Nat.le_trans hsz2 kb.size
      clear kb hsz2 b0 b1
      obtain ⟨x, hx⟩ : ∃ x : Bit, s / 2 ^ k % 2 = x.1 := ⟨⟨s / 2 ^ k % 2, by omega⟩, rfl⟩
      have HX := Lib.hid hx
      rw [hx]
      clear hx
      obtain ⟨fn, tmps, assign, body, hy, hR⟩ := HY.out pre x W2 hJp (by have := HK.out; omega)
      obtain ⟨x, hx0⟩ := x
      dsimp only at hy HX ⊢
      gi_wp2_with fail
      refine hR.mono ?_
      clear hR hy
      rintro e W3 (⟨rfl, hJ3, hk3⟩ | ⟨rfl, hx3⟩)
      · have hsz4 := Nat.le_trans hsz3 hk3.1
        replace hBp := hk3.2 hBp
        have hk1 : (k : Int) < 128 := by have := HK.out; omega
        clear hk3 hsz3
        gi_wp2
        go_roundw
        case rel => exact ⟨⟨k, _, pre ++ [⟨x, hx0⟩], rfl, rfl, by have := HK.out; simp; omega, by have := HX.out; have h := bit_step s k; rw [bval_snoc, HV.out]; show _ + x = _; omega, hJ3, hBp⟩, hsz4⟩
        case measure => simp [intOf]
      · gi_wp2
        refine bodyPost_ret (results_none rfl _ _ _) rfl ?_
        exact ⟨⟨_, rfl⟩, .inr ⟨_, trivial, hx3⟩⟩

theorem bits_stops (n B : Nat) (hn : 1 ≤ n) (s : Int) (hs : InS s) (w : World) (hB : Pair w B (.int .u64 (hiW s)) (.int .u64 (loW s))) :
    SeqStopsK Fence.wide n Tryz.prog 103 #[.pointer (some ⟨B, 0, none⟩)] (fun x : Bit => #[.int .u64 x.1]) (KeptP B (.int .u64 (hiW s)) (.int .u64 (loW s)))
      (fun ys => bval ys = s ∧ ys.length ≤ 128) (fun _ => True) 128 w := fun l J Jx W hW hJ _ hY h0 => bits1 n l B hn s hs J Jx W hJ hY (hB.below hW) h0
end Go.Proofs.YtlidicnbmfkghaaGreatDoor

/- Package divide's split: a size divided bit by bit. -/
namespace Go.Proofs.YtlidicnbmfkghaaGreatDoor
open Go.RowKit Go.Shelf
attribute [local go_sem] Oper.semAt_some

/-- What a call that answers two sizes leaves. -/
def RetSS (w : World) (q r : Int) (e : Ending) (w' : World) : Prop := e = .returned (.tuple #[.agg #[.int .u64 (hiW q), .int .u64 (loW q)], .agg #[.int .u64 (hiW r), .int .u64 (loW r)]]) ∧ Below w.heap.size w w'

/-- what stands between two rounds of the division: its variables -/
structure Spl (w : World) (a b q r : Int) (W : World) : Prop where
  pb : Pair W (w.heap.size + 1) (.int .u64 (hiW b)) (.int .u64 (loW b))
  p2 : Pair W (w.heap.size + 1 + 1) (.int .u64 0) (.int .u64 0)
  p3 : Pair W (w.heap.size + 1 + 1 + 1) (.int .u64 0) (.int .u64 0)
  pq : Pair W (w.heap.size + 1 + 1 + 1 + 1) (.int .u64 (hiW q)) (.int .u64 (loW q))
  pr : Pair W (w.heap.size + 1 + 1 + 1 + 1 + 1) (.int .u64 (hiW r)) (.int .u64 (loW r))
  pa : Pair W (w.heap.size + 1 + 1 + 1 + 1 + 1 + 1) (.int .u64 (hiW a)) (.int .u64 (loW a))
  hb : Below w.heap.size w W
section
variable {w W W' : World} {a b q r : Int}
theorem Spl.below (h : Spl w a b q r W) (k : Below W.heap.size W W') : Spl w a b q r W' :=
  ⟨h.pb.below k, h.p2.below k, h.p3.below k, h.pq.below k, h.pr.below k, h.pa.below k, below_thru h.hb k⟩
theorem Spl.drew (h : Spl w a b q r W) : Spl w a b q r W.drew := h.below (Below.refl _ _).drew
theorem Spl.setq (h : Spl w a b q r W) (q' : Int) : Spl w a b q' r ((W.setCell ⟨w.heap.size + 1 + 1 + 1 + 1, 0, none⟩ (.int .u64 (hiW q'))).setCell ⟨w.heap.size + 1 + 1 + 1 + 1, 1, none⟩ (.int .u64 (loW q'))) :=
  ⟨h.pb.far2 (by omega) _ _, h.p2.far2 (by omega) _ _, h.p3.far2 (by omega) _ _, h.pq.self2 _ _, h.pr.far2 (by omega) _ _, h.pa.far2 (by omega) _ _,
    (h.hb.setCell (p := ⟨w.heap.size + 1 + 1 + 1 + 1, 0, none⟩) (by show _ ≤ w.heap.size + 1 + 1 + 1 + 1; omega) _).setCell (p := ⟨w.heap.size + 1 + 1 + 1 + 1, 1, none⟩) (by show _ ≤ w.heap.size + 1 + 1 + 1 + 1; omega) _⟩
theorem Spl.setr (h : Spl w a b q r W) (r' : Int) : Spl w a b q r' ((W.setCell ⟨w.heap.size + 1 + 1 + 1 + 1 + 1, 0, none⟩ (.int .u64 (hiW r'))).setCell ⟨w.heap.size + 1 + 1 + 1 + 1 + 1, 1, none⟩ (.int .u64 (loW r'))) :=
  ⟨h.pb.far2 (by omega) _ _, h.p2.far2 (by omega) _ _, h.p3.far2 (by omega) _ _, h.pq.far2 (by omega) _ _, h.pr.self2 _ _, h.pa.far2 (by omega) _ _,
    (h.hb.setCell (p := ⟨w.heap.size + 1 + 1 + 1 + 1 + 1, 0, none⟩) (by show _ ≤ w.heap.size + 1 + 1 + 1 + 1 + 1; omega) _).setCell (p := ⟨w.heap.size + 1 + 1 + 1 + 1 + 1, 1, none⟩) (by show _ ≤ w.heap.size + 1 + 1 + 1 + 1 + 1; omega) _⟩
end
theorem Spl.start (w : World) (a b : Int) (t : TypeId) : Spl w a b 0 0 (((((((w.alloc (.cells #[.int .u64 (hiW a), .int .u64 (loW a)] t)).alloc (.cells #[.int .u64 (hiW b), .int .u64 (loW b)] t)).alloc (.cells #[.int .u64 0, .int .u64 0] t)).alloc (.cells #[.int .u64 0, .int .u64 0] t)).alloc (.cells #[.int .u64 0, .int .u64 0] t)).alloc (.cells #[.int .u64 0, .int .u64 0] t)).alloc (.cells #[.int .u64 (hiW a), .int .u64 (loW a)] t)) := by
  have e0 : hiW 0 = 0 := rfl
  have e1 : loW 0 = 0 := rfl
  have K := (((((((PairsK.nil w).more (.int .u64 (hiW a)) (.int .u64 (loW a)) t).more (.int .u64 (hiW b)) (.int .u64 (loW b)) t).more (.int .u64 0) (.int .u64 0) t).more (.int .u64 0) (.int .u64 0) t).more (.int .u64 0) (.int .u64 0) t).more (.int .u64 0) (.int .u64 0) t).more (.int .u64 (hiW a)) (.int .u64 (loW a)) t
  simp only [World.size_alloc] at K
  exact ⟨K.tail.tail.tail.tail.tail.head, K.tail.tail.tail.tail.head, K.tail.tail.tail.head, by rw [e0, e1]; exact K.tail.tail.head, by rw [e0, e1]; exact K.tail.head, K.head, K.hb⟩
theorem spl_own (w : World) (a b : Int) (B : Nat) (hB : w.heap.size ≤ B) : OwnFrom B (fun (pre : List Bit) W => Spl w a b (bval pre / b) (bval pre % b) W) := fun _ X _ row h hg hr =>
  have hr' : ∀ r, row = some r → ∃ o : Obj, X.heap[r]? = some o ∧ o.isCells = false := fun r e => (hr r e).2
  ⟨pair_grown h.pb hg hr', pair_grown h.p2 hg hr', pair_grown h.p3 hg hr', pair_grown h.pq hg hr', pair_grown h.pr hg hr', pair_grown h.pa hg hr', h.hb.grown hg h.hb.size (fun k e => Nat.le_trans hB (hr k e).1)⟩

theorem div_step (V b c : Int) (hb : 0 < b) (c0 : 0 ≤ c) (c1 : c ≤ 1) :
    (2 * (V % b) + c < b → (2 * V + c) / b = 2 * (V / b) ∧ (2 * V + c) % b = 2 * (V % b) + c) ∧ (b ≤ 2 * (V % b) + c → (2 * V + c) / b = 2 * (V / b) + 1 ∧ (2 * V + c) % b = 2 * (V % b) + c - b) := by
  have e := Int.mul_ediv_add_emod V b
  have r0 := Int.emod_nonneg V (show b ≠ 0 by omega)
  have r1 := Int.emod_lt_of_pos V hb
  generalize V % b = r at *
  generalize V / b = q at *
  have e2 : b * (2 * q) = 2 * (b * q) := by rw [← Int.mul_assoc, Int.mul_comm b 2, Int.mul_assoc]
  constructor
  · intro h
    exact (Int.ediv_emod_unique hb).2 ⟨by omega, by omega, h⟩
  · intro h
    exact (Int.ediv_emod_unique hb).2 ⟨by rw [Int.mul_add, e2]; omega, by omega, by omega⟩
theorem quo_in {V b : Int} (hb : 0 < b) (h : InS V) : InS (V / b) := ⟨Int.ediv_nonneg h.1 (by omega), Int.lt_of_le_of_lt (Int.ediv_le_self _ h.1) h.2⟩
theorem even_up (q : Int) : hiW (2 * q + 1) = hiW (2 * q) ∧ loW (2 * q + 1) = loW (2 * q) + 1 ∧ loW (2 * q) ≤ 18446744073709551614 := by unfold hiW loW; omega
theorem Pair.self1 {w : World} {b : Nat} {u v : Value} (h : Pair w b u v) (y : Value) : Pair (w.setCell ⟨b, 1, none⟩ y) b u y := by
  refine ⟨by simpa [World.setCell] using h.lt, ?_, ?_, ?_, ?_⟩
  · rw [World.cell?_setCell_other _ _ _ _ (by simp)]
    exact h.c0
  · exact World.cell?_setCell_same _ _ _ h.c1
  · simp [h.f0]
  · simp [h.f1]
theorem Spl.setlo {w W : World} {a b q r : Int} (h : Spl w a b (2 * q) r W) : Spl w a b (2 * q + 1) r (W.setCell ⟨w.heap.size + 1 + 1 + 1 + 1, 1, none⟩ (.int .u64 (loW (2 * q) + 1))) :=
  ⟨h.pb.far (by omega) _ _, h.p2.far (by omega) _ _, h.p3.far (by omega) _ _, by rw [(even_up q).1, (even_up q).2.1]; exact h.pq.self1 _, h.pr.far (by omega) _ _, h.pa.far (by omega) _ _,
    h.hb.setCell (p := ⟨w.heap.size + 1 + 1 + 1 + 1, 1, none⟩) (by show _ ≤ w.heap.size + 1 + 1 + 1 + 1; omega) _⟩

set_option maxRecDepth 100000 in
set_option maxHeartbeats 8000000 in
theorem split_any (a b : Int) (ha0 : 0 ≤ a) (ha1 : a ≤ 170141183460469231731687303715884105728) (hb0 : 0 < b) (hb1 : b ≤ 170141183460469231731687303715884105728) (w : World) :
    Calls Tryz.prog 91 #[.agg #[.int .u64 (hiW a), .int .u64 (loW a)], .agg #[.int .u64 (hiW b), .int .u64 (loW b)]] w (RetSS w (a / b) (a % b)) := by
  have IA : InS a := ⟨ha0, by omega⟩
  have S0 := Spl.start w a b 118
  have HS0 := Lib.hid S0
  clear S0
  refine (callsIn_wide (n := 5)).1 ?_
  refine callsIn_of_wp_marks Tryz.func91 rfl trivial ?_ rfl
  simp only [Tryz.ntmps91, List.size_toArray, List.length_cons, List.length_nil, Nat.reduceAdd, Nat.reduceSub, Array.replicate_succ, Array.replicate_zero, List.push_toArray, List.append_toArray, List.nil_append, List.cons_append]
  gi_wp2_with (refine ⟨trivial, ?_⟩; gi_at_call 98; (with_reducible refine (callsIn_wide.2 (fromHighest_any _ _ _)).mono ?_); rintro e w' ⟨rfl, rfl⟩)
  have S0 := HS0.out
  clear HS0
  have hsz : w.heap.size + 1 + 1 + 1 + 1 + 1 + 1 < (((((((w.alloc (.cells #[.int .u64 (hiW a), .int .u64 (loW a)] 118)).alloc (.cells #[.int .u64 (hiW b), .int .u64 (loW b)] 118)).alloc (.cells #[.int .u64 0, .int .u64 0] 118)).alloc (.cells #[.int .u64 0, .int .u64 0] 118)).alloc (.cells #[.int .u64 0, .int .u64 0] 118)).alloc (.cells #[.int .u64 0, .int .u64 0] 118)).alloc (.cells #[.int .u64 (hiW a), .int .u64 (loW a)] 118)).heap.size := S0.pa.lt
  generalize (((((((w.alloc (.cells #[.int .u64 (hiW a), .int .u64 (loW a)] 118)).alloc (.cells #[.int .u64 (hiW b), .int .u64 (loW b)] 118)).alloc (.cells #[.int .u64 0, .int .u64 0] 118)).alloc (.cells #[.int .u64 0, .int .u64 0] 118)).alloc (.cells #[.int .u64 0, .int .u64 0] 118)).alloc (.cells #[.int .u64 0, .int .u64 0] 118)).alloc (.cells #[.int .u64 (hiW a), .int .u64 (loW a)] 118)) = w0 at *
  refine wpIn_rangeFunc_ownF rfl (by omega) (gf := 103) (lb := #[.pointer (some ⟨w.heap.size + 1 + 1 + 1 + 1 + 1 + 1, 0, none⟩)]) rfl trivial (enters_of Tryz.func103 (by kernel_rfl) rfl)
    (bits_stops _ (w.heap.size + 1 + 1 + 1 + 1 + 1 + 1) (by omega) a IA w0 S0.pa) (fun h k => keptP_t h k) (fun W l o o' _ h hc _ => keptP_b W l o o' h hc) (Below.refl _ _) (fun _ => rfl)
    (fun pre W => Spl w a b (bval pre / b) (bval pre % b) W) (fun _ _ _ => False) (spl_own w a b _ (by omega)) (fun _ _ _ _ _ hs _ _ => hs)
    (by simpa [bval_nil] using S0)
    (fun x => { tmps := #[.agg #[.int .u64 (hiW a), .int .u64 (loW a)], .agg #[.int .u64 (hiW b), .int .u64 (loW b)], .pointer (some ⟨w.heap.size, 0, none⟩), .pointer (some ⟨w.heap.size + 1, 0, none⟩), .pointer (some ⟨w.heap.size + 1 + 1, 0, none⟩), .pointer (some ⟨w.heap.size + 1 + 1 + 1, 0, none⟩), .pointer (some ⟨w.heap.size + 1 + 1 + 1 + 1, 0, none⟩), .pointer (some ⟨w.heap.size + 1 + 1 + 1 + 1 + 1, 0, none⟩), .int .u64 x.1, .agg #[.int .u64 (hiW a), .int .u64 (loW a)], .func (.func 103) #[] #[.pointer (some ⟨w.heap.size + 1 + 1 + 1 + 1 + 1 + 1, 0, none⟩)], .int .u64 x.1, undef, undef, undef, undef, undef, undef, undef, undef, undef, undef, undef, undef, undef, undef, undef, undef, undef, undef], defers := [] }) ?assign ?body ?done ?stop
  case assign =>
    intro l x W K hK
    gi_wp2
    exact hK
  case body =>
    rintro l pre x W hS hlen
    have hd : 1 ≤ 5 - 1 - 1 := by omega
    have hmx : Tryz.prog.follows .mixedOrders = true := by kernel_rfl
    obtain ⟨c, c0, c1⟩ := x
    have iv := bval_in (pre ++ [⟨c, c0, c1⟩]) (by simp; omega)
    have iq := quo_in hb0 iv
    rw [bval_snoc] at iv iq
    obtain ⟨hs1, hs2⟩ := div_step (bval pre) b c hb0 c0 c1
    have hf : bval (pre ++ [⟨c, c0, c1⟩]) / b = (2 * bval pre + c) / b ∧ bval (pre ++ [⟨c, c0, c1⟩]) % b = (2 * bval pre + c) % b := by rw [bval_snoc]; exact ⟨rfl, rfl⟩
    dsimp only at iv iq hs1 hs2 ⊢
    have HF := Lib.hid hf
    clear hf
    have r0 := Int.emod_nonneg (bval pre) (show b ≠ 0 by omega)
    have r1 := Int.emod_lt_of_pos (bval pre) hb0
    have q0 := Int.ediv_nonneg (bval_in pre (by omega)).1 (Int.le_of_lt hb0)
    generalize (2 * bval pre + c) / b = Q' at *
    generalize (2 * bval pre + c) % b = R' at *
    generalize bval pre / b = q at *
    generalize bval pre % b = r at *
    have iQ : InS (2 * q) ∧ InS q := by
      unfold InS at iq ⊢
      by_cases h : 2 * r + c < b
      · have := hs1 h; omega
      · have := hs2 (by omega); omega
    have iR : InS r ∧ InS (2 * r + c) ∧ InS b := by unfold InS; omega
    have T1 := Lib.hid (fun W => show Calls Tryz.prog 99 #[.agg #[.int .u64 (hiW q), .int .u64 (loW q)], .int .u64 0] W (RetSz W (2 * q)) by have := twice_any q 0 iQ.2 (by rw [Int.add_zero]; exact iQ.1) (by decide) (by decide) W; rwa [Int.add_zero] at this)
    have T2 := Lib.hid (fun W => twice_any r c iR.1 iR.2.1 c0 c1 W)
    have LS := Lib.hid (fun W => less_any (2 * r + c) b iR.2.1 iR.2.2 W)
    have WO := Lib.hid (fun h W => without_any (2 * r + c) b iR.2.1 iR.2.2 h W)
    have EV := Lib.hid (even_up q)
    have HD := Lib.hid (And.intro hs1 hs2)
    clear iv iq hs1 hs2 iQ iR r0 r1 q0 hlen
    generalize hR : 2 * r + c = R at *
    have HR := Lib.hid hR
    clear hR
    obtain ⟨_, x0, x1, _, _⟩ := id hS.pq
    obtain ⟨_, x2, x3, _, _⟩ := id hS.pr
    gi_wp2
    gi_cut [] from 12 (fun wx => Spl w a b (2 * q) R wx ∧ KeepsOthers W wx)
    case first =>
      gi_region_with_o (first
        | (refine ⟨trivial, ?_⟩; gi_at_call 99; (with_reducible refine (CallsIn.inRound l (callsIn_wide.2 (T1.out _))).mono ?_); rintro e W2 ⟨rfl, k⟩
           have s2 := hS.drew.below k
           have o2 := (KeepsOthers.drew W).trans (others_of_below k)
           clear k
           obtain ⟨_, y0, y1, y2, y3⟩ := id s2.pr)
        | (refine ⟨trivial, ?_⟩; gi_at_call 99; (with_reducible refine (CallsIn.inRound l (callsIn_wide.2 (T2.out _))).mono ?_); rintro e W3 ⟨rfl, k⟩
           have s3 := s2.below k
           have o3 := o2.trans (others_of_below k)
           clear k
           obtain ⟨_, z0, z1, z2, z3⟩ := id s3.pq
           obtain ⟨_, z4, z5, z6, z7⟩ := id s3.pr))
      all_goals gi_wp2
      all_goals gi_meet
      all_goals exact ⟨(s3.setq _).setr _, (((o3.trans (KeepsOthers.setCell _ _ _)).trans (KeepsOthers.setCell _ _ _)).trans (KeepsOthers.setCell _ _ _)).trans (KeepsOthers.setCell _ _ _)⟩
    case rest =>
      obtain ⟨sc, oc⟩ := hcut
      clear x0 x1 x2 x3 T1 T2
      obtain ⟨_, x0, x1, x4, x5⟩ := id sc.pq
      obtain ⟨_, x2, x3, x6, x7⟩ := id sc.pr
      obtain ⟨_, y0, y1, _, _⟩ := id sc.pb
      have HS := Lib.hid hS
      clear hS
      by_cases h : R < b
      · have LB := Lib.hid (fun W => show Calls Tryz.prog 100 #[.agg #[.int .u64 (hiW R), .int .u64 (loW R)], .agg #[.int .u64 (hiW b), .int .u64 (loW b)]] W (RetV W (.bool true)) from by have := LS.out W; rwa [decide_eq_true h] at this)
        obtain ⟨f1, f2⟩ := HD.out.1 h
        have FF := Lib.hid (And.intro f1 f2)
        clear f1 f2 h LS
        gi_wp2_with (refine ⟨trivial, ?_⟩; gi_at_call 100; (with_reducible refine (CallsIn.inRound l (callsIn_wide.2 (LB.out _))).mono ?_); rintro e W2 ⟨rfl, k⟩)
        have s2 := sc.below k
        have o2 := oc.trans (others_of_below k)
        exact ⟨o2, ⟨o2.size, fun _ => s2.pa⟩, by show Spl w a b (bval (pre ++ [⟨c, c0, c1⟩]) / b) (bval (pre ++ [⟨c, c0, c1⟩]) % b) W2; rw [HF.out.1, HF.out.2, FF.out.1, FF.out.2]; exact s2⟩
      · have LB := Lib.hid (fun W => show Calls Tryz.prog 100 #[.agg #[.int .u64 (hiW R), .int .u64 (loW R)], .agg #[.int .u64 (hiW b), .int .u64 (loW b)]] W (RetV W (.bool false)) from by have := LS.out W; rwa [decide_eq_false h] at this)
        have WB := Lib.hid (fun W => WO.out (by omega) W)
        obtain ⟨f1, f2⟩ := HD.out.2 (by omega)
        have FF := Lib.hid (And.intro f1 f2)
        have ev3 := EV.out.2.2
        have ev0 : 0 ≤ loW (2 * q) := by unfold loW; omega
        clear f1 f2 h LS WO
        gi_wp2_with fail
        refine ⟨trivial, ?_⟩
        refine (CallsIn.inRound l (callsIn_wide.2 (LB.out _))).mono ?_
        rintro e W2 ⟨rfl, k⟩
        have s2 := sc.below k
        have o2 := oc.trans (others_of_below k)
        clear k sc oc x0 x1 x2 x3 x4 x5 x6 x7 y0 y1
        obtain ⟨_, x0, x1, x4, x5⟩ := id s2.pq
        have s3 := s2.setlo
        have o3 := o2.trans (KeepsOthers.setCell W2 ⟨w.heap.size + 1 + 1 + 1 + 1, 1, none⟩ (.int .u64 (loW (2 * q) + 1)))
        obtain ⟨_, x2, x3, _, _⟩ := id s3.pr
        obtain ⟨_, y0, y1, _, _⟩ := id s3.pb
        gi_wp2_with fail
        refine ⟨trivial, ?_⟩
        refine (CallsIn.inRound l (callsIn_wide.2 (WB.out _))).mono ?_
        rintro e W3 ⟨rfl, k⟩
        have s4 := s3.below k
        have o4 := o3.trans (others_of_below k)
        clear k x0 x1 x2 x3 x4 x5 y0 y1 s2 o2 s3 o3
        obtain ⟨_, x0, x1, x4, x5⟩ := id s4.pr
        have s5 := s4.setr (R - b)
        have o5 := (o4.trans (KeepsOthers.setCell W3 ⟨w.heap.size + 1 + 1 + 1 + 1 + 1, 0, none⟩ (.int .u64 (hiW (R - b))))).trans (KeepsOthers.setCell _ ⟨w.heap.size + 1 + 1 + 1 + 1 + 1, 1, none⟩ (.int .u64 (loW (R - b))))
        gi_wp2
        exact ⟨o5, ⟨o5.size, fun _ => s5.pa⟩, by show Spl w a b (bval (pre ++ [⟨c, c0, c1⟩]) / b) (bval (pre ++ [⟨c, c0, c1⟩]) % b) _; rw [HF.out.1, HF.out.2, FF.out.1, FF.out.2]; exact s5⟩
  case done =>
    rintro D ys W hD ⟨hv, _⟩ hS hK
    rw [hv] at hS
    obtain ⟨_, q0, q1, _, _⟩ := id hS.pq
    obtain ⟨_, r0, r1, _, _⟩ := id hS.pr
    obtain ⟨_, c0, c1, c2, c3⟩ := id hS.p2
    obtain ⟨_, d0, d1, d2, d3⟩ := id hS.p3
    have hmx : Tryz.prog.follows .mixedOrders = true := by kernel_rfl
    have hLL := hS
    have HHS := Lib.hid hS
    clear hLL hS
    have HV := Lib.hid hv
    clear hv
    generalize gA : hiW (a / b) = A at *
    generalize gB : loW (a / b) = B at *
    generalize gC : hiW (a % b) = C at *
    generalize gD : loW (a % b) = D' at *
    have GG := Lib.hid (And.intro gA (And.intro gB (And.intro gC gD)))
    clear gA gB gC gD
    gi_wp2
    gi_region_with_o fail
    all_goals gi_wp2
    all_goals
      have P2 := (((HHS.out.p2.self2 (.int .u64 A) (.int .u64 B)).far2 (b' := w.heap.size + 1 + 1 + 1) (by omega) (.int .u64 C) (.int .u64 D'))).drew
      have P3 := ((HHS.out.p3.far2 (b' := w.heap.size + 1 + 1) (by omega) (.int .u64 A) (.int .u64 B)).self2 (.int .u64 C) (.int .u64 D')).drew
      have HB : Below w.heap.size w (((((W.setCell ⟨w.heap.size + 1 + 1, 0, none⟩ (.int .u64 A)).setCell ⟨w.heap.size + 1 + 1, 1, none⟩ (.int .u64 B)).setCell ⟨w.heap.size + 1 + 1 + 1, 0, none⟩ (.int .u64 C)).setCell ⟨w.heap.size + 1 + 1 + 1, 1, none⟩ (.int .u64 D')).drew) := ((((HHS.out.hb.setCell (p := ⟨w.heap.size + 1 + 1, 0, none⟩) (by show _ ≤ w.heap.size + 1 + 1; omega) (.int .u64 A)).setCell (p := ⟨w.heap.size + 1 + 1, 1, none⟩) (by show _ ≤ w.heap.size + 1 + 1; omega) (.int .u64 B)).setCell (p := ⟨w.heap.size + 1 + 1 + 1, 0, none⟩) (by show _ ≤ w.heap.size + 1 + 1 + 1; omega) (.int .u64 C)).setCell (p := ⟨w.heap.size + 1 + 1 + 1, 1, none⟩) (by show _ ≤ w.heap.size + 1 + 1 + 1; omega) (.int .u64 D')).drew
      have hK4 := (((((KeepsOthers.setCell W ⟨w.heap.size + 1 + 1, 0, none⟩ (.int .u64 A)).trans (KeepsOthers.setCell _ ⟨w.heap.size + 1 + 1, 1, none⟩ (.int .u64 B))).trans (KeepsOthers.setCell _ ⟨w.heap.size + 1 + 1 + 1, 0, none⟩ (.int .u64 C))).trans (KeepsOthers.setCell _ ⟨w.heap.size + 1 + 1 + 1, 1, none⟩ (.int .u64 D'))).trans (KeepsOthers.drew _)).same D _ hK rfl
      generalize ((((W.setCell ⟨w.heap.size + 1 + 1, 0, none⟩ (.int .u64 A)).setCell ⟨w.heap.size + 1 + 1, 1, none⟩ (.int .u64 B)).setCell ⟨w.heap.size + 1 + 1 + 1, 0, none⟩ (.int .u64 C)).setCell ⟨w.heap.size + 1 + 1 + 1, 1, none⟩ (.int .u64 D')).drew = W4 at *
      refine ⟨by simp, .inl ⟨_, _, rfl, run_takeDeferred hK4, ?_⟩⟩
      have P2' := pair_grown P2 (grownBy_putObj' _ D (.deferred none)) (fun r e => by cases e; exact ⟨_, hK4, rfl⟩)
      have P3' := pair_grown P3 (grownBy_putObj' _ D (.deferred none)) (fun r e => by cases e; exact ⟨_, hK4, rfl⟩)
      refine ⟨.tuple #[.agg #[.int .u64 A, .int .u64 B], .agg #[.int .u64 C, .int .u64 D']], ?_, ?_, HB.trans (belowK_b (w := w) (Nat.le_refl _) _ D _ _ (by omega) hK4 rfl rfl)⟩
      · simp [results, Tryz.results91, go_sem, P2'.c0, P2'.c1, P3'.c0, P3'.c1]
      · rw [← GG.out.1, ← GG.out.2.1, ← GG.out.2.2.1, ← GG.out.2.2.2]
  case stop =>
    rintro D c pre W _ _ h _
    exact h.elim
end Go.Proofs.YtlidicnbmfkghaaGreatDoor

/- One block, or two, of two cells of any type that a statement makes anywhere among its calls: what stands meanwhile, whatever else is kept. -/
namespace Go.Proofs.YtlidicnbmfkghaaGreatDoor
open Go.RowKit

/-- L: the blocks made so far, the last one first; u0, v0: what a new one holds. -/
structure PreG (lo : Nat) (K : World → Prop) (t : TypeId) (u0 v0 : Value) (W : World) (L : List Nat) : Prop where
  keep : KeptW lo K
  k : K W
  lt : lo < W.heap.size
  al : ∀ b ∈ L, Pair W b u0 v0
  ge : ∀ b ∈ L, lo < b
  nd : L.Nodup
/-- the block holds its number -/
structure OneG (lo : Nat) (K : World → Prop) (W : World) (g : Nat) (u v : Value) : Prop where
  keep : KeptW lo K
  k : K W
  bg : Pair W g u v
  gg : lo < g
/-- both blocks hold their numbers -/
structure TwoG (lo : Nat) (K : World → Prop) (W : World) (g h : Nat) (u v u' v' : Value) : Prop where
  keep : KeptW lo K
  k : K W
  bg : Pair W g u v
  bh : Pair W h u' v'
  gg : lo < g
  gh : lo < h
  ne : g ≠ h
section
variable {lo : Nat} {K : World → Prop} {t : TypeId} {u0 v0 : Value} {W W' : World} {L : List Nat} {g h : Nat} {u v u' v' : Value}
theorem PreG.below (s : PreG lo K t u0 v0 W L) (k : Below W.heap.size W W') : PreG lo K t u0 v0 W' L :=
  ⟨s.keep, s.keep.below _ _ s.k k, Nat.lt_of_lt_of_le s.lt k.size, fun b hb => (s.al b hb).below k, s.ge, s.nd⟩
theorem PreG.drew (s : PreG lo K t u0 v0 W L) : PreG lo K t u0 v0 W.drew L := s.below (Below.refl _ _).drew
theorem PreG.alloc1 (s : PreG lo K t u0 v0 W L) : PreG lo K t u0 v0 (W.alloc (.cells #[u0, v0] t)) (W.heap.size :: L) := by
  have s' := s.below (below_box W (.cells #[u0, v0] t))
  refine ⟨s.keep, s'.k, s'.lt, fun b hb => ?_, fun b hb => ?_, ?_⟩
  · rcases List.mem_cons.1 hb with rfl | hb
    · exact Pair.new _ _ _ _
    · exact s'.al b hb
  · rcases List.mem_cons.1 hb with rfl | hb
    · exact s.lt
    · exact s.ge b hb
  · refine List.nodup_cons.2 ⟨fun h => ?_, s.nd⟩
    have := (s.al _ h).lt
    omega
theorem PreG.alloc2 (s : PreG lo K t u0 v0 W L) : PreG lo K t u0 v0 ((W.alloc (.cells #[u0, v0] t)).alloc (.cells #[u0, v0] t)) ((W.heap.size + 1) :: W.heap.size :: L) := by
  have := s.alloc1.alloc1
  rwa [World.size_alloc] at this
theorem PreG.one1 (s : PreG lo K t u0 v0 W (g :: L)) (u v : Value) : OneG lo K ((W.setCell ⟨g, 0, none⟩ u).setCell ⟨g, 1, none⟩ v) g u v :=
  have bx := s.al g (List.mem_cons_self ..)
  ⟨s.keep, s.keep.set2 _ _ _ _ _ _ s.k bx (s.ge g (List.mem_cons_self ..)), bx.self2 _ _, s.ge g (List.mem_cons_self ..)⟩
theorem PreG.one2 (s : PreG lo K t u0 v0 W L) (u v : Value) : OneG lo K (W.alloc (.cells #[u, v] t)) W.heap.size u v :=
  ⟨s.keep, s.keep.below _ _ s.k (below_box _ _), Pair.new _ _ _ _, s.lt⟩
theorem PreG.fin1 (s : PreG lo K t u0 v0 W L) (hg : g ∈ L) (hh : h ∈ L) (ne : g ≠ h) (u v u' v' : Value) :
    TwoG lo K ((((W.setCell ⟨g, 0, none⟩ u).setCell ⟨g, 1, none⟩ v).setCell ⟨h, 0, none⟩ u').setCell ⟨h, 1, none⟩ v') g h u v u' v' :=
  have b1 := s.al g hg
  have b2 := (s.al h hh).far2 ne u v
  ⟨s.keep, s.keep.set2 _ _ _ _ _ _ (s.keep.set2 _ _ _ _ _ _ s.k b1 (s.ge g hg)) b2 (s.ge h hh), (b1.self2 u v).far2 (Ne.symm ne) u' v', b2.self2 u' v', s.ge g hg, s.ge h hh, ne⟩
theorem PreG.fin1a (s : PreG lo K t u0 v0 W [h, g]) (u v u' v' : Value) :
    TwoG lo K ((((W.setCell ⟨g, 0, none⟩ u).setCell ⟨g, 1, none⟩ v).setCell ⟨h, 0, none⟩ u').setCell ⟨h, 1, none⟩ v') g h u v u' v' :=
  s.fin1 (by simp) (by simp) (fun e => (List.nodup_cons.1 s.nd).1 (by simp [e])) u v u' v'
theorem PreG.fin1b (s : PreG lo K t u0 v0 W [g, h]) (u v u' v' : Value) :
    TwoG lo K ((((W.setCell ⟨g, 0, none⟩ u).setCell ⟨g, 1, none⟩ v).setCell ⟨h, 0, none⟩ u').setCell ⟨h, 1, none⟩ v') g h u v u' v' :=
  s.fin1 (by simp) (by simp) (fun e => (List.nodup_cons.1 s.nd).1 (by simp [e])) u v u' v'
theorem size_setp (W : World) (b : Nat) (u v : Value) : ((W.setCell ⟨b, 0, none⟩ u).setCell ⟨b, 1, none⟩ v).heap.size = W.heap.size := by simp [World.setCell]
theorem PreG.fin2a (s : PreG lo K t u0 v0 W [g]) (u v u' v' : Value) :
    TwoG lo K (((W.setCell ⟨g, 0, none⟩ u).setCell ⟨g, 1, none⟩ v).alloc (.cells #[u', v'] t)) g W.heap.size u v u' v' := by
  have bx := s.al g (by simp)
  have h1 := bx.lt
  have k := below_box ((W.setCell ⟨g, 0, none⟩ u).setCell ⟨g, 1, none⟩ v) (.cells #[u', v'] t)
  have nb := Pair.new ((W.setCell ⟨g, 0, none⟩ u).setCell ⟨g, 1, none⟩ v) u' v' t
  rw [size_setp] at nb
  exact ⟨s.keep, s.keep.below _ _ (s.keep.set2 _ _ _ _ _ _ s.k bx (s.ge g (by simp))) k, (bx.self2 _ _).below k, nb, s.ge g (by simp), s.lt, by omega⟩
theorem PreG.fin2b (s : PreG lo K t u0 v0 W [h]) (u v u' v' : Value) :
    TwoG lo K (((W.setCell ⟨h, 0, none⟩ u').setCell ⟨h, 1, none⟩ v').alloc (.cells #[u, v] t)) W.heap.size h u v u' v' := by
  have bx := s.al h (by simp)
  have h1 := bx.lt
  have k := below_box ((W.setCell ⟨h, 0, none⟩ u').setCell ⟨h, 1, none⟩ v') (.cells #[u, v] t)
  have nb := Pair.new ((W.setCell ⟨h, 0, none⟩ u').setCell ⟨h, 1, none⟩ v') u v t
  rw [size_setp] at nb
  exact ⟨s.keep, s.keep.below _ _ (s.keep.set2 _ _ _ _ _ _ s.k bx (s.ge h (by simp))) k, nb, (bx.self2 _ _).below k, s.lt, s.ge h (by simp), by omega⟩
theorem PreG.fin3a (s : PreG lo K t u0 v0 W L) (u v u' v' : Value) :
    TwoG lo K ((W.alloc (.cells #[u, v] t)).alloc (.cells #[u', v'] t)) W.heap.size (W.heap.size + 1) u v u' v' := by
  have k := below_thru (below_box W (.cells #[u, v] t)) (below_box _ (.cells #[u', v'] t))
  have n1 := (Pair.new W u v t).below (below_box _ (.cells #[u', v'] t))
  have n2 := Pair.new (W.alloc (.cells #[u, v] t)) u' v' t
  rw [World.size_alloc] at n2
  exact ⟨s.keep, s.keep.below _ _ s.k k, n1, n2, s.lt, by have := s.lt; omega, by omega⟩
theorem PreG.fin3b (s : PreG lo K t u0 v0 W L) (u v u' v' : Value) :
    TwoG lo K ((W.alloc (.cells #[u', v'] t)).alloc (.cells #[u, v] t)) (W.heap.size + 1) W.heap.size u v u' v' := by
  have k := below_thru (below_box W (.cells #[u', v'] t)) (below_box _ (.cells #[u, v] t))
  have n1 := (Pair.new W u' v' t).below (below_box _ (.cells #[u, v] t))
  have n2 := Pair.new (W.alloc (.cells #[u', v'] t)) u v t
  rw [World.size_alloc] at n2
  exact ⟨s.keep, s.keep.below _ _ s.k k, n2, n1, by have := s.lt; omega, s.lt, by omega⟩
end
/-- What holds behind such a statement: the variables point to the blocks. -/
def CutOne (lo : Nat) (K : World → Prop) (u v : Value) (x : Value) (W : World) : Prop := ∃ g, x = .pointer (some ⟨g, 0, none⟩) ∧ OneG lo K W g u v
def CutTwo (lo : Nat) (K : World → Prop) (u v u' v' : Value) (x x' : Value) (W : World) : Prop :=
  ∃ g h, x = .pointer (some ⟨g, 0, none⟩) ∧ x' = .pointer (some ⟨h, 0, none⟩) ∧ TwoG lo K W g h u v u' v'
/-- a block behind lo is none of those up to lo, nor is the one behind it -/
theorem behindG {lo b : Nat} (h : lo < b) {a : Nat} (ha : a ≤ lo) : b ≠ a ∧ b + 1 ≠ a := by omega
/-- at the head of such a statement -/
theorem PairsK.preG {w W : World} {L : List (Nat × Value × Value)} (h : PairsK w L W) (hlt : w.heap.size < W.heap.size) (t : TypeId) (u0 v0 : Value) :
    ∃ lo, PreG lo (PairsK w L) t u0 v0 W [] ∧ ∀ x ∈ L, x.1 ≤ lo :=
  ⟨W.heap.size - 1, ⟨PairsK.kept w L _ (fun x hx => by have := (h.al x hx).lt; omega) (by omega), h, by omega, (fun b h => by cases h), (fun b h => by cases h), List.nodup_nil⟩,
    fun x hx => by have := (h.al x hx).lt; omega⟩
end Go.Proofs.YtlidicnbmfkghaaGreatDoor
