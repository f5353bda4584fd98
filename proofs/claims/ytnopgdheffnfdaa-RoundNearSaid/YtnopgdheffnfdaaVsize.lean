/- Package divide's calls on sizes (numbers without a sign, in two halves): bits, doubling, comparing, taking away. -/
import Derived.Test.YtnopgdheffnfdaaVlen
import Derived.Test.YtnopgdheffnfdaaWadd
namespace Go.Proofs.Ytnopgdheffnfdaa
open Go.RowKit

/-- a size -/
def InS (s : Int) : Prop := 0 ≤ s ∧ s < 340282366920938463463374607431768211456
/-- What a call that answers a size leaves. -/
def RetSz (w : World) (s : Int) (e : Ending) (w' : World) : Prop := e = .returned (.agg #[.int .u64 (hiW s), .int .u64 (loW s)]) ∧ Below w.heap.size w w'
theorem halfs {s : Int} (h : InS s) : 0 ≤ hiW s ∧ hiW s ≤ 18446744073709551615 ∧ 0 ≤ loW s ∧ loW s ≤ 18446744073709551615 ∧ s = hiW s * 18446744073709551616 + loW s := by
  unfold InS at h
  unfold hiW loW
  omega
theorem of_halfs {hi lo s : Int} (h : s = hi * 18446744073709551616 + lo) (h2 : 0 ≤ lo) (h3 : lo ≤ 18446744073709551615) : hiW s = hi ∧ loW s = lo := by
  unfold hiW loW
  omega

theorem RetLen.below {w w0 : World} {m : Nat} {x : Int} {e : Ending} {w' : World} (h : RetLen w m x e w') (hb : Below w0.heap.size w0 w) : RetLen w0 m x e w' := by
  obtain ⟨n, h1, h2, h3, h4⟩ := h
  exact ⟨n, h1, h2, h3, below_thru hb h4⟩
theorem len_hi {h l : Int} {n : Nat} (h1 : h < 2 ^ n) (hl : l ≤ 18446744073709551615) : h * 18446744073709551616 + l < 2 ^ (64 + n) := by
  rw [Int.pow_add]
  generalize (2 : Int) ^ n = p at *
  rw [show (2 : Int) ^ 64 = 18446744073709551616 from by decide]
  omega

set_option maxRecDepth 100000 in
theorem length_any (s : Int) (hs : InS s) (w : World) : Calls Try.prog 72 #[.agg #[.int .u64 (hiW s), .int .u64 (loW s)]] w (RetLen w 128 s) := by
  obtain ⟨h0, h1, l0, l1, es⟩ := halfs hs
  have ES := Lib.hid es
  clear es hs
  have HB := below_box w (.cells #[.int .u64 (hiW s), .int .u64 (loW s)] 74)
  generalize hiW s = h at *
  generalize loW s = l at *
  by_cases hz : h = 0
  · subst hz
    go_enter Try.func72, Try.ntmps72
    go_wp2_with (go_at_call 75; (with_reducible refine (len64_any _ _ l0 l1).mono ?_); rintro e w' ⟨n, rfl, hn, hx, hb⟩)
    go_ret
    exact ⟨n, rfl, by omega, by rw [ES.out]; omega, below_thru HB hb⟩
  · have hz' : (h == 0) = false := by rw [beq_eq_false_iff_ne]; exact hz
    go_enter Try.func72, Try.ntmps72
    go_wp2_with (go_at_call 75; (with_reducible refine (len64_any _ _ h0 h1).mono ?_); rintro e w' ⟨n, rfl, hn, hx, hb⟩)
    go_ret
    exact ⟨64 + n, rfl, by omega, by rw [ES.out]; exact len_hi hx l1, below_thru HB hb⟩

theorem and_one (y : Int) (h0 : 0 ≤ y) (h1 : y ≤ 18446744073709551615) : bits .and .u64 y 1 = y % 2 := by
  obtain ⟨y, rfl⟩ := Int.eq_ofNat_of_zero_le h0
  have := bits_and_u64_nat y 1 (by omega) (by omega)
  rw [Nat.and_one_is_mod] at this
  exact_mod_cast this
theorem bit_lo (s : Int) (n : Nat) (hn : n < 64) : loW s / 2 ^ n % 2 = s / 2 ^ n % 2 := by
  have hp : (0 : Int) < 2 ^ n := Int.pow_pos (by decide)
  have e : s = loW s + 2 ^ n * (2 * (2 ^ (63 - n) * hiW s)) := by
    rw [show (2 : Int) ^ n * (2 * (2 ^ (63 - n) * hiW s)) = (2 ^ n * 2 ^ (63 - n)) * (2 * hiW s) by rw [Int.mul_assoc, ← Int.mul_assoc 2 (2 ^ (63 - n)) (hiW s), Int.mul_comm 2 (2 ^ (63 - n)), Int.mul_assoc], ← Int.pow_add, show n + (63 - n) = 63 by omega, show (2 : Int) ^ 63 = 9223372036854775808 by decide]
    unfold loW hiW; omega
  generalize hl : loW s = l at *
  generalize 2 ^ (63 - n) * hiW s = k at *
  rw [e, Int.add_mul_ediv_left _ _ (by omega)]
  omega
theorem bit_hi (s : Int) (n : Nat) (hn : 64 ≤ n) : hiW s / 2 ^ (n - 64) % 2 = s / 2 ^ n % 2 := by
  unfold hiW
  rw [Int.ediv_ediv_of_nonneg (by decide), show (18446744073709551616 : Int) = 2 ^ 64 by decide, ← Int.pow_add, show 64 + (n - 64) = n by omega]
theorem div_le (y p : Int) (h0 : 0 ≤ y) (h1 : y ≤ 18446744073709551615) (hp : 0 < p) : 0 ≤ y / p ∧ y / p ≤ 18446744073709551615 :=
  ⟨Int.ediv_nonneg h0 (by omega), Int.le_trans (Int.ediv_le_self _ h0) h1⟩

set_option maxRecDepth 100000 in
theorem bitAt_any (s : Int) (n : Nat) (hs : InS s) (hn : n < 128) (w : World) : Calls Try.prog 73 #[.agg #[.int .u64 (hiW s), .int .u64 (loW s)], .int .i64 n] w (RetV w (.int .u64 (s / 2 ^ n % 2))) := by
  obtain ⟨h0, h1, l0, l1, _⟩ := halfs hs
  have HB := below_box w (.cells #[.int .u64 (hiW s), .int .u64 (loW s)] 74)
  by_cases h : 64 ≤ n
  · have E := Lib.hid (bit_hi s n h)
    have b := div_le (hiW s) (2 ^ (n - 64)) h0 h1 (Int.pow_pos (by decide))
    have F := Lib.hid (and_one _ b.1 b.2)
    have h' : (64 : Int) ≤ n := by omega
    clear hs b
    generalize hiW s = x at *
    generalize loW s = y at *
    go_enter Try.func73, Try.ntmps73
    go_wp2
    go_ret
    exact ⟨by rw [← E.out, ← F.out]; rfl, HB⟩
  · have E := Lib.hid (bit_lo s n (by omega))
    have b := div_le (loW s) (2 ^ n) l0 l1 (Int.pow_pos (by decide))
    have F := Lib.hid (and_one _ b.1 b.2)
    have h' : (n : Int) < 64 := by omega
    clear hs b
    generalize hiW s = x at *
    generalize loW s = y at *
    go_enter Try.func73, Try.ntmps73
    go_wp2
    go_ret
    exact ⟨by rw [← E.out, ← F.out]; rfl, HB⟩

theorem or_bit (a b : Int) (h0 : 0 ≤ a) (h1 : a % 2 = 0) (h2 : a ≤ 18446744073709551614) (b0 : 0 ≤ b) (b1 : b ≤ 1) : bits .or .u64 a b = a + b := by
  obtain ⟨a, rfl⟩ := Int.eq_ofNat_of_zero_le h0
  obtain ⟨b, rfl⟩ := Int.eq_ofNat_of_zero_le b0
  have := bits_or_disj a b 1 (by omega) (by omega) (by omega)
  rw [this]; rfl
set_option maxRecDepth 100000 in
theorem twice_any (s b : Int) (hs : InS s) (hs2 : InS (2 * s + b)) (b0 : 0 ≤ b) (b1 : b ≤ 1) (w : World) : Calls Try.prog 68 #[.agg #[.int .u64 (hiW s), .int .u64 (loW s)], .int .u64 b] w (RetSz w (2 * s + b)) := by
  obtain ⟨h0, h1, l0, l1, es⟩ := halfs hs
  unfold InS at hs2
  obtain ⟨e1, e2⟩ : hiW (2 * s + b) = 2 * hiW s + loW s / 9223372036854775808 ∧ loW (2 * s + b) = (loW s * 2) % 18446744073709551616 + b := of_halfs (by omega) (by omega) (by omega)
  have w1 : IntKind.u64.wrap (hiW s * 2) = hiW s * 2 := by rw [IntKind.wrap_u64]; omega
  have w2 : IntKind.u64.wrap (loW s * 2) = loW s * 2 % 18446744073709551616 := IntKind.wrap_u64 _
  have F1 := Lib.hid (show bits .or .u64 (IntKind.u64.wrap (hiW s * 2)) (loW s / 9223372036854775808) = hiW (2 * s + b) by rw [w1, or_bit _ _ (by omega) (by omega) (by omega) (by omega) (by omega)]; omega)
  have F2 := Lib.hid (show bits .or .u64 (IntKind.u64.wrap (loW s * 2)) b = loW (2 * s + b) by rw [w2, or_bit _ _ (by omega) (by omega) (by omega) (by omega) (by omega)]; omega)
  clear w1 w2 es hs2 hs e1 e2
  have HB := fun u v => below_thru (below_box w (.cells #[.int .u64 (hiW s), .int .u64 (loW s)] 74)) (below_box _ (.cells #[.int .u64 u, .int .u64 v] 74))
  generalize gH : hiW (2 * s + b) = H at *
  generalize gL : loW (2 * s + b) = L at *
  have GH := Lib.hid gH
  have GL := Lib.hid gL
  clear gH gL
  generalize hiW s = x at *
  generalize loW s = y at *
  have HB2 := Lib.hid HB
  clear HB
  go_enter Try.func68, Try.ntmps68
  go_wp2
  exact bodyPost_ret (v := .agg #[.int .u64 (bits .or .u64 (IntKind.u64.wrap (x * 2)) (y / 9223372036854775808)), .int .u64 (bits .or .u64 (IntKind.u64.wrap (y * 2)) b)]) (by simp [results, Try.results68, go_sem]) rfl ⟨by rw [F1.out, F2.out, GH.out, GL.out], HB2.out _ _⟩

theorem ord_less (a b : Int) (h : ord a b < 0 ↔ a < b) : decide (ord a b < 0) = decide (a < b) := by simp [h]
theorem ord_iff (a b : Int) : ord a b < 0 ↔ a < b := by
  rcases Int.lt_trichotomy a b with h | h | h
  · rw [ord_lt h]; constructor <;> intro <;> omega
  · rw [ord_eq h]; constructor <;> intro <;> omega
  · rw [ord_gt h]; constructor <;> intro <;> omega
set_option maxRecDepth 100000 in
theorem less_any (a b : Int) (ha : InS a) (hb : InS b) (w : World) : Calls Try.prog 69 #[.agg #[.int .u64 (hiW a), .int .u64 (loW a)], .agg #[.int .u64 (hiW b), .int .u64 (loW b)]] w (RetV w (.bool (decide (a < b)))) := by
  have HB := below_thru (below_box w (.cells #[.int .u64 (hiW a), .int .u64 (loW a)] 74)) (below_box _ (.cells #[.int .u64 (hiW b), .int .u64 (loW b)] 74))
  obtain ⟨h0, h1, l0, l1, es⟩ := halfs ha
  obtain ⟨k0, k1, m0, m1, fs⟩ := halfs hb
  by_cases h : hiW a = hiW b
  · have E := Lib.hid (show decide (a < b) = decide (loW a < loW b) by congr 1; apply propext; constructor <;> intro <;> omega)
    have O := Lib.hid (ord_eq h)
    clear es fs h
    generalize hiW a = x at *
    generalize hiW b = y at *
    generalize loW a = u at *
    generalize loW b = v at *
    go_enter Try.func69, Try.ntmps69
    go_wp2_with (go_at_call 44; refine (compare_u64 _ _ _).mono ?_; rintro e w' ⟨rfl, rfl⟩; rw [O.out])
    go_ret
    exact ⟨by rw [E.out]; rfl, HB⟩
  · have E := Lib.hid (show decide (a < b) = decide (ord (hiW a) (hiW b) < 0) by rw [ord_less _ _ (ord_iff _ _)]; congr 1; apply propext; constructor <;> intro <;> omega)
    have n0 : ¬ ord (hiW a) (hiW b) = 0 := by rcases Int.lt_trichotomy (hiW a) (hiW b) with h | h' | h; rw [ord_lt h]; decide; exact absurd h' h; rw [ord_gt h]; decide
    have n1 : (ord (hiW a) (hiW b) == 0) = false := by rw [beq_eq_false_iff_ne]; exact n0
    clear es fs h
    go_enter Try.func69, Try.ntmps69
    go_wp2_with (go_at_call 44; refine (compare_u64 _ _ _).mono ?_; rintro e w' ⟨rfl, rfl⟩)
    go_ret
    exact ⟨by rw [E.out]; rfl, HB⟩

set_option maxRecDepth 100000 in
theorem without_any (a b : Int) (ha : InS a) (hb : InS b) (hab : b ≤ a) (w : World) : Calls Try.prog 70 #[.agg #[.int .u64 (hiW a), .int .u64 (loW a)], .agg #[.int .u64 (hiW b), .int .u64 (loW b)]] w (RetSz w (a - b)) := by
  have HB := fun u v => below_thru (below_thru (below_box w (.cells #[.int .u64 (hiW a), .int .u64 (loW a)] 74)) (below_box _ (.cells #[.int .u64 (hiW b), .int .u64 (loW b)] 74))) (below_box _ (.cells #[.int .u64 u, .int .u64 v] 74))
  have HB2 := Lib.hid HB
  clear HB
  obtain ⟨h0, h1, l0, l1, es⟩ := halfs ha
  obtain ⟨k0, k1, m0, m1, fs⟩ := halfs hb
  obtain ⟨c, hc, c0, c1, c2⟩ : ∃ c : Int, c = bor (loW a) (loW b) ∧ 0 ≤ c ∧ c ≤ 1 ∧ (c = if loW a < loW b then 1 else 0) := ⟨_, rfl, by unfold bor; split <;> omega, by unfold bor; split <;> omega, rfl⟩
  have A1 : ∀ W, (callFunc 74 #[.int .u64 (loW a), .int .u64 (loW b), .int .u64 0]).run Try.prog W = .ok (.value (.tuple #[.int .u64 (loW (a - b)), .int .u64 c])) W := fun W => by
    rw [sub64_0 _ _ l0 m0 (by omega), ← hc]
    have : loW (a - b) = (loW a - loW b) % 18446744073709551616 := by unfold loW; omega
    rw [this]
  have A2 : ∀ W, (callFunc 74 #[.int .u64 (hiW a), .int .u64 (hiW b), .int .u64 c]).run Try.prog W = .ok (.value (.tuple #[.int .u64 (hiW (a - b)), .int .u64 (bor (hiW a) (hiW b + c))])) W := fun W => by
    rw [sub64 _ _ _ h0 k0 (by omega) c0 c1]
    have : hiW (a - b) = (hiW a - hiW b - c) % 18446744073709551616 := by
      have e : hiW (a - b) = hiW a - hiW b - c := (of_halfs (lo := loW a - loW b + c * 18446744073709551616) (by omega) (by split at c2 <;> omega) (by split at c2 <;> omega)).1
      have : 0 ≤ hiW (a - b) ∧ hiW (a - b) ≤ 18446744073709551615 := ⟨(halfs (s := a - b) ⟨by omega, by have := ha.2; have := hb.1; omega⟩).1, (halfs (s := a - b) ⟨by omega, by have := ha.2; have := hb.1; omega⟩).2.1⟩
      omega
    rw [this]
  clear es fs hc c2 ha hb hab
  generalize bor (hiW a) (hiW b + c) = d at *
  generalize gH : hiW (a - b) = H at *
  generalize gL : loW (a - b) = L at *
  have GH := Lib.hid gH
  have GL := Lib.hid gL
  clear gH gL
  generalize hiW a = x at *
  generalize hiW b = y at *
  generalize loW a = u at *
  generalize loW b = v at *
  go_enter Try.func70, Try.ntmps70
  go_wp2_with (first | simp only [A1] | simp only [A2])
  exact bodyPost_ret (v := .agg #[.int .u64 H, .int .u64 L]) (by simp [results, Try.results70, go_sem]) rfl ⟨by rw [GH.out, GL.out], HB2.out _ _⟩
end Go.Proofs.Ytnopgdheffnfdaa
