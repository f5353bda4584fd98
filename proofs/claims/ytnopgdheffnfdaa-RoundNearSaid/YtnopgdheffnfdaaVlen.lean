/- How many bits a word has (math/bits): a number of bits that is enough. -/
import Derived.Test.YtnopgdheffnfdaaIn
import Derived.Below
import Derived.Lib.BitFns
import Derived.Lib.Strings
import Derived.Lib.Slices
import Derived.Lib.Small
import Derived.Lib.Walk
namespace Go.Proofs.Ytnopgdheffnfdaa
open Go.RowKit

/-- What a call leaves that answers a number of bits that is enough for x, at most m. -/
def RetLen (w : World) (m : Nat) (x : Int) (e : Ending) (w' : World) : Prop := ∃ n : Nat, e = .returned (.int .i64 n) ∧ n ≤ m ∧ x < 2 ^ n ∧ Below w.heap.size w w'

theorem tab_fin : ∀ n : Fin 256, (0 ≤ Lib.len8 (n.val : Int) ∧ Lib.len8 (n.val : Int) ≤ 8) ∧ n.val < 2 ^ (Lib.len8 (n.val : Int)).toNat := by decide +kernel
theorem tab (b : Int) (h0 : 0 ≤ b) (h1 : b ≤ 255) : ∃ n : Nat, Lib.len8 b = n ∧ n ≤ 8 ∧ b < 2 ^ n := by
  obtain ⟨⟨t1, t2⟩, t3⟩ := tab_fin ⟨b.toNat, by omega⟩
  simp only [Int.toNat_of_nonneg h0] at t1 t2 t3
  refine ⟨(Lib.len8 b).toNat, by omega, by omega, ?_⟩
  have h : b = (b.toNat : Int) := by omega
  rw [h]
  exact_mod_cast t3
theorem up_pow {x : Int} {k n : Nat} (h : x / 2 ^ k < 2 ^ n) : x < 2 ^ (k + n) := by
  have hk : (0 : Int) < 2 ^ k := Int.pow_pos (by decide)
  rw [Int.pow_add, Int.mul_comm]
  exact Int.lt_mul_of_ediv_lt hk h
theorem len_sum (k : Nat) (y : Int) (h0 : 0 ≤ y) (h1 : y < 256) (hk : k ≤ 56) : wrap64 (k + wrap64 (Lib.len8 y)) = k + Lib.len8 y := by
  obtain ⟨n, e, h, _⟩ := tab y h0 (by omega)
  rw [e]; unfold wrap64; omega
theorem len_ret {w : World} {x y : Int} (k : Nat) (_ : 0 ≤ x) (hk : k ≤ 56) (hy0 : 0 ≤ y) (hy : y ≤ 255) (hxy : x / 2 ^ k = y) (v : Int) (hv : v = k + Lib.len8 y) : RetLen w 64 x (.returned (.int .i64 v)) w := by
  obtain ⟨n, e, h1, h2⟩ := tab y hy0 hy
  refine ⟨k + n, by rw [hv, e]; rfl, by omega, up_pow (by rw [hxy]; exact h2), Below.refl _ _⟩

theorem run_tab (P : Program) (w : World) (t : TypeId) (k : IntKind) (i : Int) (h : P.underlying t = some .string) (h0 : 0 ≤ i) (h1 : i < 256) :
    (Instr.index t (.string Lib.len8tab) (.int k i)).run P w = .ok (.int .u8 (Lib.len8 i)) w := Lib.run_index_len8tab w t k i h h0 (by omega)
attribute [local go_sem high] run_tab
set_option maxHeartbeats 4000000 in
set_option maxRecDepth 100000 in
theorem len64_any (x : Int) (w : World) (h0 : 0 ≤ x) (h1 : x ≤ 18446744073709551615) : Calls Try.prog 75 #[.int .u64 x] w (RetLen w 64 x) := by
  by_cases p : 4294967296 ≤ x
  · by_cases q : 65536 ≤ x / 4294967296
    · by_cases r : 256 ≤ x / 4294967296 / 65536
      · have c0 : 0 ≤ x / 4294967296 / 65536 / 256 := by omega
        have c1 : x / 4294967296 / 65536 / 256 < 256 := by omega
        go_enter Try.func75, Try.ntmps75
        go_wp2
        go_ret
        exact len_ret 56 h0 (by omega) (by omega) (by omega) (by omega) _ (len_sum 56 _ c0 c1 (by omega))
      · have c0 : 0 ≤ x / 4294967296 / 65536 := by omega
        have c1 : x / 4294967296 / 65536 < 256 := by omega
        go_enter Try.func75, Try.ntmps75
        go_wp2
        go_ret
        exact len_ret 48 h0 (by omega) (by omega) (by omega) (by omega) _ (len_sum 48 _ c0 c1 (by omega))
    · by_cases r : 256 ≤ x / 4294967296
      · have c0 : 0 ≤ x / 4294967296 / 256 := by omega
        have c1 : x / 4294967296 / 256 < 256 := by omega
        go_enter Try.func75, Try.ntmps75
        go_wp2
        go_ret
        exact len_ret 40 h0 (by omega) (by omega) (by omega) (by omega) _ (len_sum 40 _ c0 c1 (by omega))
      · have c0 : 0 ≤ x / 4294967296 := by omega
        have c1 : x / 4294967296 < 256 := by omega
        go_enter Try.func75, Try.ntmps75
        go_wp2
        go_ret
        exact len_ret 32 h0 (by omega) (by omega) (by omega) (by omega) _ (len_sum 32 _ c0 c1 (by omega))
  · by_cases q : 65536 ≤ x
    · by_cases r : 256 ≤ x / 65536
      · have c0 : 0 ≤ x / 65536 / 256 := by omega
        have c1 : x / 65536 / 256 < 256 := by omega
        go_enter Try.func75, Try.ntmps75
        go_wp2
        go_ret
        exact len_ret 24 h0 (by omega) (by omega) (by omega) (by omega) _ (len_sum 24 _ c0 c1 (by omega))
      · have c0 : 0 ≤ x / 65536 := by omega
        have c1 : x / 65536 < 256 := by omega
        go_enter Try.func75, Try.ntmps75
        go_wp2
        go_ret
        exact len_ret 16 h0 (by omega) (by omega) (by omega) (by omega) _ (len_sum 16 _ c0 c1 (by omega))
    · by_cases r : 256 ≤ x
      · have c0 : 0 ≤ x / 256 := by omega
        have c1 : x / 256 < 256 := by omega
        go_enter Try.func75, Try.ntmps75
        go_wp2
        go_ret
        exact len_ret 8 h0 (by omega) (by omega) (by omega) (by omega) _ (len_sum 8 _ c0 c1 (by omega))
      · have c0 : 0 ≤ x := by omega
        have c1 : x < 256 := by omega
        go_enter Try.func75, Try.ntmps75
        go_wp2
        go_ret
        exact len_ret 0 h0 (by omega) (by omega) (by omega) (by omega) _ (by have e := len_sum 0 x c0 c1 (by omega); rwa [show ((0 : Nat) : Int) + wrap64 (Lib.len8 x) = wrap64 (Lib.len8 x) from by omega] at e)
end Go.Proofs.Ytnopgdheffnfdaa
