/- What package wide's scaled, Mul and Times answer. -/
import Derived.Test.YtlidicnbmfkghaaGreatDoorGx
import Derived.Test.YtlidicnbmfkghaaGreatDoorWbits
import Derived.Test.YtlidicnbmfkghaaGreatDoorGw
import Derived.Deep.DeepCutAuto
namespace Go.Proofs.YtlidicnbmfkghaaGreatDoor
open Go.RowKit

/-- how great a product can be -/
theorem prod_bounds {u n : Int} (h0 : 0 ≤ u) (h1 : u ≤ 18446744073709551615) (hn : In64 n) :
    -170141183460469231722463931679029329920 ≤ u * n ∧ u * n ≤ 170141183460469231704017187605319778305 := by
  unfold In64 at hn
  have k1 : u * n ≤ u * 9223372036854775807 := Int.mul_le_mul_of_nonneg_left hn.2 h0
  have k2 : u * (-9223372036854775808) ≤ u * n := Int.mul_le_mul_of_nonneg_left hn.1 h0
  omega

set_option maxRecDepth 100000 in
theorem wideScaled (u n : Int) (h0 : 0 ≤ u) (h1 : u ≤ 18446744073709551615) (hn : In64 n) (w : World) :
    Calls Tryz.prog 63 #[.int .u64 u, .int .i64 n] w (RetW w (u * n)) := by
  obtain ⟨b1, b2⟩ := prod_bounds h0 h1 hn
  have hw : IntKind.u64.wrap n = if n < 0 then n + 18446744073709551616 else n := by rw [IntKind.wrap_u64]; unfold In64 at hn; split <;> omega
  unfold In64 at hn
  by_cases h : n < 0
  · rw [if_pos h] at hw
    have M := fun W => mul64_any u (n + 18446744073709551616) h0 h1 (by omega) (by omega) W
    rw [Int.mul_add] at M
    generalize u * n = p at *
    have e1 : wrap64 (IntKind.u64.wrap ((p + u * 18446744073709551616) / 18446744073709551616 - u)) = hiW p := by
      rw [IntKind.wrap_u64]; unfold wrap64 hiW; omega
    have e2 : (p + u * 18446744073709551616) % 18446744073709551616 = loW p := by unfold loW; omega
    rw [e2] at M
    clear e2 b1 b2
    go_enter Tryz.func63, Tryz.ntmps63
    go_wp2_with (go_at_call 88; refine (M _).mono ?_; rintro e w' ⟨rfl, rfl⟩)
    exact bodyPost_ret (v := .agg #[.int .i64 (hiW p), .int .u64 (loW p)]) (by simp [results, Tryz.results63, go_sem]) rfl ⟨rfl, below_box _ _⟩
  · rw [if_neg h] at hw
    have M := fun W => mul64_any u n h0 h1 (by omega) (by omega) W
    generalize u * n = p at *
    have e1 : wrap64 (p / 18446744073709551616) = hiW p := by unfold wrap64 hiW; omega
    have e2 : p % 18446744073709551616 = loW p := rfl
    rw [e2] at M
    clear e2 b1 b2
    go_enter Tryz.func63, Tryz.ntmps63
    go_wp2_with (go_at_call 88; refine (M _).mono ?_; rintro e w' ⟨rfl, rfl⟩)
    exact bodyPost_ret (v := .agg #[.int .i64 (hiW p), .int .u64 (loW p)]) (by simp [results, Tryz.results63, go_sem]) rfl ⟨rfl, below_box _ _⟩

theorem prod64_wide {a b : Int} (ha : In64 a) (hb : In64 b) : InW (a * b) := by
  have k : (a * b).natAbs ≤ 9223372036854775808 * 9223372036854775808 := by
    rw [Int.natAbs_mul]
    unfold In64 at ha hb
    exact Nat.mul_le_mul (by omega) (by omega)
  unfold InW two127
  omega

set_option maxRecDepth 100000 in
theorem wideMul (a b : Int) (ha : In64 a) (hb : In64 b) (w : World) :
    Calls Tryz.prog 31 #[.int .i64 a, .int .i64 b] w (RetW w (a * b)) := by
  have hp := prod64_wide ha hb
  have hw : IntKind.u64.wrap a = if a < 0 then a + 18446744073709551616 else a := by rw [IntKind.wrap_u64]; unfold In64 at ha; split <;> omega
  by_cases h : a < 0
  · rw [if_pos h] at hw
    have M := fun W => wideScaled (a + 18446744073709551616) b (by unfold In64 at ha; omega) (by omega) hb W
    rw [Int.add_mul] at M
    generalize a * b = p at *
    have e1 : wrap64 (hiW (p + 18446744073709551616 * b) - b) = hiW p := by
      unfold InW two127 at hp
      unfold wrap64 hiW; omega
    have e2 : loW (p + 18446744073709551616 * b) = loW p := by unfold loW; omega
    clear hp
    generalize p + 18446744073709551616 * b = z at *
    go_enter Tryz.func31, Tryz.ntmps31
    go_wp2_with fail
    have P0 := Pair.new w (.int .i64 0) (.int .u64 0) 45
    have HB := below_box w (.cells #[.int .i64 0, .int .u64 0] 45)
    generalize w.alloc (.cells #[.int .i64 0, .int .u64 0] 45) = w0 at *
    refine (M _).mono ?_
    rintro e w1 ⟨rfl, k⟩
    replace HB := below_thru HB k
    replace P0 := P0.below k
    clear k
    obtain ⟨hlt, d0, d1, f0, f1⟩ := id P0
    go_wp2
    have P2 := (P0.self2 (.int .i64 (hiW p)) (.int .u64 (loW p))).below (below_box _ (.cells #[.int .i64 (hiW p), .int .u64 (loW p)] 45))
    have HB3 := below_thru ((HB.setCell (p := ⟨w.heap.size, 0, none⟩) (Nat.le_refl _) (.int .i64 (hiW p))).setCell (p := ⟨w.heap.size, 1, none⟩) (Nat.le_refl _) (.int .u64 (loW p))) (below_box _ (.cells #[.int .i64 (hiW p), .int .u64 (loW p)] 45))
    exact bodyPost_ret (v := .agg #[.int .i64 (hiW p), .int .u64 (loW p)]) (by simp [results, Tryz.results31, go_sem, P2.c0, P2.c1]) rfl ⟨rfl, HB3⟩
  · rw [if_neg h] at hw
    have M := fun W => wideScaled a b (by omega) (by unfold In64 at ha; omega) hb W
    generalize a * b = p at *
    clear hp
    go_enter Tryz.func31, Tryz.ntmps31
    go_wp2_with fail
    have P0 := Pair.new w (.int .i64 0) (.int .u64 0) 45
    have HB := below_box w (.cells #[.int .i64 0, .int .u64 0] 45)
    generalize w.alloc (.cells #[.int .i64 0, .int .u64 0] 45) = w0 at *
    refine (M _).mono ?_
    rintro e w1 ⟨rfl, k⟩
    replace HB := below_thru HB k
    replace P0 := P0.below k
    clear k
    obtain ⟨hlt, d0, d1, f0, f1⟩ := id P0
    go_wp2
    have P2 := (P0.self2 (.int .i64 (hiW p)) (.int .u64 (loW p))).below (below_box _ (.cells #[.int .i64 (hiW p), .int .u64 (loW p)] 45))
    have HB3 := below_thru ((HB.setCell (p := ⟨w.heap.size, 0, none⟩) (Nat.le_refl _) (.int .i64 (hiW p))).setCell (p := ⟨w.heap.size, 1, none⟩) (Nat.le_refl _) (.int .u64 (loW p))) (below_box _ (.cells #[.int .i64 (hiW p), .int .u64 (loW p)] 45))
    exact bodyPost_ret (v := .agg #[.int .i64 (hiW p), .int .u64 (loW p)]) (by simp [results, Tryz.results31, go_sem, P2.c0, P2.c1]) rfl ⟨rfl, HB3⟩

/-- how a product's halves come of the halves' products -/
theorem times_halves (z n : Int) : hiW (z * n) = hiW z * n + hiW (loW z * n) ∧ loW (z * n) = loW (loW z * n) := by
  have e : z * n = hiW z * n * 18446744073709551616 + loW z * n := by
    have h : z = hiW z * 18446744073709551616 + loW z := by unfold hiW loW; omega
    have h2 : (hiW z * 18446744073709551616 + loW z) * n = hiW z * n * 18446744073709551616 + loW z * n := by
      rw [Int.add_mul, Int.mul_right_comm]
    rw [← h] at h2
    exact h2
  rw [e]
  generalize hiW z * n = x
  generalize loW z * n = y
  unfold hiW loW
  omega
theorem inW_hi (x : Int) : InW x ↔ In64 (hiW x) := by unfold InW two127 In64 hiW; omega

/-- What Times keeps: its number, its answer's block, the lower product's block, and what was there before. -/
structure TimK (w : World) (z y : Int) (b : Nat) (W : World) : Prop where
  z : Pair W w.heap.size (.int .i64 (hiW z)) (.int .u64 (loW z))
  p : Pair W (w.heap.size + 1) (.int .i64 0) (.int .u64 0)
  l : Pair W b (.int .i64 (hiW y)) (.int .u64 (loW y))
  b : Below w.heap.size w W
theorem TimK.kept (w : World) (z p : Int) (b : Nat) (hb : w.heap.size + 1 < b) : KeptW b (TimK w z p b) :=
  ⟨fun _ _ h k => ⟨h.z.below k, h.p.below k, h.l.below k, below_thru h.b k⟩,
   fun W c u v u' v' h _ hlt => ⟨h.z.far2 (by omega) _ _, h.p.far2 (by omega) _ _, h.l.far2 (by omega) _ _, (h.b.setCell (p := ⟨c, 0, none⟩) (by show _ ≤ c; omega) _).setCell (p := ⟨c, 1, none⟩) (by show _ ≤ c; omega) _⟩⟩

end Go.Proofs.YtlidicnbmfkghaaGreatDoor
