/- What the calls of package check answer, as plain numbers: each call, at any two numbers of 64 bits, returns the exact result where it has room and the error's number where it has none, and leaves memory as it was. -/
import Derived.Test.YthfnhnhoglhncaaRows
import Derived.WalkKit
import Derived.ProofKit
import Derived.OpenShut
import Derived.IntWalk
import Derived.Lib.Hide
import Derived.Deep.QuietTactic
import Derived.BigQuiet
import Derived.RegionTactic
import Derived.Outline
namespace Go.Proofs.Ythfnhnhoglhncaa
open Go.RowKit

/-- a number of 64 bits -/
def In64 (x : Int) : Prop := -9223372036854775808 ≤ x ∧ x ≤ 9223372036854775807
instance (x : Int) : Decidable (In64 x) := by unfold In64; infer_instance
theorem in64 {x : Int} (h : (Lit.int .i64 x).wf = true) : In64 x := by
  exact bounds_i64 h

theorem add_ok (a b : Int) (h : In64 (a + b)) (w : World) :
    Calls Try.prog 10 #[.int .i64 a, .int .i64 b] w fun e w' => e = .returned (.tuple #[.int .i64 (a + b), .int .i64 0]) ∧ w = w' := by
  unfold In64 at h
  by_cases hn : b < 0
  · have h1 : a + b < a := by omega
    go_enter Try.func10, Try.ntmps10
    go_wp2
    go_ret2
    exact ⟨rfl, rfl⟩
  · have h1 : ¬ (a + b < a) := by omega
    go_enter Try.func10, Try.ntmps10
    go_wp2
    go_ret2
    exact ⟨rfl, rfl⟩

theorem add_over (a b : Int) (ha : In64 a) (hb : In64 b) (h : ¬ In64 (a + b)) (w : World) :
    Calls Try.prog 10 #[.int .i64 a, .int .i64 b] w fun e w' => e = .returned (.tuple #[.int .i64 0, .int .i64 2]) ∧ w = w' := by
  unfold In64 at ha hb h
  by_cases hn : b < 0
  · have h1 : ¬ (wrap64 (a + b) < a) := by unfold wrap64; omega
    clear ha hb h
    go_enter Try.func10, Try.ntmps10
    go_wp2
    go_ret2
    exact ⟨rfl, rfl⟩
  · have h1 : wrap64 (a + b) < a := by unfold wrap64; omega
    clear ha hb h
    go_enter Try.func10, Try.ntmps10
    go_wp2
    go_ret2
    exact ⟨rfl, rfl⟩

theorem sub_ok (a b : Int) (h : In64 (a - b)) (w : World) :
    Calls Try.prog 14 #[.int .i64 a, .int .i64 b] w fun e w' => e = .returned (.tuple #[.int .i64 (a - b), .int .i64 0]) ∧ w = w' := by
  unfold In64 at h
  by_cases hn : b < 0
  · have h1 : a < a - b := by omega
    go_enter Try.func14, Try.ntmps14
    go_wp2
    go_ret2
    exact ⟨rfl, rfl⟩
  · have h1 : ¬ (a < a - b) := by omega
    go_enter Try.func14, Try.ntmps14
    go_wp2
    go_ret2
    exact ⟨rfl, rfl⟩

theorem sub_over (a b : Int) (ha : In64 a) (hb : In64 b) (h : ¬ In64 (a - b)) (w : World) :
    Calls Try.prog 14 #[.int .i64 a, .int .i64 b] w fun e w' => e = .returned (.tuple #[.int .i64 0, .int .i64 2]) ∧ w = w' := by
  unfold In64 at ha hb h
  by_cases hn : b < 0
  · have h1 : ¬ (a < wrap64 (a - b)) := by unfold wrap64; omega
    clear ha hb h
    go_enter Try.func14, Try.ntmps14
    go_wp2
    go_ret2
    exact ⟨rfl, rfl⟩
  · have h1 : a < wrap64 (a - b) := by unfold wrap64; omega
    clear ha hb h
    go_enter Try.func14, Try.ntmps14
    go_wp2
    go_ret2
    exact ⟨rfl, rfl⟩

/-! what may not be divided -/
theorem refuse_zero (a : Int) (w : World) :
    Calls Try.prog 32 #[.int .i64 a, .int .i64 0] w fun e w' => e = .returned (.int .i64 3) ∧ w = w' := by
  go_enter Try.func32, Try.ntmps32
  go_wp2
  go_ret
  exact ⟨rfl, rfl⟩
theorem refuse_over (w : World) :
    Calls Try.prog 32 #[.int .i64 (-9223372036854775808), .int .i64 (-1)] w fun e w' => e = .returned (.int .i64 2) ∧ w = w' := by
  go_enter Try.func32, Try.ntmps32
  go_wp2
  go_ret
  exact ⟨rfl, rfl⟩
theorem refuse_none (a b : Int) (h0 : b ≠ 0) (h : a ≠ -9223372036854775808 ∨ b ≠ -1) (w : World) :
    Calls Try.prog 32 #[.int .i64 a, .int .i64 b] w fun e w' => e = .returned (.int .i64 0) ∧ w = w' := by
  have hz : (b == 0) = false := by simpa using h0
  by_cases ha : a = -9223372036854775808
  · have hb : (b == -1) = false := by simpa using h.resolve_left (fun k => k ha)
    have hA : (a == -9223372036854775808) = true := by simpa using ha
    clear h ha h0
    go_enter Try.func32, Try.ntmps32
    go_wp2
    go_ret
    exact ⟨rfl, rfl⟩
  · have hA : (a == -9223372036854775808) = false := by simpa using ha
    clear h ha h0
    go_enter Try.func32, Try.ntmps32
    go_wp2
    go_ret
    exact ⟨rfl, rfl⟩

/-! products -/
theorem tdiv_of_mul (a b : Int) (h : b ≠ 0) : (a * b).tdiv b = a := Int.mul_tdiv_cancel a h
theorem mul_zero (a : Int) (w : World) :
    Calls Try.prog 16 #[.int .i64 a, .int .i64 0] w fun e w' => e = .returned (.tuple #[.int .i64 0, .int .i64 0]) ∧ w = w' := by
  go_enter Try.func16, Try.ntmps16
  go_wp2
  go_ret2
  exact ⟨rfl, rfl⟩

theorem mul_refused (w : World) :
    Calls Try.prog 16 #[.int .i64 (-9223372036854775808), .int .i64 (-1)] w fun e w' => e = .returned (.tuple #[.int .i64 0, .int .i64 2]) ∧ w = w' := by
  go_enter Try.func16, Try.ntmps16
  go_wp2_with (go_at_call 32; refine (refuse_over _).mono ?_; rintro e w' ⟨rfl, rfl⟩)
  go_ret2
  exact ⟨rfl, rfl⟩

theorem mul_ok (a b : Int) (ha : In64 a) (h0 : ¬ b = 0) (hr : a ≠ -9223372036854775808 ∨ b ≠ -1) (h : In64 (a * b)) (w : World) :
    Calls Try.prog 16 #[.int .i64 a, .int .i64 b] w fun e w' => e = .returned (.tuple #[.int .i64 (a * b), .int .i64 0]) ∧ w = w' := by
  unfold In64 at h ha
  have hz : (b == 0) = false := by simpa using h0
  have hd := tdiv_of_mul a b h0
  have hm : wrap64 (a * b) = a * b := IntWalk.wrap64_in _ h
  have ha' : wrap64 a = a := IntWalk.wrap64_in _ ha
  have R := fun W => refuse_none a b h0 hr W
  clear hr
  go_enter Try.func16, Try.ntmps16
  go_wp2_with (go_at_call 32; refine (R _).mono ?_; rintro e w' ⟨rfl, rfl⟩)
  go_ret2
  exact ⟨rfl, rfl⟩

theorem mul_over_plain (a b : Int) (ha : In64 a) (hb : In64 b) (h0 : ¬ b = 0) (hr : a ≠ -9223372036854775808 ∨ b ≠ -1) (h : ¬ In64 (a * b)) :
    ¬ (wrap64 ((wrap64 (a * b)).tdiv b) = a) := by
  intro he
  have hp : In64 (wrap64 (a * b)) := by unfold wrap64 In64; omega
  have hk : ∃ k : Int, wrap64 (a * b) = a * b - k * 18446744073709551616 ∧ k ≠ 0 := by
    refine ⟨(a * b + 9223372036854775808) / 18446744073709551616, ?_, ?_⟩
    · unfold wrap64; omega
    · unfold In64 at h; omega
  obtain ⟨k, hk, hk0⟩ := hk
  generalize wrap64 (a * b) = p at *
  have hq : In64 (p.tdiv b) := by
    by_cases hb1 : b = -1
    · subst hb1
      have ht : p.tdiv (-1) = -p := by rw [Int.tdiv_neg, Int.tdiv_one]
      unfold In64 at *
      omega
    · have h1 : (p.tdiv b).natAbs = p.natAbs / b.natAbs := by rw [Int.natAbs_tdiv]; rfl
      have h2 : p.natAbs / b.natAbs ≤ p.natAbs := Nat.div_le_self _ _
      by_cases hb2 : b = 1
      · subst hb2; simpa using hp
      · have h3 : 2 ≤ b.natAbs := by omega
        have h4 : p.natAbs / b.natAbs ≤ p.natAbs / 2 := Nat.div_le_div_left h3 (by omega)
        unfold In64 at *
        omega
  rw [show wrap64 (p.tdiv b) = p.tdiv b from IntWalk.wrap64_in _ hq] at he
  have hdm := Int.mul_tdiv_add_tmod p b
  have hlt : (p.tmod b).natAbs < b.natAbs := by
    rw [Int.natAbs_tmod]; exact Nat.mod_lt _ (by omega)
  rw [he, Int.mul_comm b a] at hdm
  unfold In64 at hb
  omega

theorem mul_over (a b : Int) (ha : In64 a) (hb : In64 b) (h0 : ¬ b = 0) (hr : a ≠ -9223372036854775808 ∨ b ≠ -1) (h : ¬ In64 (a * b)) (w : World) :
    Calls Try.prog 16 #[.int .i64 a, .int .i64 b] w fun e w' => e = .returned (.tuple #[.int .i64 0, .int .i64 2]) ∧ w = w' := by
  have hz : (b == 0) = false := by simpa using h0
  have hd := mul_over_plain a b ha hb h0 hr h
  have R := fun W => refuse_none a b h0 hr W
  clear hr h ha hb
  go_enter Try.func16, Try.ntmps16
  go_wp2_with (go_at_call 32; refine (R _).mono ?_; rintro e w' ⟨rfl, rfl⟩)
  go_ret2
  exact ⟨rfl, rfl⟩

/-! signs -/
theorem neg_ok (a : Int) (h : In64 (-a)) (w : World) :
    Calls Try.prog 18 #[.int .i64 a] w fun e w' => e = .returned (.tuple #[.int .i64 (-a), .int .i64 0]) ∧ w = w' := by
  have S := fun W => sub_ok 0 a (by rw [Int.zero_sub]; exact h) W
  simp only [Int.zero_sub] at S
  go_enter Try.func18, Try.ntmps18
  go_wp2_with (go_at_call 14; refine (S _).mono ?_; rintro e w' ⟨rfl, rfl⟩)
  go_ret2
  exact ⟨rfl, rfl⟩
theorem neg_over (a : Int) (ha : In64 a) (h : ¬ In64 (-a)) (w : World) :
    Calls Try.prog 18 #[.int .i64 a] w fun e w' => e = .returned (.tuple #[.int .i64 0, .int .i64 2]) ∧ w = w' := by
  have S := fun W => sub_over 0 a (by decide) ha (by rw [Int.zero_sub]; exact h) W
  go_enter Try.func18, Try.ntmps18
  go_wp2_with (go_at_call 14; refine (S _).mono ?_; rintro e w' ⟨rfl, rfl⟩)
  go_ret2
  exact ⟨rfl, rfl⟩
theorem abs_pos (a : Int) (h : 0 ≤ a) (w : World) :
    Calls Try.prog 20 #[.int .i64 a] w fun e w' => e = .returned (.tuple #[.int .i64 a, .int .i64 0]) ∧ w = w' := by
  have h' : ¬ a < 0 := by omega
  go_enter Try.func20, Try.ntmps20
  go_wp2
  go_ret2
  exact ⟨rfl, rfl⟩
theorem abs_neg (a : Int) (h : a < 0) (hn : In64 (-a)) (w : World) :
    Calls Try.prog 20 #[.int .i64 a] w fun e w' => e = .returned (.tuple #[.int .i64 (-a), .int .i64 0]) ∧ w = w' := by
  go_enter Try.func20, Try.ntmps20
  go_wp2_with (go_at_call 18; refine (neg_ok a hn _).mono ?_; rintro e w' ⟨rfl, rfl⟩)
  go_ret2
  exact ⟨rfl, rfl⟩
theorem abs_over (a : Int) (ha : In64 a) (h : a < 0) (hn : ¬ In64 (-a)) (w : World) :
    Calls Try.prog 20 #[.int .i64 a] w fun e w' => e = .returned (.tuple #[.int .i64 0, .int .i64 2]) ∧ w = w' := by
  go_enter Try.func20, Try.ntmps20
  go_wp2_with (go_at_call 18; refine (neg_over a ha hn _).mono ?_; rintro e w' ⟨rfl, rfl⟩)
  go_ret2
  exact ⟨rfl, rfl⟩

/-! divisions -/
theorem fdiv_of_tdiv (a b : Int) (h0 : ¬ b = 0) (h : ¬ (a.tmod b = 0)) (hs : (a.tmod b < 0) ≠ (b < 0)) : a.fdiv b = a.tdiv b - 1 ∧ a.fmod b = a.tmod b + b := by
  have hdm := Int.mul_tdiv_add_tmod a b
  have hlt : (a.tmod b).natAbs < b.natAbs := by
    rw [Int.natAbs_tmod]; exact Nat.mod_lt _ (by omega)
  have hm : b * (a.tdiv b - 1) = b * a.tdiv b - b := by rw [Int.mul_sub, Int.mul_one]
  by_cases hb : 0 < b
  · rw [Int.fdiv_fmod_unique hb]
    have : a.tmod b < 0 := by
      rcases Int.lt_or_le (a.tmod b) 0 with h1 | h1
      · exact h1
      · exact absurd (propext ⟨fun h => by omega, fun h => by omega⟩) hs
    omega
  · have hb' : b < 0 := by omega
    rw [Int.fdiv_fmod_unique' hb']
    have : ¬ (a.tmod b < 0) := fun h1 => hs (propext ⟨fun _ => hb', fun _ => h1⟩)
    omega
theorem fdiv_of_tdiv' (a b : Int) (h0 : ¬ b = 0) (h : a.tmod b = 0 ∨ ((a.tmod b < 0) = (b < 0))) : a.fdiv b = a.tdiv b ∧ a.fmod b = a.tmod b := by
  have hdm := Int.mul_tdiv_add_tmod a b
  have hlt : (a.tmod b).natAbs < b.natAbs := by
    rw [Int.natAbs_tmod]; exact Nat.mod_lt _ (by omega)
  by_cases hb : 0 < b
  · rw [Int.fdiv_fmod_unique hb]
    have : ¬ (a.tmod b < 0) := by
      rcases h with h | h
      · omega
      · intro h1; rw [h] at h1; omega
    omega
  · have hb' : b < 0 := by omega
    rw [Int.fdiv_fmod_unique' hb']
    have : a.tmod b ≤ 0 := by
      rcases h with h | h
      · omega
      · have : a.tmod b < 0 := by rw [h]; exact hb'
        omega
    omega
theorem tdiv_in (a b : Int) (ha : In64 a) (h0 : ¬ b = 0) (hr : a ≠ -9223372036854775808 ∨ b ≠ -1) : In64 (a.tdiv b) := by
  by_cases hb1 : b = -1
  · subst hb1
    have ht : a.tdiv (-1) = -a := by rw [Int.tdiv_neg, Int.tdiv_one]
    unfold In64 at *
    omega
  · have h1 : (a.tdiv b).natAbs = a.natAbs / b.natAbs := by rw [Int.natAbs_tdiv]; rfl
    by_cases hb2 : b = 1
    · subst hb2; simpa using ha
    · have h3 : 2 ≤ b.natAbs := by omega
      have h4 : a.natAbs / b.natAbs ≤ a.natAbs / 2 := Nat.div_le_div_left h3 (by omega)
      unfold In64 at *
      omega
theorem tmod_in (a b : Int) (hb : In64 b) (h0 : ¬ b = 0) : In64 (a.tmod b) := by
  have hlt : (a.tmod b).natAbs < b.natAbs := by
    rw [Int.natAbs_tmod]; exact Nat.mod_lt _ (by omega)
  unfold In64 at *
  omega
theorem fdiv_in (a b : Int) (ha : In64 a) (h0 : ¬ b = 0) (hr : a ≠ -9223372036854775808 ∨ b ≠ -1) : In64 (a.fdiv b) := by
  rcases Decidable.em (¬ (a.tmod b = 0) ∧ (a.tmod b < 0) ≠ (b < 0)) with h | h
  · have := (fdiv_of_tdiv a b h0 h.1 h.2).1
    have h2 := tdiv_in a b ha h0 hr
    have hlt : (a.tmod b).natAbs < b.natAbs := by
      rw [Int.natAbs_tmod]; exact Nat.mod_lt _ (by omega)
    have h1 : (a.tdiv b).natAbs = a.natAbs / b.natAbs := by rw [Int.natAbs_tdiv]; rfl
    have h4 : a.natAbs / b.natAbs ≤ a.natAbs / 2 := Nat.div_le_div_left (by omega) (by omega)
    unfold In64 at *
    omega
  · have := (fdiv_of_tdiv' a b h0 (by
      by_cases h1 : a.tmod b = 0
      · exact .inl h1
      · right
        exact Classical.byContradiction fun h2 => h ⟨h1, h2⟩)).1
    rw [this]
    exact tdiv_in a b ha h0 hr

/-- the world after some draws -/
theorem div_zero (a : Int) (w : World) :
    Calls Try.prog 22 #[.int .i64 a, .int .i64 0] w fun e w' => e = .returned (.tuple #[.int .i64 0, .int .i64 0, .int .i64 3]) ∧ w = w' := by
  go_enter Try.func22, Try.ntmps22
  go_wp2_with (go_at_call 32; refine (refuse_zero _ _).mono ?_; rintro e w' ⟨rfl, rfl⟩)
  go_ret3
  exact ⟨rfl, rfl⟩
theorem div_over (w : World) :
    Calls Try.prog 22 #[.int .i64 (-9223372036854775808), .int .i64 (-1)] w fun e w' => e = .returned (.tuple #[.int .i64 0, .int .i64 0, .int .i64 2]) ∧ w = w' := by
  go_enter Try.func22, Try.ntmps22
  go_wp2_with (go_at_call 32; refine (refuse_over _).mono ?_; rintro e w' ⟨rfl, rfl⟩)
  go_ret3
  exact ⟨rfl, rfl⟩
theorem fmod_in (a b : Int) (hb : In64 b) (h0 : ¬ b = 0) : In64 (a.fmod b) := by
  unfold In64 at *
  rcases Int.lt_or_lt_of_ne h0 with h | h
  · have h1 := ((Int.fdiv_fmod_unique' h).1 ⟨rfl, rfl⟩ : a.fmod b + b * a.fdiv b = a ∧ b < a.fmod b ∧ a.fmod b ≤ 0)
    omega
  · have h1 := Int.fmod_nonneg_of_pos a h
    have h2 := Int.fmod_lt_of_pos a h
    omega
theorem ret3 {k l m : IntKind} {a b c d e f : Int} (h : a = d) (g : b = e) (i : c = f) : Ending.returned (.tuple #[.int k a, .int l b, .int m c]) = .returned (.tuple #[.int k d, .int l e, .int m f]) := by rw [h, g, i]
set_option maxHeartbeats 400000 in
theorem div_ok (a b : Int) (ha : In64 a) (hb : In64 b) (h0 : ¬ b = 0) (hr : a ≠ -9223372036854775808 ∨ b ≠ -1) (w : World) :
    Calls Try.prog 22 #[.int .i64 a, .int .i64 b] w fun e w' => e = .returned (.tuple #[.int .i64 (a.fdiv b), .int .i64 (a.fmod b), .int .i64 0]) ∧ ∃ n, w' = w.drewN n := by
  have hz : (b == 0) = false := by simpa using h0
  have hq : wrap64 (a.tdiv b) = a.tdiv b := IntWalk.wrap64_in _ (tdiv_in a b ha h0 hr)
  have hm : wrap64 (a.tmod b) = a.tmod b := IntWalk.wrap64_in _ (tmod_in a b hb h0)
  have R := fun W => refuse_none a b h0 hr W
  have hfi := fdiv_in a b ha h0 hr
  have hmi := fmod_in a b hb h0
  by_cases hc : ¬ (a.tmod b = 0) ∧ (a.tmod b < 0) ≠ (b < 0)
  · obtain ⟨e1, e2⟩ := fdiv_of_tdiv a b h0 hc.1 hc.2
    have hq1 : wrap64 (a.tdiv b - 1) = a.tdiv b - 1 := IntWalk.wrap64_in _ (by rw [← e1]; exact hfi)
    have hm1 : wrap64 (a.tmod b + b) = a.tmod b + b := IntWalk.wrap64_in _ (by rw [← e2]; exact hmi)
    rw [e1, e2]
    obtain ⟨c1, c2⟩ := hc
    have g1 : (a.tmod b != 0) = true := by simpa using c1
    have g2 : (!decide (a.tmod b < 0) == decide (b < 0)) = true := by
      by_cases x : a.tmod b < 0 <;> by_cases y : b < 0 <;> simp [x, y] at c2 ⊢
    clear ha hb hr hfi hmi e1 e2 c2
    go_enter Try.func22, Try.ntmps22
    go_wp2_with (go_at_call 32; refine (R _).mono ?_; rintro e w' ⟨rfl, rfl⟩)
    go_quiet (fail)
    go_wp2
    go_ret3
    exact ⟨ret3 hq1 hm1 rfl, _, rfl⟩
  · have hc' : a.tmod b = 0 ∨ (a.tmod b < 0) = (b < 0) := by
      by_cases h1 : a.tmod b = 0
      · exact .inl h1
      · right
        exact Classical.byContradiction fun h2 => hc ⟨h1, h2⟩
    obtain ⟨e1, e2⟩ := fdiv_of_tdiv' a b h0 hc'
    rw [e1, e2]
    by_cases h1 : a.tmod b = 0
    · have g1 : (a.tmod b != 0) = false := by simpa using h1
      clear ha hb hr hfi hmi e1 e2 hc hc'
      go_enter Try.func22, Try.ntmps22
      go_wp2_with (go_at_call 32; refine (R _).mono ?_; rintro e w' ⟨rfl, rfl⟩)
      go_quiet (fail)
      go_wp2
      go_ret3
      exact ⟨ret3 hq (by omega) rfl, _, rfl⟩
    · have g1 : (a.tmod b != 0) = true := by simpa using h1
      have c2 := hc'.resolve_left h1
      have g2 : (!decide (a.tmod b < 0) == decide (b < 0)) = false := by
        by_cases x : a.tmod b < 0 <;> by_cases y : b < 0 <;> simp [x, y] at c2 ⊢
      clear ha hb hr hfi hmi e1 e2 hc hc' c2
      go_enter Try.func22, Try.ntmps22
      go_wp2_with (go_at_call 32; refine (R _).mono ?_; rintro e w' ⟨rfl, rfl⟩)
      go_quiet (fail)
      go_wp2
      go_ret3
      exact ⟨ret3 hq rfl rfl, _, rfl⟩

/-! divisions whose rest is not below 0 -/
theorem euclid_zero (a : Int) (w : World) :
    Calls Try.prog 24 #[.int .i64 a, .int .i64 0] w fun e w' => e = .returned (.tuple #[.int .i64 0, .int .i64 0, .int .i64 3]) ∧ w = w' := by
  go_enter Try.func24, Try.ntmps24
  go_wp2_with (go_at_call 22; refine (div_zero _ _).mono ?_; rintro e w' ⟨rfl, rfl⟩)
  go_ret3
  exact ⟨rfl, rfl⟩
theorem euclid_over (w : World) :
    Calls Try.prog 24 #[.int .i64 (-9223372036854775808), .int .i64 (-1)] w fun e w' => e = .returned (.tuple #[.int .i64 0, .int .i64 0, .int .i64 2]) ∧ w = w' := by
  go_enter Try.func24, Try.ntmps24
  go_wp2_with (go_at_call 22; refine (div_over _).mono ?_; rintro e w' ⟨rfl, rfl⟩)
  go_ret3
  exact ⟨rfl, rfl⟩
theorem ediv_of_fdiv (a b : Int) (h0 : ¬ b = 0) (h : a.fmod b < 0) : a / b = a.fdiv b + 1 ∧ a % b = a.fmod b - b := by
  have hdm := Int.mul_fdiv_add_fmod a b
  have hb : b < 0 := by
    rcases Int.lt_or_lt_of_ne h0 with h1 | h1
    · exact h1
    · have := Int.fmod_nonneg_of_pos a h1; omega
  have h1 := ((Int.fdiv_fmod_unique' hb).1 ⟨rfl, rfl⟩ : a.fmod b + b * a.fdiv b = a ∧ b < a.fmod b ∧ a.fmod b ≤ 0)
  rw [Int.ediv_emod_unique' hb]
  have hm : b * (a.fdiv b + 1) = b * a.fdiv b + b := by rw [Int.mul_add, Int.mul_one]
  omega
theorem ediv_of_fdiv' (a b : Int) (h0 : ¬ b = 0) (h : ¬ a.fmod b < 0) : a / b = a.fdiv b ∧ a % b = a.fmod b := by
  have hdm := Int.mul_fdiv_add_fmod a b
  rcases Int.lt_or_lt_of_ne h0 with hb | hb
  · have h1 := ((Int.fdiv_fmod_unique' hb).1 ⟨rfl, rfl⟩ : a.fmod b + b * a.fdiv b = a ∧ b < a.fmod b ∧ a.fmod b ≤ 0)
    rw [Int.ediv_emod_unique' hb]
    omega
  · have h2 := Int.fmod_lt_of_pos a hb
    rw [Int.ediv_emod_unique hb]
    omega
set_option maxHeartbeats 400000 in
theorem euclid_ok (a b : Int) (ha : In64 a) (hb : In64 b) (h0 : ¬ b = 0) (hr : a ≠ -9223372036854775808 ∨ b ≠ -1) (w : World) :
    Calls Try.prog 24 #[.int .i64 a, .int .i64 b] w fun e w' => e = .returned (.tuple #[.int .i64 (a / b), .int .i64 (a % b), .int .i64 0]) ∧ ∃ n, w' = w.drewN n := by
  have D := fun W => div_ok a b ha hb h0 hr W
  have hfi := fdiv_in a b ha h0 hr
  have hmi := fmod_in a b hb h0
  by_cases h : a.fmod b < 0
  · obtain ⟨e1, e2⟩ := ediv_of_fdiv a b h0 h
    have hbn : b < 0 := by
      rcases Int.lt_or_lt_of_ne h0 with h1 | h1
      · exact h1
      · have := Int.fmod_nonneg_of_pos a h1; omega
    have hr1 := ((Int.fdiv_fmod_unique' hbn).1 ⟨rfl, rfl⟩ : a.fmod b + b * a.fdiv b = a ∧ b < a.fmod b ∧ a.fmod b ≤ 0)
    have hq1 : wrap64 (a.fdiv b + 1) = a.fdiv b + 1 := by
      refine IntWalk.wrap64_in _ ?_
      have hb1 : b ≠ -1 := by
        intro hb1; subst hb1; omega
      have h3 := Int.natAbs_ediv_le_natAbs a b
      rw [e1] at h3
      have h4 := Int.mul_ediv_add_emod a b
      have h5 := Int.emod_nonneg a h0
      have h6 := Int.emod_lt_of_neg a hbn
      rw [e1] at h4
      unfold In64 at ha hb
      by_cases h7 : a.fdiv b + 1 = 9223372036854775808
      · rw [h7] at h4; omega
      · omega
    have hm1 : wrap64 (a.fmod b - b) = a.fmod b - b := by
      refine IntWalk.wrap64_in _ ?_
      unfold In64 at *; omega
    rw [e1, e2]
    clear ha hb hr hfi hmi e1 e2 hr1
    go_enter Try.func24, Try.ntmps24
    go_wp2_with (go_at_call 22; refine (D _).mono ?_; rintro e w' ⟨rfl, n, rfl⟩)
    go_ret3
    exact ⟨ret3 hq1 hm1 rfl, _, rfl⟩
  · obtain ⟨e1, e2⟩ := ediv_of_fdiv' a b h0 h
    rw [e1, e2]
    clear ha hb hr hfi hmi e1 e2
    go_enter Try.func24, Try.ntmps24
    go_wp2_with (go_at_call 22; refine (D _).mono ?_; rintro e w' ⟨rfl, n, rfl⟩)
    go_ret3
    exact ⟨rfl, _, rfl⟩
end Go.Proofs.Ythfnhnhoglhncaa
