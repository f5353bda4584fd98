/- Package civil: how two dates stand to each other. -/
import Derived.Test.YtmmgppfopojnlaaDoorEof
import Derived.Test.YtmmgppfopojnlaaDoorCreg
import Derived.StillTailTactics
namespace Go.Proofs.YtmmgppfopojnlaaDoor
open Go.RowKit

/-- how two numbers stand to each other; the first of three that isn't 0 -/
def c3 (a b : Int) : Int := if a < b then -1 else if b < a then 1 else 0
def or3 (a b c : Int) : Int := if a = 0 then (if b = 0 then c else b) else a
theorem or3_cmp (y m d y' m' d' : Int) : or3 (c3 y y') (c3 m m') (c3 d d') = cmpD y m d y' m' d' := by
  unfold or3 c3 cmpD
  repeat' split
  all_goals omega
set_option maxRecDepth 100000 in
set_option maxHeartbeats 4000000 in
theorem nanP (a : Int) (w : World) :
    Calls Tryd.prog 43 #[.int .i64 a] w (fun e w' => e = .returned (.bool false) ∧ w = w') := by
  have g : (a != a) = false := by simp
  go_enter Tryd.func43, Tryd.ntmps43
  go_wp2
  go_ret
  exact ⟨rfl, rfl⟩
set_option maxRecDepth 100000 in
set_option maxHeartbeats 4000000 in
theorem compP (a b : Int) (w : World) :
    Calls Tryd.prog 42 #[.int .i64 a, .int .i64 b] w (fun e w' => e = .returned (.int .i64 (c3 a b)) ∧ w = w') := by
  have NP := Lib.hid (fun a W => nanP a W)
  unfold c3
  by_cases h : a < b
  · rw [if_pos h]
    go_enter Tryd.func42, Tryd.ntmps42
    go_wp2_with (go_at_call 43; (with_reducible refine (NP.out _ _).mono ?_); rintro e w' ⟨rfl, rfl⟩)
    go_ret
    exact ⟨rfl, rfl⟩
  rw [if_neg h]
  by_cases h2 : b < a
  · rw [if_pos h2]
    go_enter Tryd.func42, Tryd.ntmps42
    go_wp2_with (go_at_call 43; (with_reducible refine (NP.out _ _).mono ?_); rintro e w' ⟨rfl, rfl⟩)
    go_ret
    exact ⟨rfl, rfl⟩
  · rw [if_neg h2]
    go_enter Tryd.func42, Tryd.ntmps42
    go_wp2_with (go_at_call 43; (with_reducible refine (NP.out _ _).mono ?_); rintro e w' ⟨rfl, rfl⟩)
    go_ret
    exact ⟨rfl, rfl⟩
set_option maxRecDepth 100000 in
set_option maxHeartbeats 4000000 in
theorem orP_0 (g : Nat) (x0 x1 x2 : Int) (h : (x0 != 0) = true) (w : World) (B : Blk w g [.int .i64 x0, .int .i64 x1, .int .i64 x2]) :
    Calls Tryd.prog 41 #[.slice (some ⟨g, 0, none⟩) 3 3] w (fun e w' => e = .returned (.int .i64 x0) ∧ w = w') := by
  obtain ⟨_, c0, c1, c2, _⟩ := B.three
  clear B
  go_enter Tryd.func41, Tryd.ntmps41
  go_wp2
  go_loop [8] (fun v8 => ∃ i : Nat, i ≤ 0 ∧ v8 = .int .i64 i) (fun v8 => 3 - (intOf v8).toNat)
  case atStart => exact ⟨0, by omega, rfl⟩
  case round =>
    obtain ⟨i, hi, rfl⟩ := hrel
    obtain rfl : i = 0 := by omega
    go_wp2
    go_ret
    exact ⟨rfl, rfl⟩
set_option maxRecDepth 100000 in
set_option maxHeartbeats 4000000 in
theorem orP_1 (g : Nat) (x1 x2 : Int) (h : (x1 != 0) = true) (w : World) (B : Blk w g [.int .i64 0, .int .i64 x1, .int .i64 x2]) :
    Calls Tryd.prog 41 #[.slice (some ⟨g, 0, none⟩) 3 3] w (fun e w' => e = .returned (.int .i64 x1) ∧ w = w') := by
  obtain ⟨_, c0, c1, c2, _⟩ := B.three
  clear B
  go_enter Tryd.func41, Tryd.ntmps41
  go_wp2
  go_loop [8] (fun v8 => ∃ i : Nat, i ≤ 1 ∧ v8 = .int .i64 i) (fun v8 => 3 - (intOf v8).toNat)
  case atStart => exact ⟨0, by omega, rfl⟩
  case round =>
    obtain ⟨i, hi, rfl⟩ := hrel
    have hc : i = 0 ∨ i = 1 := by omega
    rcases hc with rfl | rfl
    · go_wp2
      go_round
      case rel => exact ⟨1, by omega, by go_num⟩
      case measure => simp [intOf]
    · go_wp2
      go_ret
      exact ⟨rfl, rfl⟩
set_option maxRecDepth 100000 in
set_option maxHeartbeats 4000000 in
theorem orP_2 (g : Nat) (x2 : Int) (h : (x2 != 0) = true) (w : World) (B : Blk w g [.int .i64 0, .int .i64 0, .int .i64 x2]) :
    Calls Tryd.prog 41 #[.slice (some ⟨g, 0, none⟩) 3 3] w (fun e w' => e = .returned (.int .i64 x2) ∧ w = w') := by
  obtain ⟨_, c0, c1, c2, _⟩ := B.three
  clear B
  go_enter Tryd.func41, Tryd.ntmps41
  go_wp2
  go_loop [8] (fun v8 => ∃ i : Nat, i ≤ 2 ∧ v8 = .int .i64 i) (fun v8 => 3 - (intOf v8).toNat)
  case atStart => exact ⟨0, by omega, rfl⟩
  case round =>
    obtain ⟨i, hi, rfl⟩ := hrel
    have hc : i = 0 ∨ i = 1 ∨ i = 2 := by omega
    rcases hc with rfl | rfl | rfl
    · go_wp2
      go_round
      case rel => exact ⟨1, by omega, by go_num⟩
      case measure => simp [intOf]
    · go_wp2
      go_round
      case rel => exact ⟨2, by omega, by go_num⟩
      case measure => simp [intOf]
    · go_wp2
      go_ret
      exact ⟨rfl, rfl⟩
set_option maxRecDepth 100000 in
set_option maxHeartbeats 4000000 in
theorem orP_3 (g : Nat) (w : World) (B : Blk w g [.int .i64 0, .int .i64 0, .int .i64 0]) :
    Calls Tryd.prog 41 #[.slice (some ⟨g, 0, none⟩) 3 3] w (fun e w' => e = .returned (.int .i64 0) ∧ w = w') := by
  obtain ⟨_, c0, c1, c2, _⟩ := B.three
  clear B
  go_enter Tryd.func41, Tryd.ntmps41
  go_wp2
  go_loop [8] (fun v8 => ∃ i : Nat, i ≤ 3 ∧ v8 = .int .i64 i) (fun v8 => 3 - (intOf v8).toNat)
  case atStart => exact ⟨0, by omega, rfl⟩
  case round =>
    obtain ⟨i, hi, rfl⟩ := hrel
    have hc : i = 0 ∨ i = 1 ∨ i = 2 ∨ i = 3 := by omega
    rcases hc with rfl | rfl | rfl | rfl
    · go_wp2
      go_round
      case rel => exact ⟨1, by omega, by go_num⟩
      case measure => simp [intOf]
    · go_wp2
      go_round
      case rel => exact ⟨2, by omega, by go_num⟩
      case measure => simp [intOf]
    · go_wp2
      go_round
      case rel => exact ⟨3, by omega, by go_num⟩
      case measure => simp [intOf]
    · go_wp2
      go_ret
      exact ⟨rfl, rfl⟩
theorem orP (g : Nat) (x0 x1 x2 : Int) (w : World) (B : Blk w g [.int .i64 x0, .int .i64 x1, .int .i64 x2]) :
    Calls Tryd.prog 41 #[.slice (some ⟨g, 0, none⟩) 3 3] w (fun e w' => e = .returned (.int .i64 (or3 x0 x1 x2)) ∧ w = w') := by
  unfold or3
  by_cases h0 : x0 = 0
  · subst h0
    rw [if_pos rfl]
    by_cases h1 : x1 = 0
    · subst h1
      rw [if_pos rfl]
      by_cases h2 : x2 = 0
      · subst h2; exact orP_3 g w B
      · exact orP_2 g x2 (by simp [h2]) w B
    · rw [if_neg h1]; exact orP_1 g x1 x2 (by simp [h1]) w B
  · rw [if_neg h0]; exact orP_0 g x0 x1 x2 (by simp [h0]) w B
set_option maxRecDepth 100000 in
set_option maxHeartbeats 4000000 in
theorem cmpP_core (y m d y' m' d' k0 k1 k2 v : Int) (C0 : Hid (∀ W, Calls Tryd.prog 42 #[.int .i64 y, .int .i64 y'] W (fun e w' => e = .returned (.int .i64 k0) ∧ W = w')))
    (C1 : Hid (∀ W, Calls Tryd.prog 42 #[.int .i64 m, .int .i64 m'] W (fun e w' => e = .returned (.int .i64 k1) ∧ W = w'))) (C2 : Hid (∀ W, Calls Tryd.prog 42 #[.int .i64 d, .int .i64 d'] W (fun e w' => e = .returned (.int .i64 k2) ∧ W = w')))
    (OR : Hid (∀ g W, Blk W g [.int .i64 k0, .int .i64 k1, .int .i64 k2] → Calls Tryd.prog 41 #[.slice (some ⟨g, 0, none⟩) 3 3] W (fun e w' => e = .returned (.int .i64 v) ∧ W = w'))) (w : World) :
    Calls Tryd.prog 30 #[.agg #[.int .i64 y, .int .i64 m, .int .i64 d], .agg #[.int .i64 y', .int .i64 m', .int .i64 d']] w (RetV w (.int .i64 v)) := by
  have KB := ((BK.nil w).more3 (.int .i64 y) (.int .i64 m) (.int .i64 d) 23).more3 (.int .i64 y') (.int .i64 m') (.int .i64 d') 23
  rw [World.size_alloc] at KB
  go_enter Tryd.func30, Tryd.ntmps30
  go_wp2_with fail
  generalize (w.alloc (.cells #[.int .i64 y, .int .i64 m, .int .i64 d] 23)).alloc (.cells #[.int .i64 y', .int .i64 m', .int .i64 d'] 23) = w0 at *
  obtain ⟨_, a0, a1, a2, _⟩ := KB.tail.head.three
  obtain ⟨_, b0, b1, b2, _⟩ := KB.head.three
  go_still_tail 15, (by kernel_rfl)
  still_call ((C0.out _).mono fun _ _ ⟨h1, h2⟩ => ⟨h1, h2.symm⟩)
  repeat still_step
  still_call ((C1.out _).mono fun _ _ ⟨h1, h2⟩ => ⟨h1, h2.symm⟩)
  repeat still_step
  still_call ((C2.out _).mono fun _ _ ⟨h1, h2⟩ => ⟨h1, h2.symm⟩)
  repeat still_step
  refine wpStill_nil ?_
  change wpList _ _ _ _ _ w0.drew
  replace KB := KB.drew
  clear a0 a1 a2 b0 b1 b2
  generalize w0.drew = w1 at *
  go_wp2_with fail
  have KC := KB.more3 (.int .i64 k0) (.int .i64 k1) (.int .i64 k2) 3
  have B := KC.head
  have HB := KC.hb
  clear KB KC
  generalize w1.alloc (.cells #[.int .i64 k0, .int .i64 k1, .int .i64 k2] 3) = w2 at *
  generalize w1.heap.size = g at *
  refine (OR.out g _ B).mono ?_
  rintro e w3 ⟨rfl, rfl⟩
  go_wp2
  go_ret
  exact ⟨rfl, HB⟩
theorem cmpP (y m d y' m' d' : Int) (w : World) : Calls Tryd.prog 30 #[.agg #[.int .i64 y, .int .i64 m, .int .i64 d], .agg #[.int .i64 y', .int .i64 m', .int .i64 d']] w (RetV w (.int .i64 (cmpD y m d y' m' d'))) := by
  rw [← or3_cmp]
  exact cmpP_core y m d y' m' d' _ _ _ _ (Lib.hid fun W => compP y y' W) (Lib.hid fun W => compP m m' W) (Lib.hid fun W => compP d d' W) (Lib.hid fun g W B => orP g _ _ _ W B) w
end Go.Proofs.YtmmgppfopojnlaaDoor
