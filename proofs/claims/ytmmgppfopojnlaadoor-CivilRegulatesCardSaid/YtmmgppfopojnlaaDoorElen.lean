/- Package civil: the table of the months' lengths as it lies in memory; leap years, months, days that a month has. -/
import Derived.Test.YtmmgppfopojnlaaDoorCdays
namespace Go.Proofs.YtmmgppfopojnlaaDoor
open Go.RowKit

/-- the months' lengths as the table holds them -/
def tab (k : Nat) : Int := if k = 1 then 28 else if k = 3 ∨ k = 5 ∨ k = 8 ∨ k = 10 then 30 else 31
/-- the table's block holds the months' lengths -/
structure Lens (w : World) : Prop where
  lt : 0 < w.heap.size
  c : ∀ k : Nat, k < 12 → w.cell? ⟨0, k, none⟩ = some (.int .i64 (tab k))
theorem Lens.mono {w W : World} (L : Lens w) (h : Below w.heap.size w W) : Lens W :=
  ⟨Nat.lt_of_lt_of_le L.lt h.size, fun k hk => (h.cell (p := ⟨0, k, none⟩) L.lt).trans (L.c k hk)⟩
theorem Lens.drewN {w : World} (L : Lens w) (n : Nat) : Lens (w.drewN n) := L.mono (below_drewN (Below.refl _ _) n)
theorem tab_len (y : Int) {k : Nat} (hk : k < 12) (h : k ≠ 1) : tab k = lenM y ((k : Int) + 1) := by
  have : k = 0 ∨ k = 2 ∨ k = 3 ∨ k = 4 ∨ k = 5 ∨ k = 6 ∨ k = 7 ∨ k = 8 ∨ k = 9 ∨ k = 10 ∨ k = 11 := by omega
  rcases this with rfl | rfl | rfl | rfl | rfl | rfl | rfl | rfl | rfl | rfl | rfl <;> rfl
theorem leapP (y : Int) (w : World) :
    Calls Tryd.prog 16 #[.int .i64 y] w (fun e w' => e = .returned (.bool (decide (leap y))) ∧ w = w') := by
  have t4 := tmod_zero y 4
  have t1 := tmod_zero y 100
  have t0 := tmod_zero y 400
  by_cases h4 : y % 4 = 0
  · have a4 : (y.tmod 4 == 0) = true := by rw [beq_iff_eq]; exact t4.2 h4
    by_cases h1 : y % 100 = 0
    · have a1 : (y.tmod 100 != 0) = false := by rw [bne_eq_false_iff_eq]; exact t1.2 h1
      have e : (y.tmod 400 == 0) = decide (leap y) := by
        by_cases h : y % 400 = 0
        · rw [decide_eq_true (by unfold leap; omega), t0.2 h]; rfl
        · rw [decide_eq_false (by unfold leap; omega), beq_eq_false_iff_ne]; exact fun k => h (t0.1 k)
      rw [← e]
      clear t4 t1 t0 e h4 h1
      go_enter Tryd.func16, Tryd.ntmps16
      go_wp2
      go_ret
      exact ⟨rfl, rfl⟩
    · have a1 : (y.tmod 100 != 0) = true := by rw [bne_iff_ne]; exact fun k => h1 (t1.1 k)
      have e : decide (leap y) = true := decide_eq_true (by unfold leap; omega)
      rw [e]
      clear t4 t1 t0 e h4 h1
      go_enter Tryd.func16, Tryd.ntmps16
      go_wp2
      go_ret
      exact ⟨rfl, rfl⟩
  · have a4 : (y.tmod 4 == 0) = false := by rw [beq_eq_false_iff_ne]; exact fun k => h4 (t4.1 k)
    have e : decide (leap y) = false := decide_eq_false (by unfold leap; omega)
    rw [e]
    clear t4 t1 t0 e h4
    go_enter Tryd.func16, Tryd.ntmps16
    go_wp2
    go_ret
    exact ⟨rfl, rfl⟩
set_option maxRecDepth 100000 in
set_option maxHeartbeats 4000000 in
theorem mlenP_tab (y : Int) (k : Nat) (v : Int) (hk : k < 12) (b2 : (((k : Int) + 1) == 2) = false) (hc : Hid (∀ W : World, Lens W → W.cell? ⟨0, k, none⟩ = some (.int .i64 v))) (w : World) (L : Lens w) :
    Calls Tryd.prog 18 #[.int .i64 y, .int .i64 ((k : Int) + 1)] w (fun e w' => e = .returned (.int .i64 v) ∧ w = w') := by
  have c := hc.out w L
  go_enter Tryd.func18, Tryd.ntmps18
  go_wp2
  go_ret
  exact ⟨rfl, rfl⟩
set_option maxRecDepth 100000 in
set_option maxHeartbeats 4000000 in
theorem mlenP (y m : Int) (w : World) (L : Lens w) :
    Calls Tryd.prog 18 #[.int .i64 y, .int .i64 m] w (fun e w' => e = .returned (.int .i64 (lenM y m)) ∧ w = w') := by
  by_cases m1 : m < 1
  · rw [lenM_no (.inl m1)]
    go_enter Tryd.func18, Tryd.ntmps18
    go_wp2
    go_ret
    exact ⟨rfl, rfl⟩
  by_cases m2 : 12 < m
  · rw [lenM_no (.inr m2)]
    go_enter Tryd.func18, Tryd.ntmps18
    go_wp2
    go_ret
    exact ⟨rfl, rfl⟩
  by_cases h : m = 2
  · subst h
    have LP := Lib.hid (fun W => leapP y W)
    clear m1 m2
    by_cases h : leap y
    · rw [show lenM y 2 = 29 by unfold lenM; simp [h]]
      rw [decide_eq_true h] at LP
      clear h
      go_enter Tryd.func18, Tryd.ntmps18
      go_wp2_with (go_at_call 16; (with_reducible refine (LP.out _).mono ?_); rintro e w' ⟨rfl, rfl⟩)
      go_ret
      exact ⟨rfl, rfl⟩
    · rw [show lenM y 2 = 28 by unfold lenM; simp [h]]
      rw [decide_eq_false h] at LP
      have c := L.c 1 (by omega)
      rw [show tab 1 = 28 from rfl] at c
      clear h
      go_enter Tryd.func18, Tryd.ntmps18
      go_wp2_with (go_at_call 16; (with_reducible refine (LP.out _).mono ?_); rintro e w' ⟨rfl, rfl⟩)
      go_ret
      exact ⟨rfl, rfl⟩
  · obtain ⟨k, rfl⟩ : ∃ k : Nat, m = (k : Int) + 1 := ⟨(m - 1).toNat, by omega⟩
    have hk : k < 12 := by omega
    have e := tab_len y hk (by omega)
    exact mlenP_tab y k _ hk (by rw [beq_eq_false_iff_ne]; exact h) (Lib.hid fun W l => by rw [← e]; exact l.c k hk) w L
/-- a day of the month, as hasDay tells it -/
def hdB (y m d : Int) : Bool := decide (1 ≤ d ∧ d ≤ lenM y m)
theorem hdB_yes {y m d : Int} (h : dayOk y m d) : hdB y m d = true := decide_eq_true h.2.2
theorem hdB_no {y m d : Int} (h : ¬ dayOk y m d) : hdB y m d = false := decide_eq_false fun k => h ⟨by
  apply Classical.byContradiction; intro c; have := lenM_no (y := y) (m := m) (.inl (by omega)); omega, by
  apply Classical.byContradiction; intro c; have := lenM_no (y := y) (m := m) (.inr (by omega)); omega, k.1, k.2⟩
set_option maxRecDepth 100000 in
set_option maxHeartbeats 4000000 in
theorem hasP (y m d : Int) (w : World) (L : Lens w) :
    Calls Tryd.prog 32 #[.int .i64 y, .int .i64 m, .int .i64 d] w (fun e w' => e = .returned (.bool (hdB y m d)) ∧ w = w') := by
  have MR := Lib.hid (fun W l => mlenP y m W l)
  by_cases d1 : 1 ≤ d
  · have g1 : decide (1 ≤ d) = true := decide_eq_true d1
    have e : hdB y m d = decide (d ≤ lenM y m) := by
      by_cases h : d ≤ lenM y m
      · rw [decide_eq_true h]; exact decide_eq_true ⟨d1, h⟩
      · rw [decide_eq_false h]; exact decide_eq_false fun k => h k.2
    rw [e]
    clear e
    generalize lenM y m = l at *
    go_enter Tryd.func32, Tryd.ntmps32
    go_wp2_with (go_at_call 18; (with_reducible refine (MR.out _ L).mono ?_); rintro e w' ⟨rfl, rfl⟩)
    go_ret
    exact ⟨rfl, rfl⟩
  · have g1 : decide (1 ≤ d) = false := decide_eq_false d1
    have e : hdB y m d = false := decide_eq_false fun k => d1 k.1
    rw [e]
    clear e
    go_enter Tryd.func32, Tryd.ntmps32
    go_wp2_with (go_at_call 18; (with_reducible refine (MR.out _ L).mono ?_); rintro e w' ⟨rfl, rfl⟩)
    go_ret
    exact ⟨rfl, rfl⟩
end Go.Proofs.YtmmgppfopojnlaaDoor
