/- Package civil: the date of a number. -/
import Derived.Test.YtmmgppfopojnlaaDoorEdays
import Derived.Test.YtmmgppfopojnlaaDoorCof
namespace Go.Proofs.YtmmgppfopojnlaaDoor
open Go.RowKit

set_option maxRecDepth 100000 in
set_option maxHeartbeats 4000000 in
theorem ofP_no (n : Int) (h : n < -100000001 ∨ 100000000 < n) (w : World) (L : Lens w) :
    Calls Tryd.prog 12 #[.int .i64 n] w (RetDateB w 0 0 0 false) := by
  have CT := Lib.hid (fun W => countP n W)
  rw [show nk n = false from decide_eq_false (by omega)] at CT
  clear h
  have KB := (BK.nil w).more3 (.int .i64 0) (.int .i64 0) (.int .i64 0) 23
  go_enter Tryd.func12, Tryd.ntmps12
  go_upto_region 1 with (fail)
  generalize w.alloc (.cells #[.int .i64 0, .int .i64 0, .int .i64 0] 23) = w0 at *
  have L0 := L.mono KB.hb
  obtain ⟨_, a0, a1, a2, f0, f1, f2⟩ := KB.head.three
  go_wp2_with (go_at_call 35; (with_reducible refine (CT.out _).mono ?_); rintro e w' ⟨rfl, rfl⟩)
  obtain ⟨_, P0, P1, P2, _, _, _⟩ := (KB.head.self3 (.int .i64 (0)) (.int .i64 (0)) (.int .i64 (0))).three
  have HB := ((KB.hb.setCell (p := ⟨w.heap.size, 0, none⟩) (Nat.le_refl _) (.int .i64 (0))).setCell (p := ⟨w.heap.size, 1, none⟩) (Nat.le_refl _) (.int .i64 (0))).setCell (p := ⟨w.heap.size, 2, none⟩) (Nat.le_refl _) (.int .i64 (0))
  exact bodyPost_ret (v := .tuple #[.agg #[.int .i64 (0), .int .i64 (0), .int .i64 (0)], .bool false]) (by simp [results, Tryd.results12, go_sem, P0, P1, P2]) rfl ⟨rfl, HB⟩
set_option maxRecDepth 100000 in
set_option maxHeartbeats 4000000 in
theorem ofP_core (n y m d J : Int) (n1 : -100000001 ≤ n) (n2 : n ≤ 100000000) (m1 : 1 ≤ m) (m2 : m ≤ 12) (d1 : 1 ≤ d) (d2 : d ≤ lenM y m) (hn : n - J = cum y m + (d - 1)) (_j1 : -200000000 ≤ J) (_j2 : J ≤ 200000000) (CT : Hid (∀ W, Calls Tryd.prog 35 #[.int .i64 n] W (fun e w' => e = .returned (.bool true) ∧ W = w'))) (YO : Hid (∀ W, Calls Tryd.prog 37 #[.int .i64 n] W (fun e w' => e = .returned (.int .i64 y) ∧ W = w'))) (YS : Hid (∀ W, Calls Tryd.prog 33 #[.int .i64 y] W (fun e w' => e = .returned (.int .i64 J) ∧ W = w'))) (w : World) (L : Lens w) :
    Calls Tryd.prog 12 #[.int .i64 n] w (RetDateB w y m d true) := by
  have MR := Lib.hid (fun i W l => mlenP y i W l)
  have CO := Lib.hid (cum_one y)
  have LE := Lib.hid hn
  have YR := lenY_range y
  clear hn
  have KB := (BK.nil w).more3 (.int .i64 0) (.int .i64 0) (.int .i64 0) 23
  go_enter Tryd.func12, Tryd.ntmps12
  go_upto_region 1 with (fail)
  generalize w.alloc (.cells #[.int .i64 0, .int .i64 0, .int .i64 0] 23) = w0 at *
  have L0 := L.mono KB.hb
  go_wp2_with (first
    | (go_at_call 35; (with_reducible refine (CT.out _).mono ?_); rintro e w' ⟨rfl, rfl⟩)
    | (go_at_call 37; (with_reducible refine (YO.out _).mono ?_); rintro e w' ⟨rfl, rfl⟩)
    | (go_at_call 33; (with_reducible refine (YS.out _).mono ?_); rintro e w' ⟨rfl, rfl⟩))
  go_loop [5, 6] (fun v5 v6 => ∃ i : Int, 1 ≤ i ∧ i ≤ m ∧ v6 = .int .i64 (n - J - cum y i) ∧ v5 = .int .i64 i) (fun v5 _ => (m - intOf v5).toNat)
  case atStart => exact ⟨1, by omega, by omega, by rw [CO.out, Int.sub_zero], rfl⟩
  case round =>
    obtain ⟨i, i1, i2, rfl, rfl⟩ := hrel
    have MK := Lib.hid (fun W l => MR.out i W l)
    have ml := lenM_le y i
    have cr := cum_range (y := y) (m := i) i1 (by omega)
    have cm := cum_range (y := y) (m := m) (by omega) (by omega)
    have le := LE.out
    by_cases hi : i < m
    · have S := Lib.hid (cum_succ (y := y) i1 (by omega))
      have ge : lenM y i ≤ n - J - cum y i := by have := cum_lt (y := y) i1 hi (by omega); omega
      have S' := Lib.hid (show n - J - cum y (i + 1) = n - J - cum y i - lenM y i by have := S.out; omega)
      clear le d2
      generalize lenM y i = l0 at *
      generalize cum y i = ci at *
      go_wp2_with (go_at_call 18; (with_reducible refine (MK.out _ L0).mono ?_); rintro e w' ⟨rfl, rfl⟩)
      go_round
      case rel => exact ⟨i + 1, by omega, by omega, by rw [S'.out], rfl⟩
      case measure => simp [intOf]; omega
    · have e : i = m := by omega
      subst e
      have lt : ¬ lenM y i ≤ n - J - cum y i := by omega
      have el := Lib.hid (show n - J - cum y i + 1 = d by omega)
      have b1 : 0 ≤ n - J - cum y i := by omega
      have b2 : n - J - cum y i ≤ 31 := by omega
      clear le d2
      generalize lenM y i = l0 at *
      generalize cum y i = ci at *
      obtain ⟨_, a0, a1, a2, f0, f1, f2⟩ := KB.head.three
      go_wp2_with (go_at_call 18; (with_reducible refine (MK.out _ L0).mono ?_); rintro e w' ⟨rfl, rfl⟩)
      go_wp2
      obtain ⟨_, P0, P1, P2, _, _, _⟩ := (KB.head.self3 (.int .i64 (y)) (.int .i64 (i)) (.int .i64 (n - J - ci + 1))).three
      have HB := ((KB.hb.setCell (p := ⟨w.heap.size, 0, none⟩) (Nat.le_refl _) (.int .i64 (y))).setCell (p := ⟨w.heap.size, 1, none⟩) (Nat.le_refl _) (.int .i64 (i))).setCell (p := ⟨w.heap.size, 2, none⟩) (Nat.le_refl _) (.int .i64 (n - J - ci + 1))
      exact bodyPost_ret (v := .tuple #[.agg #[.int .i64 (y), .int .i64 (i), .int .i64 (n - J - ci + 1)], .bool true]) (by simp [results, Tryd.results12, go_sem, P0, P1, P2]) rfl ⟨by rw [el.out], HB⟩
theorem ofP_yes (n y m d : Int) (h : okD y m d) (hn : numD y m d = n) (w : World) (L : Lens w) : Calls Tryd.prog 12 #[.int .i64 n] w (RetDateB w y m d true) := by
  have oy := ok_year h
  have yr := num_year h.1
  rw [hn] at yr
  obtain ⟨⟨m1, m2, d1, d2⟩, n1, n2⟩ := h
  rw [hn] at n1 n2
  have jb := jan_bound (y := y) (by omega) (by omega)
  exact ofP_core n y m d _ n1 n2 m1 m2 d1 d2 (by unfold numD at hn; omega) jb.1 jb.2 (Lib.hid fun W => by
    have c := countP n W
    rwa [show nk n = true from decide_eq_true ⟨n1, n2⟩] at c) (Lib.hid fun W => yofP n y (by omega) (by omega) yr.1 yr.2 W) (Lib.hid fun W => ystartP y (by omega) (by omega) W) w L
end Go.Proofs.YtmmgppfopojnlaaDoor
