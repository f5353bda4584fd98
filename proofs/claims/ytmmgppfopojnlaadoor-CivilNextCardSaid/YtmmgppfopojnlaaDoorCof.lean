/- The document's answer of layer 5: the date of a number. -/
import Derived.Test.YtmmgppfopojnlaaDoorCdays
namespace Go.Proofs.YtmmgppfopojnlaaDoor
open Go.RowKit

/-- What a call that answers a date and a bool leaves. -/
def RetDateB (w : World) (y m d : Int) (ok : Bool) (e : Ending) (w' : World) : Prop := e = .returned (.tuple #[.agg #[.int .i64 y, .int .i64 m, .int .i64 d], .bool ok]) ∧ Below w.heap.size w w'
set_option maxRecDepth 100000 in
set_option maxHeartbeats 4000000 in
theorem ofR_no0 (n : Int) (h : n < -100000001) (w : World) :
    Calls Tryd.prog 13 #[.int .i64 n] w (RetDateB w 0 0 0 false) := by
  have KB := (BK.nil w).more3 (.int .i64 0) (.int .i64 0) (.int .i64 0) 23
  go_enter Tryd.func13, Tryd.ntmps13
  go_upto_region 1 with (fail)
  generalize w.alloc (.cells #[.int .i64 0, .int .i64 0, .int .i64 0] 23) = w0 at *
  obtain ⟨_, a0, a1, a2, f0, f1, f2⟩ := KB.head.three
  go_wp2
  obtain ⟨_, P0, P1, P2, _, _, _⟩ := (KB.head.self3 (.int .i64 (0)) (.int .i64 (0)) (.int .i64 (0))).three
  have HB := ((KB.hb.setCell (p := ⟨w.heap.size, 0, none⟩) (Nat.le_refl _) (.int .i64 (0))).setCell (p := ⟨w.heap.size, 1, none⟩) (Nat.le_refl _) (.int .i64 (0))).setCell (p := ⟨w.heap.size, 2, none⟩) (Nat.le_refl _) (.int .i64 (0))
  exact bodyPost_ret (v := .tuple #[.agg #[.int .i64 (0), .int .i64 (0), .int .i64 (0)], .bool false]) (by simp [results, Tryd.results13, go_sem, P0, P1, P2]) rfl ⟨rfl, HB⟩
set_option maxRecDepth 100000 in
set_option maxHeartbeats 4000000 in
theorem ofR_no1 (n : Int) (h0 : ¬ n < -100000001) (h : 100000000 < n) (w : World) :
    Calls Tryd.prog 13 #[.int .i64 n] w (RetDateB w 0 0 0 false) := by
  have KB := (BK.nil w).more3 (.int .i64 0) (.int .i64 0) (.int .i64 0) 23
  go_enter Tryd.func13, Tryd.ntmps13
  go_upto_region 1 with (fail)
  generalize w.alloc (.cells #[.int .i64 0, .int .i64 0, .int .i64 0] 23) = w0 at *
  obtain ⟨_, a0, a1, a2, f0, f1, f2⟩ := KB.head.three
  go_wp2
  obtain ⟨_, P0, P1, P2, _, _, _⟩ := (KB.head.self3 (.int .i64 (0)) (.int .i64 (0)) (.int .i64 (0))).three
  have HB := ((KB.hb.setCell (p := ⟨w.heap.size, 0, none⟩) (Nat.le_refl _) (.int .i64 (0))).setCell (p := ⟨w.heap.size, 1, none⟩) (Nat.le_refl _) (.int .i64 (0))).setCell (p := ⟨w.heap.size, 2, none⟩) (Nat.le_refl _) (.int .i64 (0))
  exact bodyPost_ret (v := .tuple #[.agg #[.int .i64 (0), .int .i64 (0), .int .i64 (0)], .bool false]) (by simp [results, Tryd.results13, go_sem, P0, P1, P2]) rfl ⟨rfl, HB⟩
set_option maxRecDepth 100000 in
set_option maxHeartbeats 4000000 in
theorem ofR_core (n y m d : Int) (n1 : ¬ n < -100000001) (n2 : ¬ 100000000 < n) (hd : dayOk y m d) (hn : numD y m d = n) (w : World) :
    Calls Tryd.prog 13 #[.int .i64 n] w (RetDateB w y m d true) := by
  obtain ⟨c, hc⟩ : ∃ c : Int, c = (n + 719528) / 146097 := ⟨_, rfl⟩
  have D := Lib.hid (fun W => down146097 (n + 719528) (by omega) (by omega) W)
  rw [← hc] at D
  have yr := num_year hd
  rw [hn] at yr
  have jc := jan_cycle c
  have j4 := jan_400 (400 * c)
  have oy := ok_year (y := y) (m := m) (d := d) ⟨hd, by omega, by omega⟩
  have cy1 : 400 * c ≤ y := by
    apply Classical.byContradiction
    intro k
    have := jan_le (show y + 1 ≤ 400 * c by omega)
    omega
  have cy2 : y ≤ 400 * c + 400 := by
    apply Classical.byContradiction
    intro k
    have := jan_le (show 400 * c + 400 ≤ y by omega)
    omega
  obtain ⟨m1, m2, d1, d2⟩ := hd
  have hn' : n - jan y = cum y m + (d - 1) := by unfold numD at hn; omega
  have c1 : -3000 ≤ c := by omega
  have c2 : c ≤ 3000 := by omega
  have cb1 : -500000000 ≤ c * 146097 := by omega
  have cb2 : c * 146097 ≤ 500000000 := by omega
  have J := Lib.hid (show n + 719528 - c * 146097 = n - jan (400 * c) by omega)
  have Y := Lib.hid (fun k W => lenYR k W)
  have MR := Lib.hid (fun k W => monthR y k W)
  have ME := Lib.hid hn'
  have YE := Lib.hid yr
  clear hc jc j4 hn hn' yr
  have KB := (BK.nil w).more3 (.int .i64 0) (.int .i64 0) (.int .i64 0) 23
  go_enter Tryd.func13, Tryd.ntmps13
  go_upto_region 1 with (fail)
  generalize w.alloc (.cells #[.int .i64 0, .int .i64 0, .int .i64 0] 23) = w0 at *
  go_wp2_with (go_at_call 38; refine (D.out _).mono ?_; rintro e w' ⟨rfl, rfl⟩)
  go_loop [5, 6] (fun v5 v6 => ∃ k : Int, 400 * c ≤ k ∧ k ≤ y ∧ v5 = .int .i64 k ∧ v6 = .int .i64 (n - jan k)) (fun v5 _ => (y - intOf v5).toNat)
  case atStart => exact ⟨400 * c, by omega, by omega, by go_num, by rw [← J.out]⟩
  case round =>
    obtain ⟨k, k1, k2, rfl, rfl⟩ := hrel
    have jb := jan_bound (y := k) (by omega) (by omega)
    have lb := lenY_range k
    have YK := Lib.hid (fun W => Y.out k W)
    by_cases hk : k < y
    · have S := Lib.hid (jan_succ k)
      have ge : lenY k ≤ n - jan k := by
        have := jan_le (show k + 1 ≤ y by omega)
        have := S.out
        have := YE.out
        omega
      have S' := Lib.hid (show n - jan (k + 1) = n - jan k - lenY k by have := S.out; omega)
      generalize jan k = jk at *
      generalize lenY k = lk at *
      go_wp2_with (go_at_call 39; refine (YK.out _).mono ?_; rintro e w' ⟨rfl, rfl⟩)
      go_round
      case rel => exact ⟨k + 1, by omega, by omega, rfl, by rw [S'.out]⟩
      case measure => simp [intOf]; omega
    · have e : k = y := by omega
      subst e
      have lt : ¬ lenY k ≤ n - jan k := by have := YE.out; have := jan_succ k; omega
      have CO := Lib.hid (cum_one k)
      have LE := Lib.hid ME.out
      generalize hl : n - jan k = left at *
      clear J Y YE
      generalize lenY k = lk at *
      go_wp2_with (go_at_call 39; refine (YK.out _).mono ?_; rintro e w' ⟨rfl, rfl⟩)
      go_loop [6, 7] (fun v6 v7 => ∃ i : Int, 1 ≤ i ∧ i ≤ m ∧ v6 = .int .i64 (left - cum k i) ∧ v7 = .int .i64 i) (fun _ v7 => (m - intOf v7).toNat)
      case atStart => exact ⟨1, by omega, by omega, by rw [CO.out, Int.sub_zero], rfl⟩
      case round =>
        obtain ⟨i, i1, i2, rfl, rfl⟩ := hrel
        have MK := Lib.hid (fun W => MR.out i W)
        have ml := lenM_le k i
        have cr := cum_range (y := k) (m := i) i1 (by omega)
        have cm := cum_range (y := k) (m := m) (by omega) (by omega)
        have le := LE.out
        by_cases hi : i < m
        · have S := Lib.hid (cum_succ (y := k) i1 (by omega))
          have ge : lenM k i ≤ left - cum k i := by have := cum_lt (y := k) i1 hi (by omega); omega
          have S' := Lib.hid (show left - cum k (i + 1) = left - cum k i - lenM k i by have := S.out; omega)
          clear le
          generalize lenM k i = l0 at *
          generalize cum k i = ci at *
          go_wp2_with (go_at_call 19; refine (MK.out _).mono ?_; rintro e w' ⟨rfl, rfl⟩)
          go_round
          case rel => exact ⟨i + 1, by omega, by omega, by rw [S'.out], rfl⟩
          case measure => simp [intOf]; omega
        · have e : i = m := by omega
          subst e
          have lt : ¬ lenM k i ≤ left - cum k i := by omega
          have el := Lib.hid (show left - cum k i + 1 = d by omega)
          have b1 : 0 ≤ left - cum k i := by omega
          have b2 : left - cum k i ≤ 31 := by omega
          clear le
          generalize lenM k i = l0 at *
          generalize cum k i = ci at *
          obtain ⟨_, a0, a1, a2, f0, f1, f2⟩ := KB.head.three
          go_wp2_with (go_at_call 19; refine (MK.out _).mono ?_; rintro e w' ⟨rfl, rfl⟩)
          go_wp2
          obtain ⟨_, P0, P1, P2, _, _, _⟩ := (KB.head.self3 (.int .i64 (k)) (.int .i64 (i)) (.int .i64 (left - ci + 1))).three
          have HB := ((KB.hb.setCell (p := ⟨w.heap.size, 0, none⟩) (Nat.le_refl _) (.int .i64 (k))).setCell (p := ⟨w.heap.size, 1, none⟩) (Nat.le_refl _) (.int .i64 (i))).setCell (p := ⟨w.heap.size, 2, none⟩) (Nat.le_refl _) (.int .i64 (left - ci + 1))
          exact bodyPost_ret (v := .tuple #[.agg #[.int .i64 (k), .int .i64 (i), .int .i64 (left - ci + 1)], .bool true]) (by simp [results, Tryd.results13, go_sem, P0, P1, P2]) rfl ⟨by rw [el.out], HB⟩
theorem ofR_no (n : Int) (h : n < -100000001 ∨ 100000000 < n) (w : World) : Calls Tryd.prog 13 #[.int .i64 n] w (RetDateB w 0 0 0 false) := by
  by_cases h1 : n < -100000001
  · exact ofR_no0 n h1 w
  · exact ofR_no1 n h1 (by omega) w
theorem ofR_yes (n y m d : Int) (h : okD y m d) (hn : numD y m d = n) (w : World) : Calls Tryd.prog 13 #[.int .i64 n] w (RetDateB w y m d true) :=
  ofR_core n y m d (by have := h.2; omega) (by have := h.2; omega) h.1 hn w
end Go.Proofs.YtmmgppfopojnlaaDoor
