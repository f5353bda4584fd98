/- The document's answer of layer 5: the number of a date. -/
import Derived.Test.YtmmgppfopojnlaaDoorCrefb
import Derived.Test.YtmmgppfopojnlaaDoorGm
namespace Go.Proofs.YtmmgppfopojnlaaDoor
open Go.RowKit

/-- a number within bounds -/
def nv (n : Int) : Int := if -100000001 ≤ n ∧ n ≤ 100000000 then n else 0
def nk (n : Int) : Bool := decide (-100000001 ≤ n ∧ n ≤ 100000000)
theorem nv_no {n : Int} (h : n < -100000001 ∨ 100000000 < n) : nv n = 0 ∧ nk n = false := ⟨by unfold nv; rw [if_neg (by omega)], decide_eq_false (by omega)⟩
theorem nv_yes {n : Int} (h1 : -100000001 ≤ n) (h2 : n ≤ 100000000) : nv n = n ∧ nk n = true := ⟨by unfold nv; rw [if_pos ⟨h1, h2⟩], decide_eq_true ⟨h1, h2⟩⟩
/-- What a call that answers a number and a bool leaves. -/
def RetNumB (w : World) (n : Int) (ok : Bool) (e : Ending) (w' : World) : Prop := e = .returned (.tuple #[.int .i64 n, .bool ok]) ∧ Below w.heap.size w w'
set_option maxRecDepth 100000 in
set_option maxHeartbeats 4000000 in
theorem daysR_no0 (y m d : Int)  (y1 : y < -280000) (w : World) :
    Calls Tryd.prog 11 #[.agg #[.int .i64 y, .int .i64 m, .int .i64 d]] w (RetNumB w 0 false) := by
  have gy1 : decide (y < -280000) = true := decide_eq_true y1
  have KB := (BK.nil w).more3 (.int .i64 y) (.int .i64 m) (.int .i64 d) 23
  go_enter Tryd.func11, Tryd.ntmps11
  go_wp2_with fail
  generalize w.alloc (.cells #[.int .i64 y, .int .i64 m, .int .i64 d] 23) = w0 at *
  obtain ⟨_, a0, a1, a2, _⟩ := KB.head.three
  go_quiet (fail)
  replace KB := KB.below (below_drewN (Below.refl _ _) nq)
  generalize w0.drewN nq = w1 at *
  have HB := KB.hb
  go_wp2
  go_ret2
  exact ⟨rfl, HB⟩
set_option maxRecDepth 100000 in
set_option maxHeartbeats 4000000 in
theorem daysR_no1 (y m d : Int) (y1 : ¬ y < -280000) (y2 : 280000 < y) (w : World) :
    Calls Tryd.prog 11 #[.agg #[.int .i64 y, .int .i64 m, .int .i64 d]] w (RetNumB w 0 false) := by
  have gy1 : decide (y < -280000) = false := decide_eq_false y1
  have gy2 : decide (280000 < y) = true := decide_eq_true y2
  have KB := (BK.nil w).more3 (.int .i64 y) (.int .i64 m) (.int .i64 d) 23
  go_enter Tryd.func11, Tryd.ntmps11
  go_wp2_with fail
  generalize w.alloc (.cells #[.int .i64 y, .int .i64 m, .int .i64 d] 23) = w0 at *
  obtain ⟨_, a0, a1, a2, _⟩ := KB.head.three
  go_quiet (fail)
  replace KB := KB.below (below_drewN (Below.refl _ _) nq)
  generalize w0.drewN nq = w1 at *
  have HB := KB.hb
  go_wp2
  go_ret2
  exact ⟨rfl, HB⟩
set_option maxRecDepth 100000 in
set_option maxHeartbeats 4000000 in
theorem daysR_no2 (y m d : Int) (y1 : ¬ y < -280000) (y2 : ¬ 280000 < y) (m1 : m < 1) (w : World) :
    Calls Tryd.prog 11 #[.agg #[.int .i64 y, .int .i64 m, .int .i64 d]] w (RetNumB w 0 false) := by
  have gy1 : decide (y < -280000) = false := decide_eq_false y1
  have gy2 : decide (280000 < y) = false := decide_eq_false y2
  have gm1 : decide (m < 1) = true := decide_eq_true m1
  have KB := (BK.nil w).more3 (.int .i64 y) (.int .i64 m) (.int .i64 d) 23
  go_enter Tryd.func11, Tryd.ntmps11
  go_wp2_with fail
  generalize w.alloc (.cells #[.int .i64 y, .int .i64 m, .int .i64 d] 23) = w0 at *
  obtain ⟨_, a0, a1, a2, _⟩ := KB.head.three
  go_quiet (fail)
  replace KB := KB.below (below_drewN (Below.refl _ _) nq)
  generalize w0.drewN nq = w1 at *
  have HB := KB.hb
  go_wp2
  go_ret2
  exact ⟨rfl, HB⟩
set_option maxRecDepth 100000 in
set_option maxHeartbeats 4000000 in
theorem daysR_no3 (y m d : Int) (y1 : ¬ y < -280000) (y2 : ¬ 280000 < y) (m1 : ¬ m < 1) (m2 : 12 < m) (w : World) :
    Calls Tryd.prog 11 #[.agg #[.int .i64 y, .int .i64 m, .int .i64 d]] w (RetNumB w 0 false) := by
  have gy1 : decide (y < -280000) = false := decide_eq_false y1
  have gy2 : decide (280000 < y) = false := decide_eq_false y2
  have gm1 : decide (m < 1) = false := decide_eq_false m1
  have gm2 : decide (12 < m) = true := decide_eq_true m2
  have KB := (BK.nil w).more3 (.int .i64 y) (.int .i64 m) (.int .i64 d) 23
  go_enter Tryd.func11, Tryd.ntmps11
  go_wp2_with fail
  generalize w.alloc (.cells #[.int .i64 y, .int .i64 m, .int .i64 d] 23) = w0 at *
  obtain ⟨_, a0, a1, a2, _⟩ := KB.head.three
  go_quiet (fail)
  replace KB := KB.below (below_drewN (Below.refl _ _) nq)
  generalize w0.drewN nq = w1 at *
  have HB := KB.hb
  go_wp2
  go_ret2
  exact ⟨rfl, HB⟩
set_option maxRecDepth 100000 in
set_option maxHeartbeats 4000000 in
theorem daysR_no4 (y m d : Int) (y1 : ¬ y < -280000) (y2 : ¬ 280000 < y) (m1 : ¬ m < 1) (m2 : ¬ 12 < m) (d1 : d < 1) (w : World) :
    Calls Tryd.prog 11 #[.agg #[.int .i64 y, .int .i64 m, .int .i64 d]] w (RetNumB w 0 false) := by
  have gy1 : decide (y < -280000) = false := decide_eq_false y1
  have gy2 : decide (280000 < y) = false := decide_eq_false y2
  have gm1 : decide (m < 1) = false := decide_eq_false m1
  have gm2 : decide (12 < m) = false := decide_eq_false m2
  have gd1 : decide (d < 1) = true := decide_eq_true d1
  have KB := (BK.nil w).more3 (.int .i64 y) (.int .i64 m) (.int .i64 d) 23
  go_enter Tryd.func11, Tryd.ntmps11
  go_wp2_with fail
  generalize w.alloc (.cells #[.int .i64 y, .int .i64 m, .int .i64 d] 23) = w0 at *
  obtain ⟨_, a0, a1, a2, _⟩ := KB.head.three
  go_quiet (fail)
  replace KB := KB.below (below_drewN (Below.refl _ _) nq)
  generalize w0.drewN nq = w1 at *
  have HB := KB.hb
  go_wp2
  go_ret2
  exact ⟨rfl, HB⟩
set_option maxRecDepth 100000 in
set_option maxHeartbeats 4000000 in
theorem daysR_no5 (y m d : Int) (y1 : ¬ y < -280000) (y2 : ¬ 280000 < y) (m1 : ¬ m < 1) (m2 : ¬ 12 < m) (d1 : ¬ d < 1) (d2 : lenM y m < d) (w : World) :
    Calls Tryd.prog 11 #[.agg #[.int .i64 y, .int .i64 m, .int .i64 d]] w (RetNumB w 0 false) := by
  have gy1 : decide (y < -280000) = false := decide_eq_false y1
  have gy2 : decide (280000 < y) = false := decide_eq_false y2
  have gm1 : decide (m < 1) = false := decide_eq_false m1
  have gm2 : decide (12 < m) = false := decide_eq_false m2
  have gd1 : decide (d < 1) = false := decide_eq_false d1
  have gd2 : decide (lenM y m < d) = true := decide_eq_true d2
  have MR := Lib.hid (fun m W => monthR y m W)
  have KB := (BK.nil w).more3 (.int .i64 y) (.int .i64 m) (.int .i64 d) 23
  go_enter Tryd.func11, Tryd.ntmps11
  go_wp2_with fail
  generalize w.alloc (.cells #[.int .i64 y, .int .i64 m, .int .i64 d] 23) = w0 at *
  obtain ⟨_, a0, a1, a2, _⟩ := KB.head.three
  go_quiet ((first
    | (go_at_call 19; exact Calls.quiet_of_same ((MR.out m _).mono fun _ _ ⟨h1, h2⟩ => ⟨h1, h2.symm⟩))))
  replace KB := KB.below (below_drewN (Below.refl _ _) nq)
  generalize w0.drewN nq = w1 at *
  have HB := KB.hb
  go_wp2
  go_ret2
  exact ⟨rfl, HB⟩
set_option maxRecDepth 100000 in
set_option maxHeartbeats 4000000 in
theorem daysR_core (y m d : Int) (y1 : ¬ y < -280000) (y2 : ¬ 280000 < y) (m1 : ¬ m < 1) (m2 : ¬ 12 < m) (d1 : ¬ d < 1) (d2 : ¬ lenM y m < d) (n : Int) (hn : Hid (numD y m d = n)) (w : World) :
    Calls Tryd.prog 11 #[.agg #[.int .i64 y, .int .i64 m, .int .i64 d]] w (RetNumB w (nv n) (nk n)) := by
  have gy1 : decide (y < -280000) = false := decide_eq_false y1
  have gy2 : decide (280000 < y) = false := decide_eq_false y2
  have gm1 : decide (m < 1) = false := decide_eq_false m1
  have gm2 : decide (12 < m) = false := decide_eq_false m2
  have gd1 : decide (d < 1) = false := decide_eq_false d1
  have gd2 : decide (lenM y m < d) = false := decide_eq_false d2
  have MR := Lib.hid (fun m W => monthR y m W)
  have JR := Lib.hid (fun W => janR y (by omega) (by omega) W)
  have ml := lenM_le y m
  have KB := (BK.nil w).more3 (.int .i64 y) (.int .i64 m) (.int .i64 d) 23
  go_enter Tryd.func11, Tryd.ntmps11
  go_wp2_with fail
  generalize w.alloc (.cells #[.int .i64 y, .int .i64 m, .int .i64 d] 23) = w0 at *
  obtain ⟨_, a0, a1, a2, _⟩ := KB.head.three
  go_quiet ((first
    | (go_at_call 19; exact Calls.quiet_of_same ((MR.out m _).mono fun _ _ ⟨h1, h2⟩ => ⟨h1, h2.symm⟩))))
  replace KB := KB.below (below_drewN (Below.refl _ _) nq)
  generalize w0.drewN nq = w1 at *
  clear a0 a1 a2
  obtain ⟨_, a0, a1, a2, _⟩ := KB.head.three
  have jb := jan_bound (y := y) (by omega) (by omega)
  have CO := Lib.hid (cum_one y)
  have CS := Lib.hid (fun k h1 h2 => cum_succ (y := y) (m := k) h1 h2)
  have CR := Lib.hid (fun k h1 h2 => cum_range (y := y) (m := k) h1 h2)
  have YR := lenY_range y
  have ND := Lib.hid (show jan y + cum y m + (d - 1) = n from hn.out)
  generalize jan y = J at *
  go_wp2_with (go_at_call 36; refine (JR.out _).mono ?_; rintro e w' ⟨rfl, rfl⟩)
  go_loop [4, 5] (fun v4 v5 => ∃ k : Int, 1 ≤ k ∧ k ≤ m ∧ v4 = .int .i64 (J + cum y k) ∧ v5 = .int .i64 k) (fun _ v5 => (m - intOf v5).toNat)
  case atStart => exact ⟨1, by omega, by omega, by rw [CO.out, Int.add_zero], rfl⟩
  case round =>
    obtain ⟨k, k1, k2, rfl, rfl⟩ := hrel
    have cr := CR.out k k1 (by omega)
    have lk := lenM_le y k
    by_cases hk : k < m
    · have S := Lib.hid (CS.out k k1 (by omega))
      have ML := Lib.hid (fun W => MR.out k W)
      generalize cum y k = ck at *
      generalize lenM y k = l0 at *
      go_wp2_with (go_at_call 19; refine (ML.out _).mono ?_; rintro e w' ⟨rfl, rfl⟩)
      go_round
      case rel => exact ⟨k + 1, by omega, by omega, by rw [S.out, Int.add_assoc], rfl⟩
      case measure => simp [intOf]; omega
    · have e : k = m := by omega
      subst e
      have HB := KB.hb
      have ne : J + cum y k + d - 1 = n := by have := ND.out; omega
      clear CS CR CO MR JR hn ND
      generalize cum y k = ck at *
      generalize lenM y k = l0 at *
      by_cases n1 : n < -100000001
      · have E := Lib.hid (nv_no (n := n) (.inl n1))
        go_wp2
        go_ret2
        exact ⟨by rw [E.out.1, E.out.2]; rfl, HB⟩
      · by_cases n2 : 100000000 < n
        · have E := Lib.hid (nv_no (n := n) (.inr n2))
          go_wp2
          go_ret2
          exact ⟨by rw [E.out.1, E.out.2]; rfl, HB⟩
        · have E := Lib.hid (nv_yes (n := n) (by omega) (by omega))
          go_wp2
          go_ret2
          exact ⟨by rw [E.out.1, E.out.2]; rfl, HB⟩
/-- what Days tells -/
def dv (y m d : Int) : Int := if okD y m d then numD y m d else 0
theorem daysR (y m d : Int) (w : World) : Calls Tryd.prog 11 #[.agg #[.int .i64 y, .int .i64 m, .int .i64 d]] w (RetNumB w (dv y m d) (decide (okD y m d))) := by
  have no : ¬ okD y m d → ∀ {w}, Calls Tryd.prog 11 #[.agg #[.int .i64 y, .int .i64 m, .int .i64 d]] w (RetNumB w 0 false) → Calls Tryd.prog 11 #[.agg #[.int .i64 y, .int .i64 m, .int .i64 d]] w (RetNumB w (dv y m d) (decide (okD y m d))) := fun h _ c => by
    rw [decide_eq_false h, show dv y m d = 0 by unfold dv; rw [if_neg h]]; exact c
  by_cases y1 : y < -280000
  · exact no (fun h => by have := ok_year h; omega) (daysR_no0 y m d y1 w)
  by_cases y2 : 280000 < y
  · exact no (fun h => by have := ok_year h; omega) (daysR_no1 y m d y1 y2 w)
  by_cases m1 : m < 1
  · exact no (fun h => by have := h.1.1; omega) (daysR_no2 y m d y1 y2 m1 w)
  by_cases m2 : 12 < m
  · exact no (fun h => by have := h.1.2.1; omega) (daysR_no3 y m d y1 y2 m1 m2 w)
  by_cases d1 : d < 1
  · exact no (fun h => by have := h.1.2.2.1; omega) (daysR_no4 y m d y1 y2 m1 m2 d1 w)
  by_cases d2 : lenM y m < d
  · exact no (fun h => by have := h.1.2.2.2; omega) (daysR_no5 y m d y1 y2 m1 m2 d1 d2 w)
  have c := daysR_core y m d y1 y2 m1 m2 d1 d2 _ (Lib.hid rfl) w
  have iff : okD y m d ↔ (-100000001 ≤ numD y m d ∧ numD y m d ≤ 100000000) := ⟨fun h => h.2, fun h => ⟨⟨by omega, by omega, by omega, by omega⟩, h⟩⟩
  by_cases h : okD y m d
  · rw [(nv_yes (iff.1 h).1 (iff.1 h).2).1, (nv_yes (iff.1 h).1 (iff.1 h).2).2] at c
    rw [decide_eq_true h, show dv y m d = numD y m d by unfold dv; rw [if_pos h]]
    exact c
  · have h' : ¬ (-100000001 ≤ numD y m d ∧ numD y m d ≤ 100000000) := fun k => h (iff.2 k)
    obtain ⟨e1, e2⟩ := nv_no (n := numD y m d) (by omega)
    rw [e1, e2] at c
    exact no h c
end Go.Proofs.YtmmgppfopojnlaaDoor
