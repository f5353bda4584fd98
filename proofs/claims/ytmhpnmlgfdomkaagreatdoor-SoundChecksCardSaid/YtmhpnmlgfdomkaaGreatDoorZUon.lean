/- The document's answer of layer 9: the day and the moment on which a spot falls. -/
import Derived.Test.YtmhpnmlgfdomkaaGreatDoorZGua
import Derived.Test.YtmhpnmlgfdomkaaGreatDoorZGc
import Derived.Deep.RegionHeld3
import Derived.BigQuiet
import Derived.Outline
set_option maxRecDepth 100000
set_option maxHeartbeats 64000000
namespace Go.Proofs.YtmhpnmlgfdomkaaGreatDoor
open Go.RowKit
theorem on_r (mo ki wd da ti re y : Int) (RI : Hid (∀ W, Calls Tryz.prog 61 #[.agg #[.int .i64 (mo), .int .i64 (ki), .int .i64 (wd), .int .i64 (da), .int .i64 (ti), .int .i64 (re)]] W (RetV W (.bool false)))) (w : World) :
    Calls Tryz.prog 97 #[.agg #[.int .i64 (mo), .int .i64 (ki), .int .i64 (wd), .int .i64 (da), .int .i64 (ti), .int .i64 (re)], .int .i64 y] w (RetNumB w 0 false) := by
  go_enter Tryz.func97, Tryz.ntmps97
  go_upto_region 1 with (fail)
  have KB := ((BK.nil w).more6 (.int .i64 (mo)) (.int .i64 (ki)) (.int .i64 (wd)) (.int .i64 (da)) (.int .i64 (ti)) (.int .i64 (re)) 34)
  generalize (w.alloc (.cells #[.int .i64 (mo), .int .i64 (ki), .int .i64 (wd), .int .i64 (da), .int .i64 (ti), .int .i64 (re)] 34)) = w0 at *
  obtain ⟨_, q0a, q0b, q0c, q0d, q0e, q0f, _⟩ := (KB.head).six
  go_wp2_with fail
  clear q0a q0b q0c q0d q0e q0f
  refine (RI.out _).mono ?_
  rintro e w1 ⟨rfl, k⟩
  replace KB := KB.below k
  clear k
  have HB := KB.hb
  go_wp2
  go_ret2
  exact ⟨rfl, HB⟩
theorem on_y1 (mo ki wd da ti re y : Int) (_h1 : y < 1) (RI : Hid (∀ W, Calls Tryz.prog 61 #[.agg #[.int .i64 (mo), .int .i64 (ki), .int .i64 (wd), .int .i64 (da), .int .i64 (ti), .int .i64 (re)]] W (RetV W (.bool true)))) (w : World) :
    Calls Tryz.prog 97 #[.agg #[.int .i64 (mo), .int .i64 (ki), .int .i64 (wd), .int .i64 (da), .int .i64 (ti), .int .i64 (re)], .int .i64 y] w (RetNumB w 0 false) := by
  go_enter Tryz.func97, Tryz.ntmps97
  go_upto_region 1 with (fail)
  have KB := ((BK.nil w).more6 (.int .i64 (mo)) (.int .i64 (ki)) (.int .i64 (wd)) (.int .i64 (da)) (.int .i64 (ti)) (.int .i64 (re)) 34)
  generalize (w.alloc (.cells #[.int .i64 (mo), .int .i64 (ki), .int .i64 (wd), .int .i64 (da), .int .i64 (ti), .int .i64 (re)] 34)) = w0 at *
  obtain ⟨_, q0a, q0b, q0c, q0d, q0e, q0f, _⟩ := (KB.head).six
  go_wp2_with fail
  clear q0a q0b q0c q0d q0e q0f
  refine (RI.out _).mono ?_
  rintro e w1 ⟨rfl, k⟩
  replace KB := KB.below k
  clear k
  have d1 : decide (y < 1) = true := decide_eq_true (by omega)
  have HB := KB.hb
  go_wp2
  go_ret2
  exact ⟨rfl, HB⟩
theorem on_y2 (mo ki wd da ti re y : Int) (_h1 : 300000 < y) (RI : Hid (∀ W, Calls Tryz.prog 61 #[.agg #[.int .i64 (mo), .int .i64 (ki), .int .i64 (wd), .int .i64 (da), .int .i64 (ti), .int .i64 (re)]] W (RetV W (.bool true)))) (w : World) :
    Calls Tryz.prog 97 #[.agg #[.int .i64 (mo), .int .i64 (ki), .int .i64 (wd), .int .i64 (da), .int .i64 (ti), .int .i64 (re)], .int .i64 y] w (RetNumB w 0 false) := by
  go_enter Tryz.func97, Tryz.ntmps97
  go_upto_region 1 with (fail)
  have KB := ((BK.nil w).more6 (.int .i64 (mo)) (.int .i64 (ki)) (.int .i64 (wd)) (.int .i64 (da)) (.int .i64 (ti)) (.int .i64 (re)) 34)
  generalize (w.alloc (.cells #[.int .i64 (mo), .int .i64 (ki), .int .i64 (wd), .int .i64 (da), .int .i64 (ti), .int .i64 (re)] 34)) = w0 at *
  obtain ⟨_, q0a, q0b, q0c, q0d, q0e, q0f, _⟩ := (KB.head).six
  go_wp2_with fail
  clear q0a q0b q0c q0d q0e q0f
  refine (RI.out _).mono ?_
  rintro e w1 ⟨rfl, k⟩
  replace KB := KB.below k
  clear k
  have d1 : decide (y < 1) = false := decide_eq_false (by omega)
  have d2 : decide (300000 < y) = true := decide_eq_true (by omega)
  have HB := KB.hb
  go_wp2
  go_ret2
  exact ⟨rfl, HB⟩
theorem on_f (mo ki wd da ti re y : Int) (_y1 : 1 ≤ y) (_y2 : y ≤ 300000) (RI : Hid (∀ W, Calls Tryz.prog 61 #[.agg #[.int .i64 (mo), .int .i64 (ki), .int .i64 (wd), .int .i64 (da), .int .i64 (ti), .int .i64 (re)]] W (RetV W (.bool true)))) (DA : Hid (∀ W, Calls Tryz.prog 119 #[.agg #[.int .i64 y, .int .i64 mo, .int .i64 1]] W (RetNumB W 0 false))) (w : World) :
    Calls Tryz.prog 97 #[.agg #[.int .i64 (mo), .int .i64 (ki), .int .i64 (wd), .int .i64 (da), .int .i64 (ti), .int .i64 (re)], .int .i64 y] w (RetNumB w 0 false) := by
  go_enter Tryz.func97, Tryz.ntmps97
  go_upto_region 1 with (fail)
  have KB := ((BK.nil w).more6 (.int .i64 (mo)) (.int .i64 (ki)) (.int .i64 (wd)) (.int .i64 (da)) (.int .i64 (ti)) (.int .i64 (re)) 34)
  generalize (w.alloc (.cells #[.int .i64 (mo), .int .i64 (ki), .int .i64 (wd), .int .i64 (da), .int .i64 (ti), .int .i64 (re)] 34)) = w0 at *
  obtain ⟨_, q0a, q0b, q0c, q0d, q0e, q0f, _⟩ := (KB.head).six
  go_wp2_with fail
  clear q0a q0b q0c q0d q0e q0f
  refine (RI.out _).mono ?_
  rintro e w1 ⟨rfl, k⟩
  replace KB := KB.below k
  clear k
  have d1 : decide (y < 1) = false := decide_eq_false (by omega)
  have d2 : decide (300000 < y) = false := decide_eq_false (by omega)
  obtain ⟨_, q0a, q0b, q0c, q0d, q0e, q0f, _⟩ := (KB.head).six
  go_wp2_with fail
  clear q0a q0b q0c q0d q0e q0f
  refine (DA.out _).mono ?_
  rintro e w2 ⟨rfl, k⟩
  replace KB := KB.below k
  clear k
  have HB := KB.hb
  go_wp2
  go_ret2
  exact ⟨rfl, HB⟩
theorem on_0no (mo wd da ti re y : Int) (_y1 : 1 ≤ y) (_y2 : y ≤ 300000) (n : Int) (n1 : -100000001 ≤ n) (n2 : n ≤ 100000000) (d1 : -100 ≤ da ∧ da ≤ 100) (_h3 : 100000000 < n + da - 1) (RI : Hid (∀ W, Calls Tryz.prog 61 #[.agg #[.int .i64 (mo), .int .i64 (0), .int .i64 (wd), .int .i64 (da), .int .i64 (ti), .int .i64 (re)]] W (RetV W (.bool true)))) (DA : Hid (∀ W, Calls Tryz.prog 119 #[.agg #[.int .i64 y, .int .i64 mo, .int .i64 1]] W (RetNumB W n true))) (w : World) :
    Calls Tryz.prog 97 #[.agg #[.int .i64 (mo), .int .i64 (0), .int .i64 (wd), .int .i64 (da), .int .i64 (ti), .int .i64 (re)], .int .i64 y] w (RetNumB w 0 false) := by
  go_enter Tryz.func97, Tryz.ntmps97
  go_upto_region 1 with (fail)
  have KB := ((BK.nil w).more6 (.int .i64 (mo)) (.int .i64 (0)) (.int .i64 (wd)) (.int .i64 (da)) (.int .i64 (ti)) (.int .i64 (re)) 34)
  generalize (w.alloc (.cells #[.int .i64 (mo), .int .i64 (0), .int .i64 (wd), .int .i64 (da), .int .i64 (ti), .int .i64 (re)] 34)) = w0 at *
  obtain ⟨_, q0a, q0b, q0c, q0d, q0e, q0f, _⟩ := (KB.head).six
  go_wp2_with fail
  clear q0a q0b q0c q0d q0e q0f
  refine (RI.out _).mono ?_
  rintro e w1 ⟨rfl, k⟩
  replace KB := KB.below k
  clear k
  have d1 : decide (y < 1) = false := decide_eq_false (by omega)
  have d2 : decide (300000 < y) = false := decide_eq_false (by omega)
  obtain ⟨_, q0a, q0b, q0c, q0d, q0e, q0f, _⟩ := (KB.head).six
  go_wp2_with fail
  clear q0a q0b q0c q0d q0e q0f
  refine (DA.out _).mono ?_
  rintro e w2 ⟨rfl, k⟩
  replace KB := KB.below k
  clear k
  obtain ⟨_, qa, qb, qc, qd, qe, qf, _⟩ := (KB.head).six
  have d3 : decide (100000000 < n + da - 1) = true := decide_eq_true (by omega)
  go_upto_region 16 with (fail)
  clear qa qb qc qd qe qf
  go_loopw [8] (fun v8 wr => v8 = .int .i64 (n + da - 1) ∧ BK w [(w.heap.size, [.int .i64 (mo), .int .i64 (0), .int .i64 (wd), .int .i64 (da), .int .i64 (ti), .int .i64 (re)])] wr) (fun _ _ => 0)
  case atStart => exact ⟨rfl, KB⟩
  case round =>
    obtain ⟨rfl, KB⟩ := hrel
    obtain ⟨_, qa, qb, qc, qd, qe, qf, _⟩ := (KB.head).six
    go_wp2_with fail
    go_quiet (fail)
    replace KB := KB.below (below_drewN (Below.refl _ _) nq)
    have HB := KB.hb
    go_wp2
    go_ret2
    exact ⟨rfl, HB⟩
theorem on_0yes (mo wd da ti re y : Int) (_y1 : 1 ≤ y) (_y2 : y ≤ 300000) (n : Int) (n1 : -100000001 ≤ n) (n2 : n ≤ 100000000) (d1 : -100 ≤ da ∧ da ≤ 100) (_h3 : n + da - 1 ≤ 100000000) (RI : Hid (∀ W, Calls Tryz.prog 61 #[.agg #[.int .i64 (mo), .int .i64 (0), .int .i64 (wd), .int .i64 (da), .int .i64 (ti), .int .i64 (re)]] W (RetV W (.bool true)))) (DA : Hid (∀ W, Calls Tryz.prog 119 #[.agg #[.int .i64 y, .int .i64 mo, .int .i64 1]] W (RetNumB W n true))) (w : World) :
    Calls Tryz.prog 97 #[.agg #[.int .i64 (mo), .int .i64 (0), .int .i64 (wd), .int .i64 (da), .int .i64 (ti), .int .i64 (re)], .int .i64 y] w (RetNumB w (n + da - 1) true) := by
  go_enter Tryz.func97, Tryz.ntmps97
  go_upto_region 1 with (fail)
  have KB := ((BK.nil w).more6 (.int .i64 (mo)) (.int .i64 (0)) (.int .i64 (wd)) (.int .i64 (da)) (.int .i64 (ti)) (.int .i64 (re)) 34)
  generalize (w.alloc (.cells #[.int .i64 (mo), .int .i64 (0), .int .i64 (wd), .int .i64 (da), .int .i64 (ti), .int .i64 (re)] 34)) = w0 at *
  obtain ⟨_, q0a, q0b, q0c, q0d, q0e, q0f, _⟩ := (KB.head).six
  go_wp2_with fail
  clear q0a q0b q0c q0d q0e q0f
  refine (RI.out _).mono ?_
  rintro e w1 ⟨rfl, k⟩
  replace KB := KB.below k
  clear k
  have d1 : decide (y < 1) = false := decide_eq_false (by omega)
  have d2 : decide (300000 < y) = false := decide_eq_false (by omega)
  obtain ⟨_, q0a, q0b, q0c, q0d, q0e, q0f, _⟩ := (KB.head).six
  go_wp2_with fail
  clear q0a q0b q0c q0d q0e q0f
  refine (DA.out _).mono ?_
  rintro e w2 ⟨rfl, k⟩
  replace KB := KB.below k
  clear k
  obtain ⟨_, qa, qb, qc, qd, qe, qf, _⟩ := (KB.head).six
  have d3 : decide (100000000 < n + da - 1) = false := decide_eq_false (by omega)
  go_upto_region 16 with (fail)
  clear qa qb qc qd qe qf
  go_loopw [8] (fun v8 wr => v8 = .int .i64 (n + da - 1) ∧ BK w [(w.heap.size, [.int .i64 (mo), .int .i64 (0), .int .i64 (wd), .int .i64 (da), .int .i64 (ti), .int .i64 (re)])] wr) (fun _ _ => 0)
  case atStart => exact ⟨rfl, KB⟩
  case round =>
    obtain ⟨rfl, KB⟩ := hrel
    obtain ⟨_, qa, qb, qc, qd, qe, qf, _⟩ := (KB.head).six
    go_wp2_with fail
    go_quiet (fail)
    replace KB := KB.below (below_drewN (Below.refl _ _) nq)
    have HB := KB.hb
    go_wp2
    go_ret2
    exact ⟨rfl, HB⟩
theorem on_1no (mo wd da ti re y : Int) (_y1 : 1 ≤ y) (_y2 : y ≤ 300000) (n : Int) (n1 : -100000001 ≤ n) (n2 : n ≤ 100000000) (_d1 : -100 ≤ da ∧ da ≤ 100) (l : Int) (l1 : 28 ≤ l ∧ l ≤ 31) (MR : Hid (∀ W, Calls Tryz.prog 120 #[.int .i64 y, .int .i64 mo] W (fun e w' => e = .returned (.int .i64 l) ∧ W = w'))) (t : Int) (ht : (t + 3) % 7 + 1 = wd) (t1 : (n + l - 1) - 7 < t ∧ t ≤ (n + l - 1)) (_h3 : 100000000 < t) (RI : Hid (∀ W, Calls Tryz.prog 61 #[.agg #[.int .i64 (mo), .int .i64 (1), .int .i64 (wd), .int .i64 (da), .int .i64 (ti), .int .i64 (re)]] W (RetV W (.bool true)))) (DA : Hid (∀ W, Calls Tryz.prog 119 #[.agg #[.int .i64 y, .int .i64 mo, .int .i64 1]] W (RetNumB W n true))) (w : World) :
    Calls Tryz.prog 97 #[.agg #[.int .i64 (mo), .int .i64 (1), .int .i64 (wd), .int .i64 (da), .int .i64 (ti), .int .i64 (re)], .int .i64 y] w (RetNumB w 0 false) := by
  go_enter Tryz.func97, Tryz.ntmps97
  go_upto_region 1 with (fail)
  have KB := ((BK.nil w).more6 (.int .i64 (mo)) (.int .i64 (1)) (.int .i64 (wd)) (.int .i64 (da)) (.int .i64 (ti)) (.int .i64 (re)) 34)
  generalize (w.alloc (.cells #[.int .i64 (mo), .int .i64 (1), .int .i64 (wd), .int .i64 (da), .int .i64 (ti), .int .i64 (re)] 34)) = w0 at *
  obtain ⟨_, q0a, q0b, q0c, q0d, q0e, q0f, _⟩ := (KB.head).six
  go_wp2_with fail
  clear q0a q0b q0c q0d q0e q0f
  refine (RI.out _).mono ?_
  rintro e w1 ⟨rfl, k⟩
  replace KB := KB.below k
  clear k
  have d1 : decide (y < 1) = false := decide_eq_false (by omega)
  have d2 : decide (300000 < y) = false := decide_eq_false (by omega)
  obtain ⟨_, q0a, q0b, q0c, q0d, q0e, q0f, _⟩ := (KB.head).six
  go_wp2_with fail
  clear q0a q0b q0c q0d q0e q0f
  refine (DA.out _).mono ?_
  rintro e w2 ⟨rfl, k⟩
  replace KB := KB.below k
  clear k
  obtain ⟨_, qa, qb, qc, qd, qe, qf, _⟩ := (KB.head).six
  go_wp2_with fail
  refine (MR.out _).mono ?_
  rintro e _w ⟨rfl, rfl⟩
  go_upto_region 16 with (fail)
  clear qa qb qc qd qe qf
  go_loopw [8] (fun v8 wr => ∃ m : Int, v8 = .int .i64 m ∧ (t ≤ m ∧ m ≤ (n + l - 1)) ∧ BK w [(w.heap.size, [.int .i64 (mo), .int .i64 (1), .int .i64 (wd), .int .i64 (da), .int .i64 (ti), .int .i64 (re)])] wr) (fun v8 _ => (intOf v8 - t).toNat)
  case atStart => exact ⟨_, rfl, by omega, KB⟩
  case round =>
    obtain ⟨m, rfl, ⟨m1, m2⟩, KB⟩ := hrel
    have DN := Lib.hid (fun W => down7 (m + 3) (by omega) (by omega) W)
    obtain ⟨q, hq⟩ : ∃ q, (m + 3) / 7 = q := ⟨_, rfl⟩
    rw [hq] at DN
    have q1 : -100000000 ≤ q ∧ q ≤ 100000000 := by omega
    by_cases hm : m = t
    · subst hm
      have g : (m + 3 - 7 * q + 1 != wd) = false := by rw [bne_eq_false_iff_eq]; omega
      have d3 : decide (100000000 < m) = true := decide_eq_true (by omega)
      clear hq
      obtain ⟨_, qa, qb, qc, qd, qe, qf, _⟩ := (KB.head).six
      go_wp2_with fail
      go_quiet ((first
        | (go_at_call 121; exact Calls.quiet_of_same ((DN.out _).mono fun _ _ ⟨h1, h2⟩ => ⟨h1, h2.symm⟩))))
      replace KB := KB.below (below_drewN (Below.refl _ _) nq)
      have HB := KB.hb
      go_wp2
      go_ret2
      exact ⟨rfl, HB⟩
    · have g : (m + 3 - 7 * q + 1 != wd) = true := by rw [bne_iff_ne]; omega
      clear hq
      obtain ⟨_, qa, qb, qc, qd, qe, qf, _⟩ := (KB.head).six
      go_wp2_with fail
      go_quiet ((first
        | (go_at_call 121; exact Calls.quiet_of_same ((DN.out _).mono fun _ _ ⟨h1, h2⟩ => ⟨h1, h2.symm⟩))))
      replace KB := KB.below (below_drewN (Below.refl _ _) nq)
      clear qa qb qc qd qe qf
      generalize wr.drewN nq = w8 at *
      go_wp2_with fail
      go_roundw
      case rel => exact ⟨m - 1, int_eqS (by omega), by omega, KB⟩
      case measure => simp only [intOf]; omega
theorem on_1yes (mo wd da ti re y : Int) (_y1 : 1 ≤ y) (_y2 : y ≤ 300000) (n : Int) (n1 : -100000001 ≤ n) (n2 : n ≤ 100000000) (_d1 : -100 ≤ da ∧ da ≤ 100) (l : Int) (l1 : 28 ≤ l ∧ l ≤ 31) (MR : Hid (∀ W, Calls Tryz.prog 120 #[.int .i64 y, .int .i64 mo] W (fun e w' => e = .returned (.int .i64 l) ∧ W = w'))) (t : Int) (ht : (t + 3) % 7 + 1 = wd) (t1 : (n + l - 1) - 7 < t ∧ t ≤ (n + l - 1)) (_h3 : t ≤ 100000000) (RI : Hid (∀ W, Calls Tryz.prog 61 #[.agg #[.int .i64 (mo), .int .i64 (1), .int .i64 (wd), .int .i64 (da), .int .i64 (ti), .int .i64 (re)]] W (RetV W (.bool true)))) (DA : Hid (∀ W, Calls Tryz.prog 119 #[.agg #[.int .i64 y, .int .i64 mo, .int .i64 1]] W (RetNumB W n true))) (w : World) :
    Calls Tryz.prog 97 #[.agg #[.int .i64 (mo), .int .i64 (1), .int .i64 (wd), .int .i64 (da), .int .i64 (ti), .int .i64 (re)], .int .i64 y] w (RetNumB w t true) := by
  go_enter Tryz.func97, Tryz.ntmps97
  go_upto_region 1 with (fail)
  have KB := ((BK.nil w).more6 (.int .i64 (mo)) (.int .i64 (1)) (.int .i64 (wd)) (.int .i64 (da)) (.int .i64 (ti)) (.int .i64 (re)) 34)
  generalize (w.alloc (.cells #[.int .i64 (mo), .int .i64 (1), .int .i64 (wd), .int .i64 (da), .int .i64 (ti), .int .i64 (re)] 34)) = w0 at *
  obtain ⟨_, q0a, q0b, q0c, q0d, q0e, q0f, _⟩ := (KB.head).six
  go_wp2_with fail
  clear q0a q0b q0c q0d q0e q0f
  refine (RI.out _).mono ?_
  rintro e w1 ⟨rfl, k⟩
  replace KB := KB.below k
  clear k
  have d1 : decide (y < 1) = false := decide_eq_false (by omega)
  have d2 : decide (300000 < y) = false := decide_eq_false (by omega)
  obtain ⟨_, q0a, q0b, q0c, q0d, q0e, q0f, _⟩ := (KB.head).six
  go_wp2_with fail
  clear q0a q0b q0c q0d q0e q0f
  refine (DA.out _).mono ?_
  rintro e w2 ⟨rfl, k⟩
  replace KB := KB.below k
  clear k
  obtain ⟨_, qa, qb, qc, qd, qe, qf, _⟩ := (KB.head).six
  go_wp2_with fail
  refine (MR.out _).mono ?_
  rintro e _w ⟨rfl, rfl⟩
  go_upto_region 16 with (fail)
  clear qa qb qc qd qe qf
  go_loopw [8] (fun v8 wr => ∃ m : Int, v8 = .int .i64 m ∧ (t ≤ m ∧ m ≤ (n + l - 1)) ∧ BK w [(w.heap.size, [.int .i64 (mo), .int .i64 (1), .int .i64 (wd), .int .i64 (da), .int .i64 (ti), .int .i64 (re)])] wr) (fun v8 _ => (intOf v8 - t).toNat)
  case atStart => exact ⟨_, rfl, by omega, KB⟩
  case round =>
    obtain ⟨m, rfl, ⟨m1, m2⟩, KB⟩ := hrel
    have DN := Lib.hid (fun W => down7 (m + 3) (by omega) (by omega) W)
    obtain ⟨q, hq⟩ : ∃ q, (m + 3) / 7 = q := ⟨_, rfl⟩
    rw [hq] at DN
    have q1 : -100000000 ≤ q ∧ q ≤ 100000000 := by omega
    by_cases hm : m = t
    · subst hm
      have g : (m + 3 - 7 * q + 1 != wd) = false := by rw [bne_eq_false_iff_eq]; omega
      have d3 : decide (100000000 < m) = false := decide_eq_false (by omega)
      clear hq
      obtain ⟨_, qa, qb, qc, qd, qe, qf, _⟩ := (KB.head).six
      go_wp2_with fail
      go_quiet ((first
        | (go_at_call 121; exact Calls.quiet_of_same ((DN.out _).mono fun _ _ ⟨h1, h2⟩ => ⟨h1, h2.symm⟩))))
      replace KB := KB.below (below_drewN (Below.refl _ _) nq)
      have HB := KB.hb
      go_wp2
      go_ret2
      exact ⟨rfl, HB⟩
    · have g : (m + 3 - 7 * q + 1 != wd) = true := by rw [bne_iff_ne]; omega
      clear hq
      obtain ⟨_, qa, qb, qc, qd, qe, qf, _⟩ := (KB.head).six
      go_wp2_with fail
      go_quiet ((first
        | (go_at_call 121; exact Calls.quiet_of_same ((DN.out _).mono fun _ _ ⟨h1, h2⟩ => ⟨h1, h2.symm⟩))))
      replace KB := KB.below (below_drewN (Below.refl _ _) nq)
      clear qa qb qc qd qe qf
      generalize wr.drewN nq = w8 at *
      go_wp2_with fail
      go_roundw
      case rel => exact ⟨m - 1, int_eqS (by omega), by omega, KB⟩
      case measure => simp only [intOf]; omega
theorem on_2no (mo wd da ti re y : Int) (_y1 : 1 ≤ y) (_y2 : y ≤ 300000) (n : Int) (n1 : -100000001 ≤ n) (n2 : n ≤ 100000000) (d1 : -100 ≤ da ∧ da ≤ 100) (t : Int) (ht : (t + 3) % 7 + 1 = wd) (t1 : (n + da - 1) ≤ t ∧ t < (n + da - 1) + 7) (_h3 : 100000000 < t) (RI : Hid (∀ W, Calls Tryz.prog 61 #[.agg #[.int .i64 (mo), .int .i64 (2), .int .i64 (wd), .int .i64 (da), .int .i64 (ti), .int .i64 (re)]] W (RetV W (.bool true)))) (DA : Hid (∀ W, Calls Tryz.prog 119 #[.agg #[.int .i64 y, .int .i64 mo, .int .i64 1]] W (RetNumB W n true))) (w : World) :
    Calls Tryz.prog 97 #[.agg #[.int .i64 (mo), .int .i64 (2), .int .i64 (wd), .int .i64 (da), .int .i64 (ti), .int .i64 (re)], .int .i64 y] w (RetNumB w 0 false) := by
  go_enter Tryz.func97, Tryz.ntmps97
  go_upto_region 1 with (fail)
  have KB := ((BK.nil w).more6 (.int .i64 (mo)) (.int .i64 (2)) (.int .i64 (wd)) (.int .i64 (da)) (.int .i64 (ti)) (.int .i64 (re)) 34)
  generalize (w.alloc (.cells #[.int .i64 (mo), .int .i64 (2), .int .i64 (wd), .int .i64 (da), .int .i64 (ti), .int .i64 (re)] 34)) = w0 at *
  obtain ⟨_, q0a, q0b, q0c, q0d, q0e, q0f, _⟩ := (KB.head).six
  go_wp2_with fail
  clear q0a q0b q0c q0d q0e q0f
  refine (RI.out _).mono ?_
  rintro e w1 ⟨rfl, k⟩
  replace KB := KB.below k
  clear k
  have d1 : decide (y < 1) = false := decide_eq_false (by omega)
  have d2 : decide (300000 < y) = false := decide_eq_false (by omega)
  obtain ⟨_, q0a, q0b, q0c, q0d, q0e, q0f, _⟩ := (KB.head).six
  go_wp2_with fail
  clear q0a q0b q0c q0d q0e q0f
  refine (DA.out _).mono ?_
  rintro e w2 ⟨rfl, k⟩
  replace KB := KB.below k
  clear k
  obtain ⟨_, qa, qb, qc, qd, qe, qf, _⟩ := (KB.head).six
  go_upto_region 16 with (fail)
  clear qa qb qc qd qe qf
  go_loopw [8] (fun v8 wr => ∃ m : Int, v8 = .int .i64 m ∧ ((n + da - 1) ≤ m ∧ m ≤ t) ∧ BK w [(w.heap.size, [.int .i64 (mo), .int .i64 (2), .int .i64 (wd), .int .i64 (da), .int .i64 (ti), .int .i64 (re)])] wr) (fun v8 _ => (t - intOf v8).toNat)
  case atStart => exact ⟨_, rfl, by omega, KB⟩
  case round =>
    obtain ⟨m, rfl, ⟨m1, m2⟩, KB⟩ := hrel
    have DN := Lib.hid (fun W => down7 (m + 3) (by omega) (by omega) W)
    obtain ⟨q, hq⟩ : ∃ q, (m + 3) / 7 = q := ⟨_, rfl⟩
    rw [hq] at DN
    have q1 : -100000000 ≤ q ∧ q ≤ 100000000 := by omega
    by_cases hm : m = t
    · subst hm
      have g : (m + 3 - 7 * q + 1 != wd) = false := by rw [bne_eq_false_iff_eq]; omega
      have d3 : decide (100000000 < m) = true := decide_eq_true (by omega)
      clear hq
      obtain ⟨_, qa, qb, qc, qd, qe, qf, _⟩ := (KB.head).six
      go_wp2_with fail
      go_quiet ((first
        | (go_at_call 121; exact Calls.quiet_of_same ((DN.out _).mono fun _ _ ⟨h1, h2⟩ => ⟨h1, h2.symm⟩))))
      replace KB := KB.below (below_drewN (Below.refl _ _) nq)
      have HB := KB.hb
      go_wp2
      go_ret2
      exact ⟨rfl, HB⟩
    · have g : (m + 3 - 7 * q + 1 != wd) = true := by rw [bne_iff_ne]; omega
      clear hq
      obtain ⟨_, qa, qb, qc, qd, qe, qf, _⟩ := (KB.head).six
      go_wp2_with fail
      go_quiet ((first
        | (go_at_call 121; exact Calls.quiet_of_same ((DN.out _).mono fun _ _ ⟨h1, h2⟩ => ⟨h1, h2.symm⟩))))
      replace KB := KB.below (below_drewN (Below.refl _ _) nq)
      clear qa qb qc qd qe qf
      generalize wr.drewN nq = w8 at *
      go_wp2_with fail
      go_roundw
      case rel => exact ⟨m + 1, int_eqS (by omega), by omega, KB⟩
      case measure => simp only [intOf]; omega
theorem on_2yes (mo wd da ti re y : Int) (_y1 : 1 ≤ y) (_y2 : y ≤ 300000) (n : Int) (n1 : -100000001 ≤ n) (n2 : n ≤ 100000000) (d1 : -100 ≤ da ∧ da ≤ 100) (t : Int) (ht : (t + 3) % 7 + 1 = wd) (t1 : (n + da - 1) ≤ t ∧ t < (n + da - 1) + 7) (_h3 : t ≤ 100000000) (RI : Hid (∀ W, Calls Tryz.prog 61 #[.agg #[.int .i64 (mo), .int .i64 (2), .int .i64 (wd), .int .i64 (da), .int .i64 (ti), .int .i64 (re)]] W (RetV W (.bool true)))) (DA : Hid (∀ W, Calls Tryz.prog 119 #[.agg #[.int .i64 y, .int .i64 mo, .int .i64 1]] W (RetNumB W n true))) (w : World) :
    Calls Tryz.prog 97 #[.agg #[.int .i64 (mo), .int .i64 (2), .int .i64 (wd), .int .i64 (da), .int .i64 (ti), .int .i64 (re)], .int .i64 y] w (RetNumB w t true) := by
  go_enter Tryz.func97, Tryz.ntmps97
  go_upto_region 1 with (fail)
  have KB := ((BK.nil w).more6 (.int .i64 (mo)) (.int .i64 (2)) (.int .i64 (wd)) (.int .i64 (da)) (.int .i64 (ti)) (.int .i64 (re)) 34)
  generalize (w.alloc (.cells #[.int .i64 (mo), .int .i64 (2), .int .i64 (wd), .int .i64 (da), .int .i64 (ti), .int .i64 (re)] 34)) = w0 at *
  obtain ⟨_, q0a, q0b, q0c, q0d, q0e, q0f, _⟩ := (KB.head).six
  go_wp2_with fail
  clear q0a q0b q0c q0d q0e q0f
  refine (RI.out _).mono ?_
  rintro e w1 ⟨rfl, k⟩
  replace KB := KB.below k
  clear k
  have d1 : decide (y < 1) = false := decide_eq_false (by omega)
  have d2 : decide (300000 < y) = false := decide_eq_false (by omega)
  obtain ⟨_, q0a, q0b, q0c, q0d, q0e, q0f, _⟩ := (KB.head).six
  go_wp2_with fail
  clear q0a q0b q0c q0d q0e q0f
  refine (DA.out _).mono ?_
  rintro e w2 ⟨rfl, k⟩
  replace KB := KB.below k
  clear k
  obtain ⟨_, qa, qb, qc, qd, qe, qf, _⟩ := (KB.head).six
  go_upto_region 16 with (fail)
  clear qa qb qc qd qe qf
  go_loopw [8] (fun v8 wr => ∃ m : Int, v8 = .int .i64 m ∧ ((n + da - 1) ≤ m ∧ m ≤ t) ∧ BK w [(w.heap.size, [.int .i64 (mo), .int .i64 (2), .int .i64 (wd), .int .i64 (da), .int .i64 (ti), .int .i64 (re)])] wr) (fun v8 _ => (t - intOf v8).toNat)
  case atStart => exact ⟨_, rfl, by omega, KB⟩
  case round =>
    obtain ⟨m, rfl, ⟨m1, m2⟩, KB⟩ := hrel
    have DN := Lib.hid (fun W => down7 (m + 3) (by omega) (by omega) W)
    obtain ⟨q, hq⟩ : ∃ q, (m + 3) / 7 = q := ⟨_, rfl⟩
    rw [hq] at DN
    have q1 : -100000000 ≤ q ∧ q ≤ 100000000 := by omega
    by_cases hm : m = t
    · subst hm
      have g : (m + 3 - 7 * q + 1 != wd) = false := by rw [bne_eq_false_iff_eq]; omega
      have d3 : decide (100000000 < m) = false := decide_eq_false (by omega)
      clear hq
      obtain ⟨_, qa, qb, qc, qd, qe, qf, _⟩ := (KB.head).six
      go_wp2_with fail
      go_quiet ((first
        | (go_at_call 121; exact Calls.quiet_of_same ((DN.out _).mono fun _ _ ⟨h1, h2⟩ => ⟨h1, h2.symm⟩))))
      replace KB := KB.below (below_drewN (Below.refl _ _) nq)
      have HB := KB.hb
      go_wp2
      go_ret2
      exact ⟨rfl, HB⟩
    · have g : (m + 3 - 7 * q + 1 != wd) = true := by rw [bne_iff_ne]; omega
      clear hq
      obtain ⟨_, qa, qb, qc, qd, qe, qf, _⟩ := (KB.head).six
      go_wp2_with fail
      go_quiet ((first
        | (go_at_call 121; exact Calls.quiet_of_same ((DN.out _).mono fun _ _ ⟨h1, h2⟩ => ⟨h1, h2.symm⟩))))
      replace KB := KB.below (below_drewN (Below.refl _ _) nq)
      clear qa qb qc qd qe qf
      generalize wr.drewN nq = w8 at *
      go_wp2_with fail
      go_roundw
      case rel => exact ⟨m + 1, int_eqS (by omega), by omega, KB⟩
      case measure => simp only [intOf]; omega
theorem on_3no (mo wd da ti re y : Int) (_y1 : 1 ≤ y) (_y2 : y ≤ 300000) (n : Int) (n1 : -100000001 ≤ n) (n2 : n ≤ 100000000) (d1 : -100 ≤ da ∧ da ≤ 100) (t : Int) (ht : (t + 3) % 7 + 1 = wd) (t1 : (n + da - 1) - 7 < t ∧ t ≤ (n + da - 1)) (_h3 : 100000000 < t) (RI : Hid (∀ W, Calls Tryz.prog 61 #[.agg #[.int .i64 (mo), .int .i64 (3), .int .i64 (wd), .int .i64 (da), .int .i64 (ti), .int .i64 (re)]] W (RetV W (.bool true)))) (DA : Hid (∀ W, Calls Tryz.prog 119 #[.agg #[.int .i64 y, .int .i64 mo, .int .i64 1]] W (RetNumB W n true))) (w : World) :
    Calls Tryz.prog 97 #[.agg #[.int .i64 (mo), .int .i64 (3), .int .i64 (wd), .int .i64 (da), .int .i64 (ti), .int .i64 (re)], .int .i64 y] w (RetNumB w 0 false) := by
  go_enter Tryz.func97, Tryz.ntmps97
  go_upto_region 1 with (fail)
  have KB := ((BK.nil w).more6 (.int .i64 (mo)) (.int .i64 (3)) (.int .i64 (wd)) (.int .i64 (da)) (.int .i64 (ti)) (.int .i64 (re)) 34)
  generalize (w.alloc (.cells #[.int .i64 (mo), .int .i64 (3), .int .i64 (wd), .int .i64 (da), .int .i64 (ti), .int .i64 (re)] 34)) = w0 at *
  obtain ⟨_, q0a, q0b, q0c, q0d, q0e, q0f, _⟩ := (KB.head).six
  go_wp2_with fail
  clear q0a q0b q0c q0d q0e q0f
  refine (RI.out _).mono ?_
  rintro e w1 ⟨rfl, k⟩
  replace KB := KB.below k
  clear k
  have d1 : decide (y < 1) = false := decide_eq_false (by omega)
  have d2 : decide (300000 < y) = false := decide_eq_false (by omega)
  obtain ⟨_, q0a, q0b, q0c, q0d, q0e, q0f, _⟩ := (KB.head).six
  go_wp2_with fail
  clear q0a q0b q0c q0d q0e q0f
  refine (DA.out _).mono ?_
  rintro e w2 ⟨rfl, k⟩
  replace KB := KB.below k
  clear k
  obtain ⟨_, qa, qb, qc, qd, qe, qf, _⟩ := (KB.head).six
  go_upto_region 16 with (fail)
  clear qa qb qc qd qe qf
  go_loopw [8] (fun v8 wr => ∃ m : Int, v8 = .int .i64 m ∧ (t ≤ m ∧ m ≤ (n + da - 1)) ∧ BK w [(w.heap.size, [.int .i64 (mo), .int .i64 (3), .int .i64 (wd), .int .i64 (da), .int .i64 (ti), .int .i64 (re)])] wr) (fun v8 _ => (intOf v8 - t).toNat)
  case atStart => exact ⟨_, rfl, by omega, KB⟩
  case round =>
    obtain ⟨m, rfl, ⟨m1, m2⟩, KB⟩ := hrel
    have DN := Lib.hid (fun W => down7 (m + 3) (by omega) (by omega) W)
    obtain ⟨q, hq⟩ : ∃ q, (m + 3) / 7 = q := ⟨_, rfl⟩
    rw [hq] at DN
    have q1 : -100000000 ≤ q ∧ q ≤ 100000000 := by omega
    by_cases hm : m = t
    · subst hm
      have g : (m + 3 - 7 * q + 1 != wd) = false := by rw [bne_eq_false_iff_eq]; omega
      have d3 : decide (100000000 < m) = true := decide_eq_true (by omega)
      clear hq
      obtain ⟨_, qa, qb, qc, qd, qe, qf, _⟩ := (KB.head).six
      go_wp2_with fail
      go_quiet ((first
        | (go_at_call 121; exact Calls.quiet_of_same ((DN.out _).mono fun _ _ ⟨h1, h2⟩ => ⟨h1, h2.symm⟩))))
      replace KB := KB.below (below_drewN (Below.refl _ _) nq)
      have HB := KB.hb
      go_wp2
      go_ret2
      exact ⟨rfl, HB⟩
    · have g : (m + 3 - 7 * q + 1 != wd) = true := by rw [bne_iff_ne]; omega
      clear hq
      obtain ⟨_, qa, qb, qc, qd, qe, qf, _⟩ := (KB.head).six
      go_wp2_with fail
      go_quiet ((first
        | (go_at_call 121; exact Calls.quiet_of_same ((DN.out _).mono fun _ _ ⟨h1, h2⟩ => ⟨h1, h2.symm⟩))))
      replace KB := KB.below (below_drewN (Below.refl _ _) nq)
      clear qa qb qc qd qe qf
      generalize wr.drewN nq = w8 at *
      go_wp2_with fail
      go_roundw
      case rel => exact ⟨m - 1, int_eqS (by omega), by omega, KB⟩
      case measure => simp only [intOf]; omega
theorem on_3yes (mo wd da ti re y : Int) (_y1 : 1 ≤ y) (_y2 : y ≤ 300000) (n : Int) (n1 : -100000001 ≤ n) (n2 : n ≤ 100000000) (d1 : -100 ≤ da ∧ da ≤ 100) (t : Int) (ht : (t + 3) % 7 + 1 = wd) (t1 : (n + da - 1) - 7 < t ∧ t ≤ (n + da - 1)) (_h3 : t ≤ 100000000) (RI : Hid (∀ W, Calls Tryz.prog 61 #[.agg #[.int .i64 (mo), .int .i64 (3), .int .i64 (wd), .int .i64 (da), .int .i64 (ti), .int .i64 (re)]] W (RetV W (.bool true)))) (DA : Hid (∀ W, Calls Tryz.prog 119 #[.agg #[.int .i64 y, .int .i64 mo, .int .i64 1]] W (RetNumB W n true))) (w : World) :
    Calls Tryz.prog 97 #[.agg #[.int .i64 (mo), .int .i64 (3), .int .i64 (wd), .int .i64 (da), .int .i64 (ti), .int .i64 (re)], .int .i64 y] w (RetNumB w t true) := by
  go_enter Tryz.func97, Tryz.ntmps97
  go_upto_region 1 with (fail)
  have KB := ((BK.nil w).more6 (.int .i64 (mo)) (.int .i64 (3)) (.int .i64 (wd)) (.int .i64 (da)) (.int .i64 (ti)) (.int .i64 (re)) 34)
  generalize (w.alloc (.cells #[.int .i64 (mo), .int .i64 (3), .int .i64 (wd), .int .i64 (da), .int .i64 (ti), .int .i64 (re)] 34)) = w0 at *
  obtain ⟨_, q0a, q0b, q0c, q0d, q0e, q0f, _⟩ := (KB.head).six
  go_wp2_with fail
  clear q0a q0b q0c q0d q0e q0f
  refine (RI.out _).mono ?_
  rintro e w1 ⟨rfl, k⟩
  replace KB := KB.below k
  clear k
  have d1 : decide (y < 1) = false := decide_eq_false (by omega)
  have d2 : decide (300000 < y) = false := decide_eq_false (by omega)
  obtain ⟨_, q0a, q0b, q0c, q0d, q0e, q0f, _⟩ := (KB.head).six
  go_wp2_with fail
  clear q0a q0b q0c q0d q0e q0f
  refine (DA.out _).mono ?_
  rintro e w2 ⟨rfl, k⟩
  replace KB := KB.below k
  clear k
  obtain ⟨_, qa, qb, qc, qd, qe, qf, _⟩ := (KB.head).six
  go_upto_region 16 with (fail)
  clear qa qb qc qd qe qf
  go_loopw [8] (fun v8 wr => ∃ m : Int, v8 = .int .i64 m ∧ (t ≤ m ∧ m ≤ (n + da - 1)) ∧ BK w [(w.heap.size, [.int .i64 (mo), .int .i64 (3), .int .i64 (wd), .int .i64 (da), .int .i64 (ti), .int .i64 (re)])] wr) (fun v8 _ => (intOf v8 - t).toNat)
  case atStart => exact ⟨_, rfl, by omega, KB⟩
  case round =>
    obtain ⟨m, rfl, ⟨m1, m2⟩, KB⟩ := hrel
    have DN := Lib.hid (fun W => down7 (m + 3) (by omega) (by omega) W)
    obtain ⟨q, hq⟩ : ∃ q, (m + 3) / 7 = q := ⟨_, rfl⟩
    rw [hq] at DN
    have q1 : -100000000 ≤ q ∧ q ≤ 100000000 := by omega
    by_cases hm : m = t
    · subst hm
      have g : (m + 3 - 7 * q + 1 != wd) = false := by rw [bne_eq_false_iff_eq]; omega
      have d3 : decide (100000000 < m) = false := decide_eq_false (by omega)
      clear hq
      obtain ⟨_, qa, qb, qc, qd, qe, qf, _⟩ := (KB.head).six
      go_wp2_with fail
      go_quiet ((first
        | (go_at_call 121; exact Calls.quiet_of_same ((DN.out _).mono fun _ _ ⟨h1, h2⟩ => ⟨h1, h2.symm⟩))))
      replace KB := KB.below (below_drewN (Below.refl _ _) nq)
      have HB := KB.hb
      go_wp2
      go_ret2
      exact ⟨rfl, HB⟩
    · have g : (m + 3 - 7 * q + 1 != wd) = true := by rw [bne_iff_ne]; omega
      clear hq
      obtain ⟨_, qa, qb, qc, qd, qe, qf, _⟩ := (KB.head).six
      go_wp2_with fail
      go_quiet ((first
        | (go_at_call 121; exact Calls.quiet_of_same ((DN.out _).mono fun _ _ ⟨h1, h2⟩ => ⟨h1, h2.symm⟩))))
      replace KB := KB.below (below_drewN (Below.refl _ _) nq)
      clear qa qb qc qd qe qf
      generalize wr.drewN nq = w8 at *
      go_wp2_with fail
      go_roundw
      case rel => exact ⟨m - 1, int_eqS (by omega), by omega, KB⟩
      case measure => simp only [intOf]; omega
theorem local_no (mo ki wd da ti re y : Int) (ON : Hid (∀ W, Calls Tryz.prog 97 #[.agg #[.int .i64 (mo), .int .i64 (ki), .int .i64 (wd), .int .i64 (da), .int .i64 (ti), .int .i64 (re)], .int .i64 y] W (RetNumB W 0 false))) (w : World) :
    Calls Tryz.prog 67 #[.agg #[.int .i64 (mo), .int .i64 (ki), .int .i64 (wd), .int .i64 (da), .int .i64 (ti), .int .i64 (re)], .int .i64 y] w (RetNumB w 0 false) := by
  go_enter Tryz.func67, Tryz.ntmps67
  go_upto_region 1 with (fail)
  have KB := ((BK.nil w).more6 (.int .i64 (mo)) (.int .i64 (ki)) (.int .i64 (wd)) (.int .i64 (da)) (.int .i64 (ti)) (.int .i64 (re)) 34)
  generalize (w.alloc (.cells #[.int .i64 (mo), .int .i64 (ki), .int .i64 (wd), .int .i64 (da), .int .i64 (ti), .int .i64 (re)] 34)) = w0 at *
  obtain ⟨_, q0a, q0b, q0c, q0d, q0e, q0f, _⟩ := (KB.head).six
  go_wp2_with fail
  clear q0a q0b q0c q0d q0e q0f
  refine (ON.out _).mono ?_
  rintro e w1 ⟨rfl, k⟩
  replace KB := KB.below k
  clear k
  have HB := KB.hb
  go_wp2
  go_ret2
  exact ⟨rfl, HB⟩
theorem local_yes (mo ki wd da ti re y n : Int) (n1 : -100000001 ≤ n) (n2 : n ≤ 100000000) (t1 : -604799 ≤ ti) (t2 : ti ≤ 604799) (ON : Hid (∀ W, Calls Tryz.prog 97 #[.agg #[.int .i64 (mo), .int .i64 (ki), .int .i64 (wd), .int .i64 (da), .int .i64 (ti), .int .i64 (re)], .int .i64 y] W (RetNumB W n true))) (w : World) :
    Calls Tryz.prog 67 #[.agg #[.int .i64 (mo), .int .i64 (ki), .int .i64 (wd), .int .i64 (da), .int .i64 (ti), .int .i64 (re)], .int .i64 y] w (RetNumB w (n * 86400 + ti) true) := by
  go_enter Tryz.func67, Tryz.ntmps67
  go_upto_region 1 with (fail)
  have KB := ((BK.nil w).more6 (.int .i64 (mo)) (.int .i64 (ki)) (.int .i64 (wd)) (.int .i64 (da)) (.int .i64 (ti)) (.int .i64 (re)) 34)
  generalize (w.alloc (.cells #[.int .i64 (mo), .int .i64 (ki), .int .i64 (wd), .int .i64 (da), .int .i64 (ti), .int .i64 (re)] 34)) = w0 at *
  obtain ⟨_, q0a, q0b, q0c, q0d, q0e, q0f, _⟩ := (KB.head).six
  go_wp2_with fail
  clear q0a q0b q0c q0d q0e q0f
  refine (ON.out _).mono ?_
  rintro e w1 ⟨rfl, k⟩
  replace KB := KB.below k
  clear k
  obtain ⟨_, qa, qb, qc, qd, qe, qf, _⟩ := (KB.head).six
  have HB := KB.hb
  go_wp2
  go_ret2
  exact ⟨rfl, HB⟩
def downTo (n wd : Int) : Int := n - (wday n - wd) % 7
def upTo (n wd : Int) : Int := n + (wd - wday n) % 7
theorem downTo_is {n wd : Int} (h : 1 ≤ wd ∧ wd ≤ 7) : (downTo n wd + 3) % 7 + 1 = wd ∧ n - 7 < downTo n wd ∧ downTo n wd ≤ n := by unfold downTo wday; omega
theorem upTo_is {n wd : Int} (h : 1 ≤ wd ∧ wd ≤ 7) : (upTo n wd + 3) % 7 + 1 = wd ∧ n ≤ upTo n wd ∧ upTo n wd < n + 7 := by unfold upTo wday; omega
def onDay (x : Sp) (y : Int) : Int :=
  if x.ki = 0 then numD y x.mo 1 + x.da - 1 else if x.ki = 1 then downTo (numD y x.mo 1 + lenM y x.mo - 1) x.wd
  else if x.ki = 2 then upTo (numD y x.mo 1 + x.da - 1) x.wd else downTo (numD y x.mo 1 + x.da - 1) x.wd
def onOk (x : Sp) (y : Int) : Prop := x.ok ∧ (1 ≤ y ∧ y ≤ 300000) ∧ okD y x.mo 1 ∧ onDay x y ≤ 100000000
instance (x : Sp) (y : Int) : Decidable (onOk x y) := by unfold onOk; infer_instance
def onN (x : Sp) (y : Int) : Int := if onOk x y then onDay x y else 0
def loN (x : Sp) (y : Int) : Int := if onOk x y then onDay x y * 86400 + x.ti else 0
theorem onDay_in {x : Sp} {y : Int} (h : onOk x y) : -10000000 ≤ onDay x y := by
  obtain ⟨h1, h2, h3, _⟩ := h
  have h4 := jan_bound (y := 1) (by decide) (by decide)
  have h5 := (num_year h3.1).1
  have h6 := jan_le (a := 1) (b := y) h2.1
  have h7 := lenM_range (y := y) h3.1.1 h3.1.2.1
  have j1 : jan 1 = -719162 := by decide
  have h8 := @downTo_is (numD y x.mo 1 + lenM y x.mo - 1) x.wd
  have h9 := @downTo_is (numD y x.mo 1 + x.da - 1) x.wd
  have h10 := @upTo_is (numD y x.mo 1 + x.da - 1) x.wd
  unfold Sp.ok at h1
  unfold onDay
  split
  · omega
  · split
    · omega
    · split <;> omega
theorem onR (x : Sp) (y : Int) (w : World) : Calls Tryz.prog 97 #[x.val, .int .i64 y] w (RetNumB w (onN x y) (decide (onOk x y))) := by
  have RS := fun W => rightSR x W
  have no : ¬ onOk x y → Calls Tryz.prog 97 #[x.val, .int .i64 y] w (RetNumB w 0 false) → Calls Tryz.prog 97 #[x.val, .int .i64 y] w (RetNumB w (onN x y) (decide (onOk x y))) := fun h c => by
    rw [decide_eq_false h, show onN x y = 0 by unfold onN; rw [if_neg h]]; exact c
  have yes : onOk x y → Calls Tryz.prog 97 #[x.val, .int .i64 y] w (RetNumB w (onDay x y) true) → Calls Tryz.prog 97 #[x.val, .int .i64 y] w (RetNumB w (onN x y) (decide (onOk x y))) := fun h c => by
    rw [decide_eq_true h, show onN x y = onDay x y by unfold onN; rw [if_pos h]]; exact c
  by_cases hx : x.ok
  case neg =>
    rw [decide_eq_false hx] at RS
    exact no (fun h => hx h.1) (on_r x.mo x.ki x.wd x.da x.ti x.re y (Lib.hid RS) w)
  rw [decide_eq_true hx] at RS
  by_cases y1 : y < 1
  · exact no (fun h => by have := h.2.1; omega) (on_y1 x.mo x.ki x.wd x.da x.ti x.re y y1 (Lib.hid RS) w)
  by_cases y2 : 300000 < y
  · exact no (fun h => by have := h.2.1; omega) (on_y2 x.mo x.ki x.wd x.da x.ti x.re y y2 (Lib.hid RS) w)
  by_cases hk : okD y x.mo 1
  case neg => exact no (fun h => hk h.2.2.1) (on_f x.mo x.ki x.wd x.da x.ti x.re y (by omega) (by omega) (Lib.hid RS) (Lib.hid fun W => daysR_none hk W) w)
  have DA := Lib.hid (fun W => daysR_is hk W)
  have MR := Lib.hid (fun W => monthR y x.mo W)
  have n1 := hk.2.1
  have n2 := hk.2.2
  have ml := lenM_range (y := y) hk.1.1 hk.1.2.1
  have hx' := hx
  unfold Sp.ok at hx'
  obtain ⟨mo, ki, wd, da, ti, re⟩ := x
  simp only [] at *
  have K : ki = 0 ∨ ki = 1 ∨ ki = 2 ∨ ki = 3 := by omega
  by_cases h9 : onDay ⟨mo, ki, wd, da, ti, re⟩ y ≤ 100000000
  · refine yes ⟨hx, by omega, hk, h9⟩ ?_
    obtain rfl | rfl | rfl | rfl := K
    · exact on_0yes mo wd da ti re y (by omega) (by omega) _ n1 n2 (by omega) h9 (Lib.hid RS) DA w
    · have t := downTo_is (n := numD y mo 1 + lenM y mo - 1) (wd := wd) (by omega)
      exact on_1yes mo wd da ti re y (by omega) (by omega) _ n1 n2 (by omega) _ (by omega) MR _ t.1 t.2 h9 (Lib.hid RS) DA w
    · have t := upTo_is (n := numD y mo 1 + da - 1) (wd := wd) (by omega)
      exact on_2yes mo wd da ti re y (by omega) (by omega) _ n1 n2 (by omega) _ t.1 t.2 h9 (Lib.hid RS) DA w
    · have t := downTo_is (n := numD y mo 1 + da - 1) (wd := wd) (by omega)
      exact on_3yes mo wd da ti re y (by omega) (by omega) _ n1 n2 (by omega) _ t.1 t.2 h9 (Lib.hid RS) DA w
  · refine no (fun h => h9 h.2.2.2) ?_
    replace h9 := Int.not_le.1 h9
    obtain rfl | rfl | rfl | rfl := K
    · exact on_0no mo wd da ti re y (by omega) (by omega) _ n1 n2 (by omega) h9 (Lib.hid RS) DA w
    · have t := downTo_is (n := numD y mo 1 + lenM y mo - 1) (wd := wd) (by omega)
      exact on_1no mo wd da ti re y (by omega) (by omega) _ n1 n2 (by omega) _ (by omega) MR _ t.1 t.2 h9 (Lib.hid RS) DA w
    · have t := upTo_is (n := numD y mo 1 + da - 1) (wd := wd) (by omega)
      exact on_2no mo wd da ti re y (by omega) (by omega) _ n1 n2 (by omega) _ t.1 t.2 h9 (Lib.hid RS) DA w
    · have t := downTo_is (n := numD y mo 1 + da - 1) (wd := wd) (by omega)
      exact on_3no mo wd da ti re y (by omega) (by omega) _ n1 n2 (by omega) _ t.1 t.2 h9 (Lib.hid RS) DA w
theorem localR (x : Sp) (y : Int) (w : World) : Calls Tryz.prog 67 #[x.val, .int .i64 y] w (RetNumB w (loN x y) (decide (onOk x y))) := by
  have ON := fun W => onR x y W
  unfold loN
  unfold onN at ON
  by_cases h : onOk x y
  · rw [if_pos h, decide_eq_true h]
    rw [if_pos h, decide_eq_true h] at ON
    have lo := onDay_in h
    have hx := h.1
    unfold Sp.ok at hx
    exact local_yes x.mo x.ki x.wd x.da x.ti x.re y _ (by omega) h.2.2.2 (by omega) (by omega) (Lib.hid ON) w
  · rw [if_neg h, decide_eq_false h]
    rw [if_neg h, decide_eq_false h] at ON
    exact local_no x.mo x.ki x.wd x.da x.ti x.re y (Lib.hid ON) w
end Go.Proofs.YtmhpnmlgfdomkaaGreatDoor
