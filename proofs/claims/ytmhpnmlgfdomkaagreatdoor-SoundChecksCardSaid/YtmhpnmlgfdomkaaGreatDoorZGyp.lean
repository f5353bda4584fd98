import Derived.Test.YtmhpnmlgfdomkaaGreatDoorZGua
import Derived.Test.YtmhpnmlgfdomkaaGreatDoorZGsix
import Derived.Test.YtmhpnmlgfdomkaaGreatDoorZGm
import Derived.BigQuiet
import Derived.Test.YtmhpnmlgfdomkaaGreatDoorZGy
import Derived.Test.YtmhpnmlgfdomkaaGreatDoorZUdig
import Derived.Lib.ItoaMem
import Derived.Lib.AppendIntMem
import Derived.WalkKit
import Derived.BigCall
set_option maxRecDepth 100000
set_option maxHeartbeats 64000000
namespace Go.Proofs.YtmhpnmlgfdomkaaGreatDoor
open Go.RowKit
def wiB (n a b : Int) : Bool := decide (a ≤ n) && decide (n ≤ b)
theorem wiB_is {n a b : Int} : wiB n a b = true ↔ a ≤ n ∧ n ≤ b := by unfold wiB; rw [Bool.and_eq_true, decide_eq_true_iff, decide_eq_true_iff]
theorem withinP (n a b : Int) (w : World) : Calls Tryz.prog 82 #[.int .i64 n, .int .i64 a, .int .i64 b] w (fun e w' => e = .returned (.bool (wiB n a b)) ∧ w = w') := by
  by_cases h : a ≤ n
  · have d : decide (a ≤ n) = true := decide_eq_true h
    have E := Lib.hid (show wiB n a b = decide (n ≤ b) by unfold wiB; rw [d]; rfl)
    clear h
    go_enter Tryz.func82, Tryz.ntmps82
    go_wp2
    go_ret
    exact ⟨by rw [E.out]; rfl, rfl⟩
  · have d : decide (a ≤ n) = false := decide_eq_false h
    have E := Lib.hid (show wiB n a b = false by unfold wiB; rw [d]; rfl)
    clear h
    go_enter Tryz.func82, Tryz.ntmps82
    go_wp2
    go_ret
    exact ⟨by rw [E.out]; rfl, rfl⟩
theorem withinQ (n a b : Int) (w : World) : Calls Tryz.prog 82 #[.int .i64 n, .int .i64 a, .int .i64 b] w (fun e w' => e = .returned (.bool (wiB n a b)) ∧ w' = w) := (withinP n a b w).mono fun _ _ ⟨h1, h2⟩ => ⟨h1, h2.symm⟩
def hrB (ki wd da : Int) : Bool := if ki = 0 then decide (wd = 0) && wiB da 1 31 else if ki = 1 then wiB wd 1 7 && decide (da = 0) else if ki = 2 ∨ ki = 3 then wiB wd 1 7 && wiB da 1 31 else false
theorem hr_0 (mo wd da ti re : Int) (bw bd : Bool) (BW : Hid (∀ (W : World) (n : Nat), Calls Tryz.prog 82 #[.int .i64 wd, .int .i64 1, .int .i64 7] (W.drewN n) (fun e w'' => e = .returned (.bool bw) ∧ ∃ m, w'' = W.drewN m))) (BD : Hid (∀ (W : World) (n : Nat), Calls Tryz.prog 82 #[.int .i64 da, .int .i64 1, .int .i64 31] (W.drewN n) (fun e w'' => e = .returned (.bool bd) ∧ ∃ m, w'' = W.drewN m))) (w : World) :
    Calls Tryz.prog 83 #[.agg #[.int .i64 mo, .int .i64 0, .int .i64 wd, .int .i64 da, .int .i64 ti, .int .i64 re]] w (RetV w (.bool (decide (wd = 0) && bd))) := by
  go_enter Tryz.func83, Tryz.ntmps83
  go_upto_region 1 with (fail)
  have KB := (BK.nil w).more6 (.int .i64 mo) (.int .i64 0) (.int .i64 wd) (.int .i64 da) (.int .i64 ti) (.int .i64 re) 34
  generalize w.alloc (.cells #[.int .i64 mo, .int .i64 0, .int .i64 wd, .int .i64 da, .int .i64 ti, .int .i64 re] 34) = W at *
  obtain ⟨_, r0, r1, r2, r3, r4, r5, _⟩ := KB.head.six
  go_quiet ((go_at_call 82; first | (with_reducible exact BW.out _ _) | (with_reducible exact BD.out _ _)))
  by_cases h : wd = 0
  · have d : (wd == 0) = true := by rw [beq_iff_eq]; exact h
    have E := Lib.hid (show (decide (wd = 0) && bd) = bd by rw [decide_eq_true h]; rfl)
    clear h
    go_wp2
    go_ret
    exact ⟨by rw [E.out]; rfl, below_drewN KB.hb _⟩
  · have d : (wd == 0) = false := by rw [beq_eq_false_iff_ne]; exact h
    have E := Lib.hid (show (decide (wd = 0) && bd) = false by rw [decide_eq_false h]; rfl)
    clear h
    go_wp2
    go_ret
    exact ⟨by rw [E.out]; rfl, below_drewN KB.hb _⟩
theorem hr_1 (mo wd da ti re : Int) (bw bd : Bool) (BW : Hid (∀ (W : World) (n : Nat), Calls Tryz.prog 82 #[.int .i64 wd, .int .i64 1, .int .i64 7] (W.drewN n) (fun e w'' => e = .returned (.bool bw) ∧ ∃ m, w'' = W.drewN m))) (BD : Hid (∀ (W : World) (n : Nat), Calls Tryz.prog 82 #[.int .i64 da, .int .i64 1, .int .i64 31] (W.drewN n) (fun e w'' => e = .returned (.bool bd) ∧ ∃ m, w'' = W.drewN m))) (w : World) :
    Calls Tryz.prog 83 #[.agg #[.int .i64 mo, .int .i64 1, .int .i64 wd, .int .i64 da, .int .i64 ti, .int .i64 re]] w (RetV w (.bool (bw && decide (da = 0)))) := by
  go_enter Tryz.func83, Tryz.ntmps83
  go_upto_region 1 with (fail)
  have KB := (BK.nil w).more6 (.int .i64 mo) (.int .i64 1) (.int .i64 wd) (.int .i64 da) (.int .i64 ti) (.int .i64 re) 34
  generalize w.alloc (.cells #[.int .i64 mo, .int .i64 1, .int .i64 wd, .int .i64 da, .int .i64 ti, .int .i64 re] 34) = W at *
  obtain ⟨_, r0, r1, r2, r3, r4, r5, _⟩ := KB.head.six
  go_quiet ((go_at_call 82; first | (with_reducible exact BW.out _ _) | (with_reducible exact BD.out _ _)))
  by_cases h : da = 0
  · have d : (da == 0) = true := by rw [beq_iff_eq]; exact h
    have E := Lib.hid (show (bw && decide (da = 0)) = bw by rw [decide_eq_true h, Bool.and_true])
    clear h
    cases bw <;> (go_wp2; go_ret; exact ⟨by rw [E.out]; rfl, below_drewN KB.hb _⟩)
  · have d : (da == 0) = false := by rw [beq_eq_false_iff_ne]; exact h
    have E := Lib.hid (show (bw && decide (da = 0)) = false by rw [decide_eq_false h, Bool.and_false])
    clear h
    cases bw <;> (go_wp2; go_ret; exact ⟨by rw [E.out]; rfl, below_drewN KB.hb _⟩)
theorem hr_2 (mo wd da ti re : Int) (bw bd : Bool) (BW : Hid (∀ (W : World) (n : Nat), Calls Tryz.prog 82 #[.int .i64 wd, .int .i64 1, .int .i64 7] (W.drewN n) (fun e w'' => e = .returned (.bool bw) ∧ ∃ m, w'' = W.drewN m))) (BD : Hid (∀ (W : World) (n : Nat), Calls Tryz.prog 82 #[.int .i64 da, .int .i64 1, .int .i64 31] (W.drewN n) (fun e w'' => e = .returned (.bool bd) ∧ ∃ m, w'' = W.drewN m))) (w : World) :
    Calls Tryz.prog 83 #[.agg #[.int .i64 mo, .int .i64 2, .int .i64 wd, .int .i64 da, .int .i64 ti, .int .i64 re]] w (RetV w (.bool (bw && bd))) := by
  go_enter Tryz.func83, Tryz.ntmps83
  go_upto_region 1 with (fail)
  have KB := (BK.nil w).more6 (.int .i64 mo) (.int .i64 2) (.int .i64 wd) (.int .i64 da) (.int .i64 ti) (.int .i64 re) 34
  generalize w.alloc (.cells #[.int .i64 mo, .int .i64 2, .int .i64 wd, .int .i64 da, .int .i64 ti, .int .i64 re] 34) = W at *
  obtain ⟨_, r0, r1, r2, r3, r4, r5, _⟩ := KB.head.six
  go_quiet ((go_at_call 82; first | (with_reducible exact BW.out _ _) | (with_reducible exact BD.out _ _)))
  cases bw <;> (go_wp2; go_ret; exact ⟨rfl, below_drewN KB.hb _⟩)
theorem hr_3 (mo wd da ti re : Int) (bw bd : Bool) (BW : Hid (∀ (W : World) (n : Nat), Calls Tryz.prog 82 #[.int .i64 wd, .int .i64 1, .int .i64 7] (W.drewN n) (fun e w'' => e = .returned (.bool bw) ∧ ∃ m, w'' = W.drewN m))) (BD : Hid (∀ (W : World) (n : Nat), Calls Tryz.prog 82 #[.int .i64 da, .int .i64 1, .int .i64 31] (W.drewN n) (fun e w'' => e = .returned (.bool bd) ∧ ∃ m, w'' = W.drewN m))) (w : World) :
    Calls Tryz.prog 83 #[.agg #[.int .i64 mo, .int .i64 3, .int .i64 wd, .int .i64 da, .int .i64 ti, .int .i64 re]] w (RetV w (.bool (bw && bd))) := by
  go_enter Tryz.func83, Tryz.ntmps83
  go_upto_region 1 with (fail)
  have KB := (BK.nil w).more6 (.int .i64 mo) (.int .i64 3) (.int .i64 wd) (.int .i64 da) (.int .i64 ti) (.int .i64 re) 34
  generalize w.alloc (.cells #[.int .i64 mo, .int .i64 3, .int .i64 wd, .int .i64 da, .int .i64 ti, .int .i64 re] 34) = W at *
  obtain ⟨_, r0, r1, r2, r3, r4, r5, _⟩ := KB.head.six
  go_quiet ((go_at_call 82; first | (with_reducible exact BW.out _ _) | (with_reducible exact BD.out _ _)))
  cases bw <;> (go_wp2; go_ret; exact ⟨rfl, below_drewN KB.hb _⟩)
theorem hr_x (mo ki wd da ti re : Int) (n0 : ¬ ki = 0) (n1 : ¬ ki = 1) (n2 : ¬ ki = 2) (n3 : ¬ ki = 3) (bw bd : Bool) (BW : Hid (∀ (W : World) (n : Nat), Calls Tryz.prog 82 #[.int .i64 wd, .int .i64 1, .int .i64 7] (W.drewN n) (fun e w'' => e = .returned (.bool bw) ∧ ∃ m, w'' = W.drewN m))) (BD : Hid (∀ (W : World) (n : Nat), Calls Tryz.prog 82 #[.int .i64 da, .int .i64 1, .int .i64 31] (W.drewN n) (fun e w'' => e = .returned (.bool bd) ∧ ∃ m, w'' = W.drewN m))) (w : World) :
    Calls Tryz.prog 83 #[.agg #[.int .i64 mo, .int .i64 ki, .int .i64 wd, .int .i64 da, .int .i64 ti, .int .i64 re]] w (RetV w (.bool (false))) := by
  have k0 : (ki == 0) = false := by rw [beq_eq_false_iff_ne]; omega
  have k1 : (ki == 1) = false := by rw [beq_eq_false_iff_ne]; omega
  have k2 : (ki == 2) = false := by rw [beq_eq_false_iff_ne]; omega
  have k3 : (ki == 3) = false := by rw [beq_eq_false_iff_ne]; omega
  clear n0 n1 n2 n3
  go_enter Tryz.func83, Tryz.ntmps83
  go_upto_region 1 with (fail)
  have KB := (BK.nil w).more6 (.int .i64 mo) (.int .i64 ki) (.int .i64 wd) (.int .i64 da) (.int .i64 ti) (.int .i64 re) 34
  generalize w.alloc (.cells #[.int .i64 mo, .int .i64 ki, .int .i64 wd, .int .i64 da, .int .i64 ti, .int .i64 re] 34) = W at *
  obtain ⟨_, r0, r1, r2, r3, r4, r5, _⟩ := KB.head.six
  go_quiet ((go_at_call 82; first | (with_reducible exact BW.out _ _) | (with_reducible exact BD.out _ _)))
  go_wp2
  go_ret
  exact ⟨rfl, below_drewN KB.hb _⟩
theorem hrP (mo ki wd da ti re : Int) (w : World) : Calls Tryz.prog 83 #[.agg #[.int .i64 mo, .int .i64 ki, .int .i64 wd, .int .i64 da, .int .i64 ti, .int .i64 re]] w (RetV w (.bool (hrB ki wd da))) := by
  have BW := Lib.hid (fun (W : World) (n : Nat) => Calls.quiet_of_same (withinQ wd 1 7 (W.drewN n)))
  have BD := Lib.hid (fun (W : World) (n : Nat) => Calls.quiet_of_same (withinQ da 1 31 (W.drewN n)))
  unfold hrB
  by_cases k0 : ki = 0
  · subst k0; rw [if_pos rfl]; exact hr_0 mo wd da ti re _ _ BW BD w
  rw [if_neg k0]
  by_cases k1 : ki = 1
  · subst k1; rw [if_pos rfl]; exact hr_1 mo wd da ti re _ _ BW BD w
  rw [if_neg k1]
  by_cases k2 : ki = 2
  · subst k2; rw [if_pos (.inl rfl)]; exact hr_2 mo wd da ti re _ _ BW BD w
  by_cases k3 : ki = 3
  · subst k3; rw [if_pos (.inr rfl)]; exact hr_3 mo wd da ti re _ _ BW BD w
  rw [if_neg (by omega)]
  exact hr_x mo ki wd da ti re k0 k1 k2 k3 _ _ BW BD w
theorem rt_0 (mo ki wd da ti re : Int) (B0 : Hid (∀ W, Calls Tryz.prog 82 #[.int .i64 mo, .int .i64 1, .int .i64 12] W (fun e w' => e = .returned (.bool false) ∧ W = w'))) (w : World) :
    Calls Tryz.prog 51 #[.agg #[.int .i64 mo, .int .i64 ki, .int .i64 wd, .int .i64 da, .int .i64 ti, .int .i64 re]] w (RetV w (.bool false)) := by
  go_enter Tryz.func51, Tryz.ntmps51
  go_upto_region 1 with (fail)
  have KB := (BK.nil w).more6 (.int .i64 mo) (.int .i64 ki) (.int .i64 wd) (.int .i64 da) (.int .i64 ti) (.int .i64 re) 34
  generalize w.alloc (.cells #[.int .i64 mo, .int .i64 ki, .int .i64 wd, .int .i64 da, .int .i64 ti, .int .i64 re] 34) = W at *
  obtain ⟨_, r0, r1, r2, r3, r4, r5, _⟩ := KB.head.six
  go_wp2_with fail
  refine (B0.out _).mono ?_
  clear B0
  rintro e w2 ⟨rfl, rfl⟩
  go_wp2
  go_ret
  exact ⟨rfl, KB.hb⟩
theorem rt_1 (mo ki wd da ti re : Int) (B0 : Hid (∀ W, Calls Tryz.prog 82 #[.int .i64 mo, .int .i64 1, .int .i64 12] W (fun e w' => e = .returned (.bool true) ∧ W = w'))) (HR : Hid (∀ W, Calls Tryz.prog 83 #[.agg #[.int .i64 mo, .int .i64 ki, .int .i64 wd, .int .i64 da, .int .i64 ti, .int .i64 re]] W (RetV W (.bool false)))) (w : World) :
    Calls Tryz.prog 51 #[.agg #[.int .i64 mo, .int .i64 ki, .int .i64 wd, .int .i64 da, .int .i64 ti, .int .i64 re]] w (RetV w (.bool false)) := by
  go_enter Tryz.func51, Tryz.ntmps51
  go_upto_region 1 with (fail)
  have KB := (BK.nil w).more6 (.int .i64 mo) (.int .i64 ki) (.int .i64 wd) (.int .i64 da) (.int .i64 ti) (.int .i64 re) 34
  generalize w.alloc (.cells #[.int .i64 mo, .int .i64 ki, .int .i64 wd, .int .i64 da, .int .i64 ti, .int .i64 re] 34) = W at *
  obtain ⟨_, r0, r1, r2, r3, r4, r5, _⟩ := KB.head.six
  go_wp2_with fail
  refine (B0.out _).mono ?_
  clear B0
  rintro e w2 ⟨rfl, rfl⟩
  go_wp2_with fail
  clear r0 r1 r2 r3 r4 r5
  refine (HR.out _).mono ?_
  rintro e w1 ⟨rfl, hb⟩
  replace KB := KB.below hb
  clear hb HR
  obtain ⟨_, r0, r1, r2, r3, r4, r5, _⟩ := KB.head.six
  go_wp2
  go_ret
  exact ⟨rfl, KB.hb⟩
theorem rt_2 (mo ki wd da ti re : Int) (B0 : Hid (∀ W, Calls Tryz.prog 82 #[.int .i64 mo, .int .i64 1, .int .i64 12] W (fun e w' => e = .returned (.bool true) ∧ W = w'))) (HR : Hid (∀ W, Calls Tryz.prog 83 #[.agg #[.int .i64 mo, .int .i64 ki, .int .i64 wd, .int .i64 da, .int .i64 ti, .int .i64 re]] W (RetV W (.bool true)))) (B2 : Hid (∀ W, Calls Tryz.prog 82 #[.int .i64 ti, .int .i64 (-604799), .int .i64 604799] W (fun e w' => e = .returned (.bool false) ∧ W = w'))) (w : World) :
    Calls Tryz.prog 51 #[.agg #[.int .i64 mo, .int .i64 ki, .int .i64 wd, .int .i64 da, .int .i64 ti, .int .i64 re]] w (RetV w (.bool false)) := by
  go_enter Tryz.func51, Tryz.ntmps51
  go_upto_region 1 with (fail)
  have KB := (BK.nil w).more6 (.int .i64 mo) (.int .i64 ki) (.int .i64 wd) (.int .i64 da) (.int .i64 ti) (.int .i64 re) 34
  generalize w.alloc (.cells #[.int .i64 mo, .int .i64 ki, .int .i64 wd, .int .i64 da, .int .i64 ti, .int .i64 re] 34) = W at *
  obtain ⟨_, r0, r1, r2, r3, r4, r5, _⟩ := KB.head.six
  go_wp2_with fail
  refine (B0.out _).mono ?_
  clear B0
  rintro e w2 ⟨rfl, rfl⟩
  go_wp2_with fail
  clear r0 r1 r2 r3 r4 r5
  refine (HR.out _).mono ?_
  rintro e w1 ⟨rfl, hb⟩
  replace KB := KB.below hb
  clear hb HR
  obtain ⟨_, r0, r1, r2, r3, r4, r5, _⟩ := KB.head.six
  go_wp2_with fail
  refine (B2.out _).mono ?_
  clear B2
  rintro e w2 ⟨rfl, rfl⟩
  go_wp2
  go_ret
  exact ⟨rfl, KB.hb⟩
theorem rt_3 (mo ki wd da ti re : Int) (b : Bool) (B0 : Hid (∀ W, Calls Tryz.prog 82 #[.int .i64 mo, .int .i64 1, .int .i64 12] W (fun e w' => e = .returned (.bool true) ∧ W = w'))) (HR : Hid (∀ W, Calls Tryz.prog 83 #[.agg #[.int .i64 mo, .int .i64 ki, .int .i64 wd, .int .i64 da, .int .i64 ti, .int .i64 re]] W (RetV W (.bool true)))) (B2 : Hid (∀ W, Calls Tryz.prog 82 #[.int .i64 ti, .int .i64 (-604799), .int .i64 604799] W (fun e w' => e = .returned (.bool true) ∧ W = w'))) (B3 : Hid (∀ W, Calls Tryz.prog 82 #[.int .i64 re, .int .i64 0, .int .i64 2] W (fun e w' => e = .returned (.bool b) ∧ W = w'))) (w : World) :
    Calls Tryz.prog 51 #[.agg #[.int .i64 mo, .int .i64 ki, .int .i64 wd, .int .i64 da, .int .i64 ti, .int .i64 re]] w (RetV w (.bool b)) := by
  go_enter Tryz.func51, Tryz.ntmps51
  go_upto_region 1 with (fail)
  have KB := (BK.nil w).more6 (.int .i64 mo) (.int .i64 ki) (.int .i64 wd) (.int .i64 da) (.int .i64 ti) (.int .i64 re) 34
  generalize w.alloc (.cells #[.int .i64 mo, .int .i64 ki, .int .i64 wd, .int .i64 da, .int .i64 ti, .int .i64 re] 34) = W at *
  obtain ⟨_, r0, r1, r2, r3, r4, r5, _⟩ := KB.head.six
  go_wp2_with fail
  refine (B0.out _).mono ?_
  clear B0
  rintro e w2 ⟨rfl, rfl⟩
  go_wp2_with fail
  clear r0 r1 r2 r3 r4 r5
  refine (HR.out _).mono ?_
  rintro e w1 ⟨rfl, hb⟩
  replace KB := KB.below hb
  clear hb HR
  obtain ⟨_, r0, r1, r2, r3, r4, r5, _⟩ := KB.head.six
  go_wp2_with fail
  refine (B2.out _).mono ?_
  clear B2
  rintro e w2 ⟨rfl, rfl⟩
  go_wp2_with fail
  refine (B3.out _).mono ?_
  clear B3
  rintro e w2 ⟨rfl, rfl⟩
  go_wp2
  go_ret
  exact ⟨rfl, KB.hb⟩
theorem ok_is (x : Sp) : decide x.ok = (wiB x.mo 1 12 && (hrB x.ki x.wd x.da && (wiB x.ti (-604799) 604799 && wiB x.re 0 2))) := by
  rw [Bool.eq_iff_iff, decide_eq_true_iff, Bool.and_eq_true, Bool.and_eq_true, Bool.and_eq_true, wiB_is, wiB_is, wiB_is]
  unfold Sp.ok hrB
  by_cases k0 : x.ki = 0
  · rw [if_pos k0, Bool.and_eq_true, decide_eq_true_iff, wiB_is]; omega
  rw [if_neg k0]
  by_cases k1 : x.ki = 1
  · rw [if_pos k1, Bool.and_eq_true, decide_eq_true_iff, wiB_is]; omega
  rw [if_neg k1]
  by_cases k2 : x.ki = 2 ∨ x.ki = 3
  · rw [if_pos k2, Bool.and_eq_true, wiB_is, wiB_is]; omega
  rw [if_neg k2]
  constructor
  · intro h; omega
  · intro h; exact absurd h.2.1 (by decide)
theorem rightMP (x : Sp) (w : World) : Calls Tryz.prog 51 #[x.val] w (RetV w (.bool (decide x.ok))) := by
  rw [ok_is]
  have H0 := fun W => withinP x.mo 1 12 W
  have HR := fun W => hrP x.mo x.ki x.wd x.da x.ti x.re W
  have H2 := fun W => withinP x.ti (-604799) 604799 W
  have H3 := fun W => withinP x.re 0 2 W
  cases h0 : wiB x.mo 1 12 with
  | false => rw [h0] at H0; exact rt_0 _ _ _ _ _ _ (Lib.hid H0) w
  | true =>
    rw [h0] at H0
    cases h1 : hrB x.ki x.wd x.da with
    | false => rw [h1] at HR; exact rt_1 _ _ _ _ _ _ (Lib.hid H0) (Lib.hid HR) w
    | true =>
      rw [h1] at HR
      cases h2 : wiB x.ti (-604799) 604799 with
      | false => rw [h2] at H2; exact rt_2 _ _ _ _ _ _ (Lib.hid H0) (Lib.hid HR) (Lib.hid H2) w
      | true => rw [h2] at H2; exact rt_3 _ _ _ _ _ _ _ (Lib.hid H0) (Lib.hid HR) (Lib.hid H2) (Lib.hid H3) w
end Go.Proofs.YtmhpnmlgfdomkaaGreatDoor
namespace Go.Proofs.YtmhpnmlgfdomkaaGreatDoor
open Go.RowKit Go.Sort Go.Lib
end Go.Proofs.YtmhpnmlgfdomkaaGreatDoor
