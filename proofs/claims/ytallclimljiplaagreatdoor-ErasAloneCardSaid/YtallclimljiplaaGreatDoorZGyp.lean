import Derived.Test.YtallclimljiplaaGreatDoorZGua
import Derived.Test.YtallclimljiplaaGreatDoorZGsix
import Derived.Test.YtallclimljiplaaGreatDoorZGm
import Derived.BigQuiet
import Derived.Test.YtallclimljiplaaGreatDoorZGy
import Derived.Test.YtallclimljiplaaGreatDoorZUdig
import Derived.Lib.ItoaMem
import Derived.Lib.AppendIntMem
import Derived.WalkKit
import Derived.BigCall
set_option maxRecDepth 100000
set_option maxHeartbeats 64000000
namespace Go.Proofs.YtallclimljiplaaGreatDoor
open Go.RowKit
def wiB (n a b : Int) : Bool := decide (a ≤ n) && decide (n ≤ b)
theorem wiB_is {n a b : Int} : wiB n a b = true ↔ a ≤ n ∧ n ≤ b := by unfold wiB; rw [Bool.and_eq_true, decide_eq_true_iff, decide_eq_true_iff]
theorem withinP (n a b : Int) (w : World) : Calls Tryz.prog 113 #[.int .i64 n, .int .i64 a, .int .i64 b] w (fun e w' => e = .returned (.bool (wiB n a b)) ∧ w = w') := by
  by_cases h : a ≤ n
  · have d : decide (a ≤ n) = true := decide_eq_true h
    have E := Lib.hid (show wiB n a b = decide (n ≤ b) by unfold wiB; rw [d]; rfl)
    clear h
    go_enter Tryz.func113, Tryz.ntmps113
    go_wp2
    go_ret
    exact ⟨by rw [E.out]; rfl, rfl⟩
  · have d : decide (a ≤ n) = false := decide_eq_false h
    have E := Lib.hid (show wiB n a b = false by unfold wiB; rw [d]; rfl)
    clear h
    go_enter Tryz.func113, Tryz.ntmps113
    go_wp2
    go_ret
    exact ⟨by rw [E.out]; rfl, rfl⟩
theorem withinQ (n a b : Int) (w : World) : Calls Tryz.prog 113 #[.int .i64 n, .int .i64 a, .int .i64 b] w (fun e w' => e = .returned (.bool (wiB n a b)) ∧ w' = w) := (withinP n a b w).mono fun _ _ ⟨h1, h2⟩ => ⟨h1, h2.symm⟩
def hrB (ki wd da : Int) : Bool := if ki = 0 then decide (wd = 0) && wiB da 1 31 else if ki = 1 then wiB wd 1 7 && decide (da = 0) else if ki = 2 ∨ ki = 3 then wiB wd 1 7 && wiB da 1 31 else false
theorem hr_0 (mo wd da ti re : Int) (bw bd : Bool) (BW : Hid (∀ (W : World) (n : Nat), Calls Tryz.prog 113 #[.int .i64 wd, .int .i64 1, .int .i64 7] (W.drewN n) (fun e w'' => e = .returned (.bool bw) ∧ ∃ m, w'' = W.drewN m))) (BD : Hid (∀ (W : World) (n : Nat), Calls Tryz.prog 113 #[.int .i64 da, .int .i64 1, .int .i64 31] (W.drewN n) (fun e w'' => e = .returned (.bool bd) ∧ ∃ m, w'' = W.drewN m))) (w : World) :
    Calls Tryz.prog 114 #[.agg #[.int .i64 mo, .int .i64 0, .int .i64 wd, .int .i64 da, .int .i64 ti, .int .i64 re]] w (RetV w (.bool (decide (wd = 0) && bd))) := by
  go_enter Tryz.func114, Tryz.ntmps114
  go_upto_region 1 with (fail)
  have KB := (BK.nil w).more6 (.int .i64 mo) (.int .i64 0) (.int .i64 wd) (.int .i64 da) (.int .i64 ti) (.int .i64 re) 37
  generalize w.alloc (.cells #[.int .i64 mo, .int .i64 0, .int .i64 wd, .int .i64 da, .int .i64 ti, .int .i64 re] 37) = W at *
  obtain ⟨_, r0, r1, r2, r3, r4, r5, _⟩ := KB.head.six
  go_quiet ((go_at_call 113; first | (with_reducible exact BW.out _ _) | (with_reducible exact BD.out _ _)))
  by_cases h : wd = 0
  · have d : (wd == 0) = true := by rw [beq_iff_eq]; exact h
    have E := Lib.hid (show (decide (wd = 0) && bd) = bd by rw [decide_eq_true h]; rfl)
    clear h
    go_wp2
    go_ret
    exact ⟨by rw [E.out]; rfl, below_drewN KB.hb _⟩
  · have d : (wd == 0) = false := by rw [beq_eq_false_iff_ne]; exact h
    have E := Lib.hid (show (decide (wd = 0) && bd) = false by rw [decide_eq_false h]; rfl)
    clear h
    go_wp2
    go_ret
    exact ⟨by rw [E.out]; rfl, below_drewN KB.hb _⟩
theorem hr_1 (mo wd da ti re : Int) (bw bd : Bool) (BW : Hid (∀ (W : World) (n : Nat), Calls Tryz.prog 113 #[.int .i64 wd, .int .i64 1, .int .i64 7] (W.drewN n) (fun e w'' => e = .returned (.bool bw) ∧ ∃ m, w'' = W.drewN m))) (BD : Hid (∀ (W : World) (n : Nat), Calls Tryz.prog 113 #[.int .i64 da, .int .i64 1, .int .i64 31] (W.drewN n) (fun e w'' => e = .returned (.bool bd) ∧ ∃ m, w'' = W.drewN m))) (w : World) :
    Calls Tryz.prog 114 #[.agg #[.int .i64 mo, .int .i64 1, .int .i64 wd, .int .i64 da, .int .i64 ti, .int .i64 re]] w (RetV w (.bool (bw && decide (da = 0)))) := by
  go_enter Tryz.func114, Tryz.ntmps114
  go_upto_region 1 with (fail)
  have KB := (BK.nil w).more6 (.int .i64 mo) (.int .i64 1) (.int .i64 wd) (.int .i64 da) (.int .i64 ti) (.int .i64 re) 37
  generalize w.alloc (.cells #[.int .i64 mo, .int .i64 1, .int .i64 wd, .int .i64 da, .int .i64 ti, .int .i64 re] 37) = W at *
  obtain ⟨_, r0, r1, r2, r3, r4, r5, _⟩ := KB.head.six
  go_quiet ((go_at_call 113; first | (with_reducible exact BW.out _ _) | (with_reducible exact BD.out _ _)))
  by_cases h : da = 0
  · have d : (da == 0) = true := by rw [beq_iff_eq]; exact h
    have E := Lib.hid (show (bw && decide (da = 0)) = bw by rw [decide_eq_true h, Bool.and_true])
    clear h
    cases bw <;> (go_wp2; go_ret; exact ⟨by rw [E.out]; rfl, below_drewN KB.hb _⟩)
  · have d : (da == 0) = false := by rw [beq_eq_false_iff_ne]; exact h
    have E := Lib.hid (show (bw && decide (da = 0)) = false by rw [decide_eq_false h, Bool.and_false])
    clear h
    cases bw <;> (go_wp2; go_ret; exact ⟨by rw [E.out]; rfl, below_drewN KB.hb _⟩)
theorem hr_2 (mo wd da ti re : Int) (bw bd : Bool) (BW : Hid (∀ (W : World) (n : Nat), Calls Tryz.prog 113 #[.int .i64 wd, .int .i64 1, .int .i64 7] (W.drewN n) (fun e w'' => e = .returned (.bool bw) ∧ ∃ m, w'' = W.drewN m))) (BD : Hid (∀ (W : World) (n : Nat), Calls Tryz.prog 113 #[.int .i64 da, .int .i64 1, .int .i64 31] (W.drewN n) (fun e w'' => e = .returned (.bool bd) ∧ ∃ m, w'' = W.drewN m))) (w : World) :
    Calls Tryz.prog 114 #[.agg #[.int .i64 mo, .int .i64 2, .int .i64 wd, .int .i64 da, .int .i64 ti, .int .i64 re]] w (RetV w (.bool (bw && bd))) := by
  go_enter Tryz.func114, Tryz.ntmps114
  go_upto_region 1 with (fail)
  have KB := (BK.nil w).more6 (.int .i64 mo) (.int .i64 2) (.int .i64 wd) (.int .i64 da) (.int .i64 ti) (.int .i64 re) 37
  generalize w.alloc (.cells #[.int .i64 mo, .int .i64 2, .int .i64 wd, .int .i64 da, .int .i64 ti, .int .i64 re] 37) = W at *
  obtain ⟨_, r0, r1, r2, r3, r4, r5, _⟩ := KB.head.six
  go_quiet ((go_at_call 113; first | (with_reducible exact BW.out _ _) | (with_reducible exact BD.out _ _)))
  cases bw <;> (go_wp2; go_ret; exact ⟨rfl, below_drewN KB.hb _⟩)
theorem hr_3 (mo wd da ti re : Int) (bw bd : Bool) (BW : Hid (∀ (W : World) (n : Nat), Calls Tryz.prog 113 #[.int .i64 wd, .int .i64 1, .int .i64 7] (W.drewN n) (fun e w'' => e = .returned (.bool bw) ∧ ∃ m, w'' = W.drewN m))) (BD : Hid (∀ (W : World) (n : Nat), Calls Tryz.prog 113 #[.int .i64 da, .int .i64 1, .int .i64 31] (W.drewN n) (fun e w'' => e = .returned (.bool bd) ∧ ∃ m, w'' = W.drewN m))) (w : World) :
    Calls Tryz.prog 114 #[.agg #[.int .i64 mo, .int .i64 3, .int .i64 wd, .int .i64 da, .int .i64 ti, .int .i64 re]] w (RetV w (.bool (bw && bd))) := by
  go_enter Tryz.func114, Tryz.ntmps114
  go_upto_region 1 with (fail)
  have KB := (BK.nil w).more6 (.int .i64 mo) (.int .i64 3) (.int .i64 wd) (.int .i64 da) (.int .i64 ti) (.int .i64 re) 37
  generalize w.alloc (.cells #[.int .i64 mo, .int .i64 3, .int .i64 wd, .int .i64 da, .int .i64 ti, .int .i64 re] 37) = W at *
  obtain ⟨_, r0, r1, r2, r3, r4, r5, _⟩ := KB.head.six
  go_quiet ((go_at_call 113; first | (with_reducible exact BW.out _ _) | (with_reducible exact BD.out _ _)))
  cases bw <;> (go_wp2; go_ret; exact ⟨rfl, below_drewN KB.hb _⟩)
theorem hr_x (mo ki wd da ti re : Int) (n0 : ¬ ki = 0) (n1 : ¬ ki = 1) (n2 : ¬ ki = 2) (n3 : ¬ ki = 3) (bw bd : Bool) (BW : Hid (∀ (W : World) (n : Nat), Calls Tryz.prog 113 #[.int .i64 wd, .int .i64 1, .int .i64 7] (W.drewN n) (fun e w'' => e = .returned (.bool bw) ∧ ∃ m, w'' = W.drewN m))) (BD : Hid (∀ (W : World) (n : Nat), Calls Tryz.prog 113 #[.int .i64 da, .int .i64 1, .int .i64 31] (W.drewN n) (fun e w'' => e = .returned (.bool bd) ∧ ∃ m, w'' = W.drewN m))) (w : World) :
    Calls Tryz.prog 114 #[.agg #[.int .i64 mo, .int .i64 ki, .int .i64 wd, .int .i64 da, .int .i64 ti, .int .i64 re]] w (RetV w (.bool (false))) := by
  have k0 : (ki == 0) = false := by rw [beq_eq_false_iff_ne]; omega
  have k1 : (ki == 1) = false := by rw [beq_eq_false_iff_ne]; omega
  have k2 : (ki == 2) = false := by rw [beq_eq_false_iff_ne]; omega
  have k3 : (ki == 3) = false := by rw [beq_eq_false_iff_ne]; omega
  clear n0 n1 n2 n3
  go_enter Tryz.func114, Tryz.ntmps114
  go_upto_region 1 with (fail)
  have KB := (BK.nil w).more6 (.int .i64 mo) (.int .i64 ki) (.int .i64 wd) (.int .i64 da) (.int .i64 ti) (.int .i64 re) 37
  generalize w.alloc (.cells #[.int .i64 mo, .int .i64 ki, .int .i64 wd, .int .i64 da, .int .i64 ti, .int .i64 re] 37) = W at *
  obtain ⟨_, r0, r1, r2, r3, r4, r5, _⟩ := KB.head.six
  go_quiet ((go_at_call 113; first | (with_reducible exact BW.out _ _) | (with_reducible exact BD.out _ _)))
  go_wp2
  go_ret
  exact ⟨rfl, below_drewN KB.hb _⟩
theorem hrP (mo ki wd da ti re : Int) (w : World) : Calls Tryz.prog 114 #[.agg #[.int .i64 mo, .int .i64 ki, .int .i64 wd, .int .i64 da, .int .i64 ti, .int .i64 re]] w (RetV w (.bool (hrB ki wd da))) := by
  have BW := Lib.hid (fun (W : World) (n : Nat) => Calls.quiet_of_same (withinQ wd 1 7 (W.drewN n)))
  have BD := Lib.hid (fun (W : World) (n : Nat) => Calls.quiet_of_same (withinQ da 1 31 (W.drewN n)))
  unfold hrB
  by_cases k0 : ki = 0
  · subst k0; rw [if_pos rfl]; exact hr_0 mo wd da ti re _ _ BW BD w
  rw [if_neg k0]
  by_cases k1 : ki = 1
  · subst k1; rw [if_pos rfl]; exact hr_1 mo wd da ti re _ _ BW BD w
  rw [if_neg k1]
  by_cases k2 : ki = 2
  · subst k2; rw [if_pos (.inl rfl)]; exact hr_2 mo wd da ti re _ _ BW BD w
  by_cases k3 : ki = 3
  · subst k3; rw [if_pos (.inr rfl)]; exact hr_3 mo wd da ti re _ _ BW BD w
  rw [if_neg (by omega)]
  exact hr_x mo ki wd da ti re k0 k1 k2 k3 _ _ BW BD w
theorem rt_0 (mo ki wd da ti re : Int) (B0 : Hid (∀ W, Calls Tryz.prog 113 #[.int .i64 mo, .int .i64 1, .int .i64 12] W (fun e w' => e = .returned (.bool false) ∧ W = w'))) (w : World) :
    Calls Tryz.prog 87 #[.agg #[.int .i64 mo, .int .i64 ki, .int .i64 wd, .int .i64 da, .int .i64 ti, .int .i64 re]] w (RetV w (.bool false)) := by
  go_enter Tryz.func87, Tryz.ntmps87
  go_upto_region 1 with (fail)
  have KB := (BK.nil w).more6 (.int .i64 mo) (.int .i64 ki) (.int .i64 wd) (.int .i64 da) (.int .i64 ti) (.int .i64 re) 37
  generalize w.alloc (.cells #[.int .i64 mo, .int .i64 ki, .int .i64 wd, .int .i64 da, .int .i64 ti, .int .i64 re] 37) = W at *
  obtain ⟨_, r0, r1, r2, r3, r4, r5, _⟩ := KB.head.six
  go_wp2_with fail
  refine (B0.out _).mono ?_
  clear B0
  rintro e w2 ⟨rfl, rfl⟩
  go_wp2
  go_ret
  exact ⟨rfl, KB.hb⟩
theorem rt_1 (mo ki wd da ti re : Int) (B0 : Hid (∀ W, Calls Tryz.prog 113 #[.int .i64 mo, .int .i64 1, .int .i64 12] W (fun e w' => e = .returned (.bool true) ∧ W = w'))) (HR : Hid (∀ W, Calls Tryz.prog 114 #[.agg #[.int .i64 mo, .int .i64 ki, .int .i64 wd, .int .i64 da, .int .i64 ti, .int .i64 re]] W (RetV W (.bool false)))) (w : World) :
    Calls Tryz.prog 87 #[.agg #[.int .i64 mo, .int .i64 ki, .int .i64 wd, .int .i64 da, .int .i64 ti, .int .i64 re]] w (RetV w (.bool false)) := by
  go_enter Tryz.func87, Tryz.ntmps87
  go_upto_region 1 with (fail)
  have KB := (BK.nil w).more6 (.int .i64 mo) (.int .i64 ki) (.int .i64 wd) (.int .i64 da) (.int .i64 ti) (.int .i64 re) 37
  generalize w.alloc (.cells #[.int .i64 mo, .int .i64 ki, .int .i64 wd, .int .i64 da, .int .i64 ti, .int .i64 re] 37) = W at *
  obtain ⟨_, r0, r1, r2, r3, r4, r5, _⟩ := KB.head.six
  go_wp2_with fail
  refine (B0.out _).mono ?_
  clear B0
  rintro e w2 ⟨rfl, rfl⟩
  go_wp2_with fail
  clear r0 r1 r2 r3 r4 r5
  refine (HR.out _).mono ?_
  rintro e w1 ⟨rfl, hb⟩
  replace KB := KB.below hb
  clear hb HR
  obtain ⟨_, r0, r1, r2, r3, r4, r5, _⟩ := KB.head.six
  go_wp2
  go_ret
  exact ⟨rfl, KB.hb⟩
theorem rt_2 (mo ki wd da ti re : Int) (B0 : Hid (∀ W, Calls Tryz.prog 113 #[.int .i64 mo, .int .i64 1, .int .i64 12] W (fun e w' => e = .returned (.bool true) ∧ W = w'))) (HR : Hid (∀ W, Calls Tryz.prog 114 #[.agg #[.int .i64 mo, .int .i64 ki, .int .i64 wd, .int .i64 da, .int .i64 ti, .int .i64 re]] W (RetV W (.bool true)))) (B2 : Hid (∀ W, Calls Tryz.prog 113 #[.int .i64 ti, .int .i64 (-604799), .int .i64 604799] W (fun e w' => e = .returned (.bool false) ∧ W = w'))) (w : World) :
    Calls Tryz.prog 87 #[.agg #[.int .i64 mo, .int .i64 ki, .int .i64 wd, .int .i64 da, .int .i64 ti, .int .i64 re]] w (RetV w (.bool false)) := by
  go_enter Tryz.func87, Tryz.ntmps87
  go_upto_region 1 with (fail)
  have KB := (BK.nil w).more6 (.int .i64 mo) (.int .i64 ki) (.int .i64 wd) (.int .i64 da) (.int .i64 ti) (.int .i64 re) 37
  generalize w.alloc (.cells #[.int .i64 mo, .int .i64 ki, .int .i64 wd, .int .i64 da, .int .i64 ti, .int .i64 re] 37) = W at *
  obtain ⟨_, r0, r1, r2, r3, r4, r5, _⟩ := KB.head.six
  go_wp2_with fail
  refine (B0.out _).mono ?_
  clear B0
  rintro e w2 ⟨rfl, rfl⟩
  go_wp2_with fail
  clear r0 r1 r2 r3 r4 r5
  refine (HR.out _).mono ?_
  rintro e w1 ⟨rfl, hb⟩
  replace KB := KB.below hb
  clear hb HR
  obtain ⟨_, r0, r1, r2, r3, r4, r5, _⟩ := KB.head.six
  go_wp2_with fail
  refine (B2.out _).mono ?_
  clear B2
  rintro e w2 ⟨rfl, rfl⟩
  go_wp2
  go_ret
  exact ⟨rfl, KB.hb⟩
theorem rt_3 (mo ki wd da ti re : Int) (b : Bool) (B0 : Hid (∀ W, Calls Tryz.prog 113 #[.int .i64 mo, .int .i64 1, .int .i64 12] W (fun e w' => e = .returned (.bool true) ∧ W = w'))) (HR : Hid (∀ W, Calls Tryz.prog 114 #[.agg #[.int .i64 mo, .int .i64 ki, .int .i64 wd, .int .i64 da, .int .i64 ti, .int .i64 re]] W (RetV W (.bool true)))) (B2 : Hid (∀ W, Calls Tryz.prog 113 #[.int .i64 ti, .int .i64 (-604799), .int .i64 604799] W (fun e w' => e = .returned (.bool true) ∧ W = w'))) (B3 : Hid (∀ W, Calls Tryz.prog 113 #[.int .i64 re, .int .i64 0, .int .i64 2] W (fun e w' => e = .returned (.bool b) ∧ W = w'))) (w : World) :
    Calls Tryz.prog 87 #[.agg #[.int .i64 mo, .int .i64 ki, .int .i64 wd, .int .i64 da, .int .i64 ti, .int .i64 re]] w (RetV w (.bool b)) := by
  go_enter Tryz.func87, Tryz.ntmps87
  go_upto_region 1 with (fail)
  have KB := (BK.nil w).more6 (.int .i64 mo) (.int .i64 ki) (.int .i64 wd) (.int .i64 da) (.int .i64 ti) (.int .i64 re) 37
  generalize w.alloc (.cells #[.int .i64 mo, .int .i64 ki, .int .i64 wd, .int .i64 da, .int .i64 ti, .int .i64 re] 37) = W at *
  obtain ⟨_, r0, r1, r2, r3, r4, r5, _⟩ := KB.head.six
  go_wp2_with fail
  refine (B0.out _).mono ?_
  clear B0
  rintro e w2 ⟨rfl, rfl⟩
  go_wp2_with fail
  clear r0 r1 r2 r3 r4 r5
  refine (HR.out _).mono ?_
  rintro e w1 ⟨rfl, hb⟩
  replace KB := KB.below hb
  clear hb HR
  obtain ⟨_, r0, r1, r2, r3, r4, r5, _⟩ := KB.head.six
  go_wp2_with fail
  refine (B2.out _).mono ?_
  clear B2
  rintro e w2 ⟨rfl, rfl⟩
  go_wp2_with fail
  refine (B3.out _).mono ?_
  clear B3
  rintro e w2 ⟨rfl, rfl⟩
  go_wp2
  go_ret
  exact ⟨rfl, KB.hb⟩
theorem ok_is (x : Sp) : decide x.ok = (wiB x.mo 1 12 && (hrB x.ki x.wd x.da && (wiB x.ti (-604799) 604799 && wiB x.re 0 2))) := by
  rw [Bool.eq_iff_iff, decide_eq_true_iff, Bool.and_eq_true, Bool.and_eq_true, Bool.and_eq_true, wiB_is, wiB_is, wiB_is]
  unfold Sp.ok hrB
  by_cases k0 : x.ki = 0
  · rw [if_pos k0, Bool.and_eq_true, decide_eq_true_iff, wiB_is]; omega
  rw [if_neg k0]
  by_cases k1 : x.ki = 1
  · rw [if_pos k1, Bool.and_eq_true, decide_eq_true_iff, wiB_is]; omega
  rw [if_neg k1]
  by_cases k2 : x.ki = 2 ∨ x.ki = 3
  · rw [if_pos k2, Bool.and_eq_true, wiB_is, wiB_is]; omega
  rw [if_neg k2]
  constructor
  · intro h; omega
  · intro h; exact absurd h.2.1 (by decide)
theorem rightMP (x : Sp) (w : World) : Calls Tryz.prog 87 #[x.val] w (RetV w (.bool (decide x.ok))) := by
  rw [ok_is]
  have H0 := fun W => withinP x.mo 1 12 W
  have HR := fun W => hrP x.mo x.ki x.wd x.da x.ti x.re W
  have H2 := fun W => withinP x.ti (-604799) 604799 W
  have H3 := fun W => withinP x.re 0 2 W
  cases h0 : wiB x.mo 1 12 with
  | false => rw [h0] at H0; exact rt_0 _ _ _ _ _ _ (Lib.hid H0) w
  | true =>
    rw [h0] at H0
    cases h1 : hrB x.ki x.wd x.da with
    | false => rw [h1] at HR; exact rt_1 _ _ _ _ _ _ (Lib.hid H0) (Lib.hid HR) w
    | true =>
      rw [h1] at HR
      cases h2 : wiB x.ti (-604799) 604799 with
      | false => rw [h2] at H2; exact rt_2 _ _ _ _ _ _ (Lib.hid H0) (Lib.hid HR) (Lib.hid H2) w
      | true => rw [h2] at H2; exact rt_3 _ _ _ _ _ _ _ (Lib.hid H0) (Lib.hid HR) (Lib.hid H2) (Lib.hid H3) w
end Go.Proofs.YtallclimljiplaaGreatDoor
namespace Go.Proofs.YtallclimljiplaaGreatDoor
open Go.RowKit Go.Sort Go.Lib
theorem dec_is : ∀ (d u : Nat), u ≤ d → Lib.decDigits u = dec u := by
  intro d
  induction d with
  | zero => intro u h; rw [Lib.decDigits, dif_pos (by omega), dec_small (by omega)]
  | succ d ih =>
    intro u h
    by_cases hu : u < 10
    · rw [Lib.decDigits, dif_pos hu, dec_small hu]
    · rw [Lib.decDigits, dif_neg hu, dec_big hu, ih (u / 10) (by omega)]
theorem decB_is (u : Nat) : (⟨(Lib.decDigits u).toArray⟩ : ByteArray) = decB u := by
  unfold decB
  rw [dec_is u u (Nat.le_refl _)]
theorem holds_zero0 (w : World) (T : TypeId) (nd : Nat) (hs : nd ≤ 24) : Holds (fun (b : UInt8) => Value.int .u8 (b.toNat : Int)) (w.alloc (.cells zeros24 T)) w.heap.size 0 (Array.replicate nd (0 : UInt8)) := fun j hj => by
  have hj' : j < nd := by simpa using hj
  refine ⟨?_, World.frozen?_alloc_new _ _ _ _⟩
  rw [World.cell?_alloc_new, zeros24_at _ (by omega), getElem!_pos _ j hj]
  simp
theorem below_row (w : World) (o : Obj) (dk : Array UInt8) (k : Nat) : Below w.heap.size w ((putRow (fun (b : UInt8) => Value.int .u8 (b.toNat : Int)) (w.alloc o) w.heap.size 0 dk).drewN k) := by
  refine below_drewN ?_ k
  rw [alloc_eq_grow]
  obtain ⟨os', _, e⟩ := putRow_grow_new (fun (b : UInt8) => Value.int .u8 (b.toNat : Int)) w #[o] w.heap.size 0 dk (Nat.le_refl _)
  rw [e]
  exact ⟨rfl, rfl, rfl, by simp [grow], fun j hj => heap_grow_old w os' hj⟩
theorem fmt_small (u : Nat) (h : u < 100) (w : World) : Calls Tryz.prog 112 #[.int .u64 u, .int .i64 10] w (RetV w (.string (decB u))) := by
  have E := Lib.hid (decB_is u)
  have SM := Lib.hid (yinternal_strconv_small u h)
  have k1 : IntKind.i64.wrap (u : Int) = u := IntWalk.i64_in _ (by omega)
  have d : decide ((u : Int) < 100) = true := decide_eq_true (by omega)
  go_enter Tryz.func112, Tryz.ntmps112
  go_wp2_with fail
  refine (SM.out _).mono ?_
  rintro e w' ⟨rfl, rfl⟩
  go_wp2
  go_ret
  exact ⟨by rw [← E.out]; rfl, Below.refl _ _⟩
theorem fmt_big (u : Nat) (h : ¬ u < 100) (hu64 : u < 18446744073709551616) (w : World) (htab : Lib.TabIs Tryz.prog w "internal/strconv.uint64pow10" .u64 Lib.pow10Tab) : Calls Tryz.prog 112 #[.int .u64 u, .int .i64 10] w (RetV w (.string (decB u))) := by
  have E := Lib.hid (decB_is u)
  have hu1 : 1 ≤ u := by omega
  have d : decide ((u : Int) < 100) = false := decide_eq_false (by omega)
  have hnd20 : Lib.nDigits u ≤ 20 := by have := Lib.numDigits_eq u hu1 hu64; split at this <;> omega
  have hal : Tryz.prog.arrayLen 142 = 24 := by kernel_rfl
  have hsl1 : ∀ W, (Instr.sliceAt 142 (.pointer (some ⟨w.heap.size, 0, none⟩)) none (some (.int .i64 (Lib.nDigits u : Int))) none).run Tryz.prog W = .ok (.slice (some ⟨w.heap.size, 0, none⟩) (Lib.nDigits u) 24) W := fun W => by
    rw [run_sliceAt_array_h W 142 ⟨w.heap.size, 0, none⟩ (by simp [Program.arrayLen, Program.elem, Tryz.underlying142]) .i64 (Lib.nDigits u : Int) (by omega) (by rw [hal]; omega)]
    go_simp
    try omega
  have hH0 := holds_zero0 w 142 (Lib.nDigits u) (by omega)
  have hfmt := yinternal_strconv_formatBase10 w.heap.size 0 24 u (Array.replicate (Lib.nDigits u) 0) (w.alloc (.cells Lib.zeros24 142)) hH0 (by rw [Array.size_replicate]; exact Lib.lt_pow_nDigits u) hu64 (by rw [Array.size_replicate]; omega)
  rw [Array.size_replicate] at hfmt
  have HH0 := Lib.hid hH0
  have TB := Lib.hid (Lib.tabIs_alloc htab)
  clear hH0 hal htab
  go_enter Tryz.func112, Tryz.ntmps112
  go_wp2_with (first
    | (go_at_call 137; refine (yinternal_strconv_numDigits u hu1 hu64 _ (TB.out _)).mono ?_; rintro e w' ⟨rfl, rfl⟩))
  go_at_call 138
  refine hfmt.mono ?_
  rintro e w' ⟨rfl, k, v', dk, rfl, hF⟩
  have hcv : (convert 90 9 (.slice (some ⟨w.heap.size, 0, none⟩) (Lib.nDigits u) 24)).run Tryz.prog ((putRow (fun (b : UInt8) => Value.int .u8 (b.toNat : Int)) (w.alloc (.cells Lib.zeros24 142)) w.heap.size 0 dk).drewN k) = .ok (.string ⟨(Lib.decDigits u).toArray⟩) ((putRow (fun (b : UInt8) => Value.int .u8 (b.toNat : Int)) (w.alloc (.cells Lib.zeros24 142)) w.heap.size 0 dk).drewN k) := by
    have h := run_convert_bytes_back (P := Tryz.prog) ((putRow (fun (b : UInt8) => Value.int .u8 (b.toNat : Int)) (w.alloc (.cells Lib.zeros24 142)) w.heap.size 0 dk).drewN k) 90 9 5 ⟨w.heap.size, 0, none⟩ 24 (Lib.decDigits u) Tryz.underlying90 Tryz.underlying5 Tryz.underlying9 (fun j hj => by
      rw [Lib.row_is_numeral hF j hj, Lib.add_plain, World.cell?_drewN]
      exact cell?_putRow (fun (b : UInt8) => Value.int .u8 (b.toNat : Int)) _ w.heap.size 0 _ dk HH0.out (by rw [hF.size, Array.size_replicate]) j (by rw [hF.size]; rw [Lib.decDigits_length] at hj; exact hj))
    rw [Lib.decDigits_length] at h
    exact h
  go_wp2
  go_ret
  exact ⟨by rw [← E.out]; rfl, below_row w _ dk k⟩
theorem fmtP (u : Nat) (hu64 : u < 18446744073709551616) (w : World) (htab : Lib.TabIs Tryz.prog w "internal/strconv.uint64pow10" .u64 Lib.pow10Tab) : Calls Tryz.prog 86 #[.int .u64 u, .int .i64 10] w (RetV w (.string (decB u))) := by
  have FP : Hid (∀ W, Lib.TabIs Tryz.prog W "internal/strconv.uint64pow10" .u64 Lib.pow10Tab → Calls Tryz.prog 112 #[.int .u64 u, .int .i64 10] W (RetV W (.string (decB u)))) := Lib.hid fun W h => by
    by_cases g : u < 100
    · exact fmt_small u g W
    · exact fmt_big u g hu64 W h
  have TB := Lib.hid htab
  clear htab
  go_enter Tryz.func86, Tryz.ntmps86
  go_wp2_with fail
  refine (FP.out _ TB.out).mono ?_
  rintro e w' ⟨rfl, hb⟩
  go_wp2
  go_ret
  exact ⟨rfl, hb⟩
abbrev Pow10 (W : World) : Prop := Lib.TabIs Tryz.prog W "internal/strconv.uint64pow10" .u64 Lib.pow10Tab
theorem Pow10.mono {w W : World} (h : Pow10 w) (b : Below w.heap.size w W) : Pow10 W := tabBelow_of_tabIs h W b
end Go.Proofs.YtallclimljiplaaGreatDoor
