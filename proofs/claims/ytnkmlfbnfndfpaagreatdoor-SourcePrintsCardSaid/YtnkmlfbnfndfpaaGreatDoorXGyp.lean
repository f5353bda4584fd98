import Derived.Test.YtnkmlfbnfndfpaaGreatDoorXUpr
import Derived.Test.YtnkmlfbnfndfpaaGreatDoorXGsix
import Derived.Test.YtnkmlfbnfndfpaaGreatDoorXGm
import Derived.BigQuiet
import Derived.Test.YtnkmlfbnfndfpaaGreatDoorXGy
import Derived.Test.YtnkmlfbnfndfpaaGreatDoorXUdig
import Derived.Lib.ItoaMem
import Derived.Lib.AppendIntMem
import Derived.WalkKit
import Derived.BigCall
import Derived.Test.YtnkmlfbnfndfpaaGreatDoorXGl
set_option maxRecDepth 100000
set_option maxHeartbeats 64000000
namespace Go.Proofs.YtnkmlfbnfndfpaaGreatDoor
open Go.RowKit
def RetTx (w : World) (l : List ByteArray) (x : Int) (e : Ending) (w' : World) : Prop := ∃ A n c, e = .returned (.tuple #[.slice A n c, .int .i64 x]) ∧ Ss w' A n c l ∧ Below w.heap.size w w'
theorem Sp.ok.in64 {x : Sp} (h : x.ok) : x.in64 := by
  unfold Sp.ok at h
  unfold Sp.in64 In64
  omega
def wiB (n a b : Int) : Bool := decide (a ≤ n) && decide (n ≤ b)
theorem wiB_is {n a b : Int} : wiB n a b = true ↔ a ≤ n ∧ n ≤ b := by unfold wiB; rw [Bool.and_eq_true, decide_eq_true_iff, decide_eq_true_iff]
theorem withinP (n a b : Int) (w : World) : Calls Tryz.prog 94 #[.int .i64 n, .int .i64 a, .int .i64 b] w (fun e w' => e = .returned (.bool (wiB n a b)) ∧ w = w') := by
  by_cases h : a ≤ n
  · have d : decide (a ≤ n) = true := decide_eq_true h
    have E := Lib.hid (show wiB n a b = decide (n ≤ b) by unfold wiB; rw [d]; rfl)
    clear h
    go_enter Tryz.func94, Tryz.ntmps94
    go_wp2
    go_ret
    exact ⟨by rw [E.out]; rfl, rfl⟩
  · have d : decide (a ≤ n) = false := decide_eq_false h
    have E := Lib.hid (show wiB n a b = false by unfold wiB; rw [d]; rfl)
    clear h
    go_enter Tryz.func94, Tryz.ntmps94
    go_wp2
    go_ret
    exact ⟨by rw [E.out]; rfl, rfl⟩
theorem withinQ (n a b : Int) (w : World) : Calls Tryz.prog 94 #[.int .i64 n, .int .i64 a, .int .i64 b] w (fun e w' => e = .returned (.bool (wiB n a b)) ∧ w' = w) := (withinP n a b w).mono fun _ _ ⟨h1, h2⟩ => ⟨h1, h2.symm⟩
def hrB (ki wd da : Int) : Bool := if ki = 0 then decide (wd = 0) && wiB da 1 31 else if ki = 1 then wiB wd 1 7 && decide (da = 0) else if ki = 2 ∨ ki = 3 then wiB wd 1 7 && wiB da 1 31 else false
theorem hr_0 (mo wd da ti re : Int) (bw bd : Bool) (BW : Hid (∀ (W : World) (n : Nat), Calls Tryz.prog 94 #[.int .i64 wd, .int .i64 1, .int .i64 7] (W.drewN n) (fun e w'' => e = .returned (.bool bw) ∧ ∃ m, w'' = W.drewN m))) (BD : Hid (∀ (W : World) (n : Nat), Calls Tryz.prog 94 #[.int .i64 da, .int .i64 1, .int .i64 31] (W.drewN n) (fun e w'' => e = .returned (.bool bd) ∧ ∃ m, w'' = W.drewN m))) (w : World) :
    Calls Tryz.prog 95 #[.agg #[.int .i64 mo, .int .i64 0, .int .i64 wd, .int .i64 da, .int .i64 ti, .int .i64 re]] w (RetV w (.bool (decide (wd = 0) && bd))) := by
  go_enter Tryz.func95, Tryz.ntmps95
  go_upto_region 1 with (fail)
  have KB := (BK.nil w).more6 (.int .i64 mo) (.int .i64 0) (.int .i64 wd) (.int .i64 da) (.int .i64 ti) (.int .i64 re) 50
  generalize w.alloc (.cells #[.int .i64 mo, .int .i64 0, .int .i64 wd, .int .i64 da, .int .i64 ti, .int .i64 re] 50) = W at *
  obtain ⟨_, r0, r1, r2, r3, r4, r5, _⟩ := KB.head.six
  go_quiet ((go_at_call 94; first | (with_reducible exact BW.out _ _) | (with_reducible exact BD.out _ _)))
  by_cases h : wd = 0
  · have d : (wd == 0) = true := by rw [beq_iff_eq]; exact h
    have E := Lib.hid (show (decide (wd = 0) && bd) = bd by rw [decide_eq_true h]; rfl)
    clear h
    go_wp2
    go_ret
    exact ⟨by rw [E.out]; rfl, below_drewN KB.hb _⟩
  · have d : (wd == 0) = false := by rw [beq_eq_false_iff_ne]; exact h
    have E := Lib.hid (show (decide (wd = 0) && bd) = false by rw [decide_eq_false h]; rfl)
    clear h
    go_wp2
    go_ret
    exact ⟨by rw [E.out]; rfl, below_drewN KB.hb _⟩
theorem hr_1 (mo wd da ti re : Int) (bw bd : Bool) (BW : Hid (∀ (W : World) (n : Nat), Calls Tryz.prog 94 #[.int .i64 wd, .int .i64 1, .int .i64 7] (W.drewN n) (fun e w'' => e = .returned (.bool bw) ∧ ∃ m, w'' = W.drewN m))) (BD : Hid (∀ (W : World) (n : Nat), Calls Tryz.prog 94 #[.int .i64 da, .int .i64 1, .int .i64 31] (W.drewN n) (fun e w'' => e = .returned (.bool bd) ∧ ∃ m, w'' = W.drewN m))) (w : World) :
    Calls Tryz.prog 95 #[.agg #[.int .i64 mo, .int .i64 1, .int .i64 wd, .int .i64 da, .int .i64 ti, .int .i64 re]] w (RetV w (.bool (bw && decide (da = 0)))) := by
  go_enter Tryz.func95, Tryz.ntmps95
  go_upto_region 1 with (fail)
  have KB := (BK.nil w).more6 (.int .i64 mo) (.int .i64 1) (.int .i64 wd) (.int .i64 da) (.int .i64 ti) (.int .i64 re) 50
  generalize w.alloc (.cells #[.int .i64 mo, .int .i64 1, .int .i64 wd, .int .i64 da, .int .i64 ti, .int .i64 re] 50) = W at *
  obtain ⟨_, r0, r1, r2, r3, r4, r5, _⟩ := KB.head.six
  go_quiet ((go_at_call 94; first | (with_reducible exact BW.out _ _) | (with_reducible exact BD.out _ _)))
  by_cases h : da = 0
  · have d : (da == 0) = true := by rw [beq_iff_eq]; exact h
    have E := Lib.hid (show (bw && decide (da = 0)) = bw by rw [decide_eq_true h, Bool.and_true])
    clear h
    cases bw <;> (go_wp2; go_ret; exact ⟨by rw [E.out]; rfl, below_drewN KB.hb _⟩)
  · have d : (da == 0) = false := by rw [beq_eq_false_iff_ne]; exact h
    have E := Lib.hid (show (bw && decide (da = 0)) = false by rw [decide_eq_false h, Bool.and_false])
    clear h
    cases bw <;> (go_wp2; go_ret; exact ⟨by rw [E.out]; rfl, below_drewN KB.hb _⟩)
theorem hr_2 (mo wd da ti re : Int) (bw bd : Bool) (BW : Hid (∀ (W : World) (n : Nat), Calls Tryz.prog 94 #[.int .i64 wd, .int .i64 1, .int .i64 7] (W.drewN n) (fun e w'' => e = .returned (.bool bw) ∧ ∃ m, w'' = W.drewN m))) (BD : Hid (∀ (W : World) (n : Nat), Calls Tryz.prog 94 #[.int .i64 da, .int .i64 1, .int .i64 31] (W.drewN n) (fun e w'' => e = .returned (.bool bd) ∧ ∃ m, w'' = W.drewN m))) (w : World) :
    Calls Tryz.prog 95 #[.agg #[.int .i64 mo, .int .i64 2, .int .i64 wd, .int .i64 da, .int .i64 ti, .int .i64 re]] w (RetV w (.bool (bw && bd))) := by
  go_enter Tryz.func95, Tryz.ntmps95
  go_upto_region 1 with (fail)
  have KB := (BK.nil w).more6 (.int .i64 mo) (.int .i64 2) (.int .i64 wd) (.int .i64 da) (.int .i64 ti) (.int .i64 re) 50
  generalize w.alloc (.cells #[.int .i64 mo, .int .i64 2, .int .i64 wd, .int .i64 da, .int .i64 ti, .int .i64 re] 50) = W at *
  obtain ⟨_, r0, r1, r2, r3, r4, r5, _⟩ := KB.head.six
  go_quiet ((go_at_call 94; first | (with_reducible exact BW.out _ _) | (with_reducible exact BD.out _ _)))
  cases bw <;> (go_wp2; go_ret; exact ⟨rfl, below_drewN KB.hb _⟩)
theorem hr_3 (mo wd da ti re : Int) (bw bd : Bool) (BW : Hid (∀ (W : World) (n : Nat), Calls Tryz.prog 94 #[.int .i64 wd, .int .i64 1, .int .i64 7] (W.drewN n) (fun e w'' => e = .returned (.bool bw) ∧ ∃ m, w'' = W.drewN m))) (BD : Hid (∀ (W : World) (n : Nat), Calls Tryz.prog 94 #[.int .i64 da, .int .i64 1, .int .i64 31] (W.drewN n) (fun e w'' => e = .returned (.bool bd) ∧ ∃ m, w'' = W.drewN m))) (w : World) :
    Calls Tryz.prog 95 #[.agg #[.int .i64 mo, .int .i64 3, .int .i64 wd, .int .i64 da, .int .i64 ti, .int .i64 re]] w (RetV w (.bool (bw && bd))) := by
  go_enter Tryz.func95, Tryz.ntmps95
  go_upto_region 1 with (fail)
  have KB := (BK.nil w).more6 (.int .i64 mo) (.int .i64 3) (.int .i64 wd) (.int .i64 da) (.int .i64 ti) (.int .i64 re) 50
  generalize w.alloc (.cells #[.int .i64 mo, .int .i64 3, .int .i64 wd, .int .i64 da, .int .i64 ti, .int .i64 re] 50) = W at *
  obtain ⟨_, r0, r1, r2, r3, r4, r5, _⟩ := KB.head.six
  go_quiet ((go_at_call 94; first | (with_reducible exact BW.out _ _) | (with_reducible exact BD.out _ _)))
  cases bw <;> (go_wp2; go_ret; exact ⟨rfl, below_drewN KB.hb _⟩)
theorem hr_x (mo ki wd da ti re : Int) (n0 : ¬ ki = 0) (n1 : ¬ ki = 1) (n2 : ¬ ki = 2) (n3 : ¬ ki = 3) (bw bd : Bool) (BW : Hid (∀ (W : World) (n : Nat), Calls Tryz.prog 94 #[.int .i64 wd, .int .i64 1, .int .i64 7] (W.drewN n) (fun e w'' => e = .returned (.bool bw) ∧ ∃ m, w'' = W.drewN m))) (BD : Hid (∀ (W : World) (n : Nat), Calls Tryz.prog 94 #[.int .i64 da, .int .i64 1, .int .i64 31] (W.drewN n) (fun e w'' => e = .returned (.bool bd) ∧ ∃ m, w'' = W.drewN m))) (w : World) :
    Calls Tryz.prog 95 #[.agg #[.int .i64 mo, .int .i64 ki, .int .i64 wd, .int .i64 da, .int .i64 ti, .int .i64 re]] w (RetV w (.bool (false))) := by
  have k0 : (ki == 0) = false := by rw [beq_eq_false_iff_ne]; omega
  have k1 : (ki == 1) = false := by rw [beq_eq_false_iff_ne]; omega
  have k2 : (ki == 2) = false := by rw [beq_eq_false_iff_ne]; omega
  have k3 : (ki == 3) = false := by rw [beq_eq_false_iff_ne]; omega
  clear n0 n1 n2 n3
  go_enter Tryz.func95, Tryz.ntmps95
  go_upto_region 1 with (fail)
  have KB := (BK.nil w).more6 (.int .i64 mo) (.int .i64 ki) (.int .i64 wd) (.int .i64 da) (.int .i64 ti) (.int .i64 re) 50
  generalize w.alloc (.cells #[.int .i64 mo, .int .i64 ki, .int .i64 wd, .int .i64 da, .int .i64 ti, .int .i64 re] 50) = W at *
  obtain ⟨_, r0, r1, r2, r3, r4, r5, _⟩ := KB.head.six
  go_quiet ((go_at_call 94; first | (with_reducible exact BW.out _ _) | (with_reducible exact BD.out _ _)))
  go_wp2
  go_ret
  exact ⟨rfl, below_drewN KB.hb _⟩
theorem hrP (mo ki wd da ti re : Int) (w : World) : Calls Tryz.prog 95 #[.agg #[.int .i64 mo, .int .i64 ki, .int .i64 wd, .int .i64 da, .int .i64 ti, .int .i64 re]] w (RetV w (.bool (hrB ki wd da))) := by
  have BW := Lib.hid (fun (W : World) (n : Nat) => Calls.quiet_of_same (withinQ wd 1 7 (W.drewN n)))
  have BD := Lib.hid (fun (W : World) (n : Nat) => Calls.quiet_of_same (withinQ da 1 31 (W.drewN n)))
  unfold hrB
  by_cases k0 : ki = 0
  · subst k0; rw [if_pos rfl]; exact hr_0 mo wd da ti re _ _ BW BD w
  rw [if_neg k0]
  by_cases k1 : ki = 1
  · subst k1; rw [if_pos rfl]; exact hr_1 mo wd da ti re _ _ BW BD w
  rw [if_neg k1]
  by_cases k2 : ki = 2
  · subst k2; rw [if_pos (.inl rfl)]; exact hr_2 mo wd da ti re _ _ BW BD w
  by_cases k3 : ki = 3
  · subst k3; rw [if_pos (.inr rfl)]; exact hr_3 mo wd da ti re _ _ BW BD w
  rw [if_neg (by omega)]
  exact hr_x mo ki wd da ti re k0 k1 k2 k3 _ _ BW BD w
theorem rt_0 (mo ki wd da ti re : Int) (B0 : Hid (∀ W, Calls Tryz.prog 94 #[.int .i64 mo, .int .i64 1, .int .i64 12] W (fun e w' => e = .returned (.bool false) ∧ W = w'))) (w : World) :
    Calls Tryz.prog 61 #[.agg #[.int .i64 mo, .int .i64 ki, .int .i64 wd, .int .i64 da, .int .i64 ti, .int .i64 re]] w (RetV w (.bool false)) := by
  go_enter Tryz.func61, Tryz.ntmps61
  go_upto_region 1 with (fail)
  have KB := (BK.nil w).more6 (.int .i64 mo) (.int .i64 ki) (.int .i64 wd) (.int .i64 da) (.int .i64 ti) (.int .i64 re) 50
  generalize w.alloc (.cells #[.int .i64 mo, .int .i64 ki, .int .i64 wd, .int .i64 da, .int .i64 ti, .int .i64 re] 50) = W at *
  obtain ⟨_, r0, r1, r2, r3, r4, r5, _⟩ := KB.head.six
  go_wp2_with fail
  refine (B0.out _).mono ?_
  clear B0
  rintro e w2 ⟨rfl, rfl⟩
  go_wp2
  go_ret
  exact ⟨rfl, KB.hb⟩
theorem rt_1 (mo ki wd da ti re : Int) (B0 : Hid (∀ W, Calls Tryz.prog 94 #[.int .i64 mo, .int .i64 1, .int .i64 12] W (fun e w' => e = .returned (.bool true) ∧ W = w'))) (HR : Hid (∀ W, Calls Tryz.prog 95 #[.agg #[.int .i64 mo, .int .i64 ki, .int .i64 wd, .int .i64 da, .int .i64 ti, .int .i64 re]] W (RetV W (.bool false)))) (w : World) :
    Calls Tryz.prog 61 #[.agg #[.int .i64 mo, .int .i64 ki, .int .i64 wd, .int .i64 da, .int .i64 ti, .int .i64 re]] w (RetV w (.bool false)) := by
  go_enter Tryz.func61, Tryz.ntmps61
  go_upto_region 1 with (fail)
  have KB := (BK.nil w).more6 (.int .i64 mo) (.int .i64 ki) (.int .i64 wd) (.int .i64 da) (.int .i64 ti) (.int .i64 re) 50
  generalize w.alloc (.cells #[.int .i64 mo, .int .i64 ki, .int .i64 wd, .int .i64 da, .int .i64 ti, .int .i64 re] 50) = W at *
  obtain ⟨_, r0, r1, r2, r3, r4, r5, _⟩ := KB.head.six
  go_wp2_with fail
  refine (B0.out _).mono ?_
  clear B0
  rintro e w2 ⟨rfl, rfl⟩
  go_wp2_with fail
  clear r0 r1 r2 r3 r4 r5
  refine (HR.out _).mono ?_
  rintro e w1 ⟨rfl, hb⟩
  replace KB := KB.below hb
  clear hb HR
  obtain ⟨_, r0, r1, r2, r3, r4, r5, _⟩ := KB.head.six
  go_wp2
  go_ret
  exact ⟨rfl, KB.hb⟩
theorem rt_2 (mo ki wd da ti re : Int) (B0 : Hid (∀ W, Calls Tryz.prog 94 #[.int .i64 mo, .int .i64 1, .int .i64 12] W (fun e w' => e = .returned (.bool true) ∧ W = w'))) (HR : Hid (∀ W, Calls Tryz.prog 95 #[.agg #[.int .i64 mo, .int .i64 ki, .int .i64 wd, .int .i64 da, .int .i64 ti, .int .i64 re]] W (RetV W (.bool true)))) (B2 : Hid (∀ W, Calls Tryz.prog 94 #[.int .i64 ti, .int .i64 (-604799), .int .i64 604799] W (fun e w' => e = .returned (.bool false) ∧ W = w'))) (w : World) :
    Calls Tryz.prog 61 #[.agg #[.int .i64 mo, .int .i64 ki, .int .i64 wd, .int .i64 da, .int .i64 ti, .int .i64 re]] w (RetV w (.bool false)) := by
  go_enter Tryz.func61, Tryz.ntmps61
  go_upto_region 1 with (fail)
  have KB := (BK.nil w).more6 (.int .i64 mo) (.int .i64 ki) (.int .i64 wd) (.int .i64 da) (.int .i64 ti) (.int .i64 re) 50
  generalize w.alloc (.cells #[.int .i64 mo, .int .i64 ki, .int .i64 wd, .int .i64 da, .int .i64 ti, .int .i64 re] 50) = W at *
  obtain ⟨_, r0, r1, r2, r3, r4, r5, _⟩ := KB.head.six
  go_wp2_with fail
  refine (B0.out _).mono ?_
  clear B0
  rintro e w2 ⟨rfl, rfl⟩
  go_wp2_with fail
  clear r0 r1 r2 r3 r4 r5
  refine (HR.out _).mono ?_
  rintro e w1 ⟨rfl, hb⟩
  replace KB := KB.below hb
  clear hb HR
  obtain ⟨_, r0, r1, r2, r3, r4, r5, _⟩ := KB.head.six
  go_wp2_with fail
  refine (B2.out _).mono ?_
  clear B2
  rintro e w2 ⟨rfl, rfl⟩
  go_wp2
  go_ret
  exact ⟨rfl, KB.hb⟩
theorem rt_3 (mo ki wd da ti re : Int) (b : Bool) (B0 : Hid (∀ W, Calls Tryz.prog 94 #[.int .i64 mo, .int .i64 1, .int .i64 12] W (fun e w' => e = .returned (.bool true) ∧ W = w'))) (HR : Hid (∀ W, Calls Tryz.prog 95 #[.agg #[.int .i64 mo, .int .i64 ki, .int .i64 wd, .int .i64 da, .int .i64 ti, .int .i64 re]] W (RetV W (.bool true)))) (B2 : Hid (∀ W, Calls Tryz.prog 94 #[.int .i64 ti, .int .i64 (-604799), .int .i64 604799] W (fun e w' => e = .returned (.bool true) ∧ W = w'))) (B3 : Hid (∀ W, Calls Tryz.prog 94 #[.int .i64 re, .int .i64 0, .int .i64 2] W (fun e w' => e = .returned (.bool b) ∧ W = w'))) (w : World) :
    Calls Tryz.prog 61 #[.agg #[.int .i64 mo, .int .i64 ki, .int .i64 wd, .int .i64 da, .int .i64 ti, .int .i64 re]] w (RetV w (.bool b)) := by
  go_enter Tryz.func61, Tryz.ntmps61
  go_upto_region 1 with (fail)
  have KB := (BK.nil w).more6 (.int .i64 mo) (.int .i64 ki) (.int .i64 wd) (.int .i64 da) (.int .i64 ti) (.int .i64 re) 50
  generalize w.alloc (.cells #[.int .i64 mo, .int .i64 ki, .int .i64 wd, .int .i64 da, .int .i64 ti, .int .i64 re] 50) = W at *
  obtain ⟨_, r0, r1, r2, r3, r4, r5, _⟩ := KB.head.six
  go_wp2_with fail
  refine (B0.out _).mono ?_
  clear B0
  rintro e w2 ⟨rfl, rfl⟩
  go_wp2_with fail
  clear r0 r1 r2 r3 r4 r5
  refine (HR.out _).mono ?_
  rintro e w1 ⟨rfl, hb⟩
  replace KB := KB.below hb
  clear hb HR
  obtain ⟨_, r0, r1, r2, r3, r4, r5, _⟩ := KB.head.six
  go_wp2_with fail
  refine (B2.out _).mono ?_
  clear B2
  rintro e w2 ⟨rfl, rfl⟩
  go_wp2_with fail
  refine (B3.out _).mono ?_
  clear B3
  rintro e w2 ⟨rfl, rfl⟩
  go_wp2
  go_ret
  exact ⟨rfl, KB.hb⟩
theorem ok_is (x : Sp) : decide x.ok = (wiB x.mo 1 12 && (hrB x.ki x.wd x.da && (wiB x.ti (-604799) 604799 && wiB x.re 0 2))) := by
  rw [Bool.eq_iff_iff, decide_eq_true_iff, Bool.and_eq_true, Bool.and_eq_true, Bool.and_eq_true, wiB_is, wiB_is, wiB_is]
  unfold Sp.ok hrB
  by_cases k0 : x.ki = 0
  · rw [if_pos k0, Bool.and_eq_true, decide_eq_true_iff, wiB_is]; omega
  rw [if_neg k0]
  by_cases k1 : x.ki = 1
  · rw [if_pos k1, Bool.and_eq_true, decide_eq_true_iff, wiB_is]; omega
  rw [if_neg k1]
  by_cases k2 : x.ki = 2 ∨ x.ki = 3
  · rw [if_pos k2, Bool.and_eq_true, wiB_is, wiB_is]; omega
  rw [if_neg k2]
  constructor
  · intro h; omega
  · intro h; exact absurd h.2.1 (by decide)
theorem rightMP (x : Sp) (w : World) : Calls Tryz.prog 61 #[x.val] w (RetV w (.bool (decide x.ok))) := by
  rw [ok_is]
  have H0 := fun W => withinP x.mo 1 12 W
  have HR := fun W => hrP x.mo x.ki x.wd x.da x.ti x.re W
  have H2 := fun W => withinP x.ti (-604799) 604799 W
  have H3 := fun W => withinP x.re 0 2 W
  cases h0 : wiB x.mo 1 12 with
  | false => rw [h0] at H0; exact rt_0 _ _ _ _ _ _ (Lib.hid H0) w
  | true =>
    rw [h0] at H0
    cases h1 : hrB x.ki x.wd x.da with
    | false => rw [h1] at HR; exact rt_1 _ _ _ _ _ _ (Lib.hid H0) (Lib.hid HR) w
    | true =>
      rw [h1] at HR
      cases h2 : wiB x.ti (-604799) 604799 with
      | false => rw [h2] at H2; exact rt_2 _ _ _ _ _ _ (Lib.hid H0) (Lib.hid HR) (Lib.hid H2) w
      | true => rw [h2] at H2; exact rt_3 _ _ _ _ _ _ _ (Lib.hid H0) (Lib.hid HR) (Lib.hid H2) (Lib.hid H3) w
end Go.Proofs.YtnkmlfbnfndfpaaGreatDoor
namespace Go.Proofs.YtnkmlfbnfndfpaaGreatDoor
open Go.RowKit Go.Sort Go.Lib
theorem dec_is : ∀ (d u : Nat), u ≤ d → Lib.decDigits u = dec u := by
  intro d
  induction d with
  | zero => intro u h; rw [Lib.decDigits, dif_pos (by omega), dec_small (by omega)]
  | succ d ih =>
    intro u h
    by_cases hu : u < 10
    · rw [Lib.decDigits, dif_pos hu, dec_small hu]
    · rw [Lib.decDigits, dif_neg hu, dec_big hu, ih (u / 10) (by omega)]
theorem decB_is (u : Nat) : (⟨(Lib.decDigits u).toArray⟩ : ByteArray) = decB u := by
  unfold decB
  rw [dec_is u u (Nat.le_refl _)]
theorem holds_zero0 (w : World) (T : TypeId) (nd : Nat) (hs : nd ≤ 24) : Holds (fun (b : UInt8) => Value.int .u8 (b.toNat : Int)) (w.alloc (.cells zeros24 T)) w.heap.size 0 (Array.replicate nd (0 : UInt8)) := fun j hj => by
  have hj' : j < nd := by simpa using hj
  refine ⟨?_, World.frozen?_alloc_new _ _ _ _⟩
  rw [World.cell?_alloc_new, zeros24_at _ (by omega), getElem!_pos _ j hj]
  simp
theorem below_row (w : World) (o : Obj) (dk : Array UInt8) (k : Nat) : Below w.heap.size w ((putRow (fun (b : UInt8) => Value.int .u8 (b.toNat : Int)) (w.alloc o) w.heap.size 0 dk).drewN k) := by
  refine below_drewN ?_ k
  rw [alloc_eq_grow]
  obtain ⟨os', _, e⟩ := putRow_grow_new (fun (b : UInt8) => Value.int .u8 (b.toNat : Int)) w #[o] w.heap.size 0 dk (Nat.le_refl _)
  rw [e]
  exact ⟨rfl, rfl, rfl, by simp [grow], fun j hj => heap_grow_old w os' hj⟩
theorem fmt_small (u : Nat) (h : u < 100) (w : World) : Calls Tryz.prog 156 #[.int .u64 u, .int .i64 10] w (RetV w (.string (decB u))) := by
  have E := Lib.hid (decB_is u)
  have SM := Lib.hid (yinternal_strconv_small u h)
  have k1 : IntKind.i64.wrap (u : Int) = u := IntWalk.i64_in _ (by omega)
  have d : decide ((u : Int) < 100) = true := decide_eq_true (by omega)
  go_enter Tryz.func156, Tryz.ntmps156
  go_wp2_with fail
  refine (SM.out _).mono ?_
  rintro e w' ⟨rfl, rfl⟩
  go_wp2
  go_ret
  exact ⟨by rw [← E.out]; rfl, Below.refl _ _⟩
theorem fmt_big (u : Nat) (h : ¬ u < 100) (hu64 : u < 18446744073709551616) (w : World) (htab : Lib.TabIs Tryz.prog w "internal/strconv.uint64pow10" .u64 Lib.pow10Tab) : Calls Tryz.prog 156 #[.int .u64 u, .int .i64 10] w (RetV w (.string (decB u))) := by
  have E := Lib.hid (decB_is u)
  have hu1 : 1 ≤ u := by omega
  have d : decide ((u : Int) < 100) = false := decide_eq_false (by omega)
  have hnd20 : Lib.nDigits u ≤ 20 := by have := Lib.numDigits_eq u hu1 hu64; split at this <;> omega
  have hal : Tryz.prog.arrayLen 182 = 24 := by kernel_rfl
  have hsl1 : ∀ W, (Instr.sliceAt 182 (.pointer (some ⟨w.heap.size, 0, none⟩)) none (some (.int .i64 (Lib.nDigits u : Int))) none).run Tryz.prog W = .ok (.slice (some ⟨w.heap.size, 0, none⟩) (Lib.nDigits u) 24) W := fun W => by
    rw [run_sliceAt_array_h W 182 ⟨w.heap.size, 0, none⟩ (by simp [Program.arrayLen, Program.elem, Tryz.underlying182]) .i64 (Lib.nDigits u : Int) (by omega) (by rw [hal]; omega)]
    go_simp
    try omega
  have hH0 := holds_zero0 w 182 (Lib.nDigits u) (by omega)
  have hfmt := yinternal_strconv_formatBase10 w.heap.size 0 24 u (Array.replicate (Lib.nDigits u) 0) (w.alloc (.cells Lib.zeros24 182)) hH0 (by rw [Array.size_replicate]; exact Lib.lt_pow_nDigits u) hu64 (by rw [Array.size_replicate]; omega)
  rw [Array.size_replicate] at hfmt
  have HH0 := Lib.hid hH0
  have TB := Lib.hid (Lib.tabIs_alloc htab)
  clear hH0 hal htab
  go_enter Tryz.func156, Tryz.ntmps156
  go_wp2_with (first
    | (go_at_call 174; refine (yinternal_strconv_numDigits u hu1 hu64 _ (TB.out _)).mono ?_; rintro e w' ⟨rfl, rfl⟩))
  go_at_call 175
  refine hfmt.mono ?_
  rintro e w' ⟨rfl, k, v', dk, rfl, hF⟩
  have hcv : (convert 86 9 (.slice (some ⟨w.heap.size, 0, none⟩) (Lib.nDigits u) 24)).run Tryz.prog ((putRow (fun (b : UInt8) => Value.int .u8 (b.toNat : Int)) (w.alloc (.cells Lib.zeros24 182)) w.heap.size 0 dk).drewN k) = .ok (.string ⟨(Lib.decDigits u).toArray⟩) ((putRow (fun (b : UInt8) => Value.int .u8 (b.toNat : Int)) (w.alloc (.cells Lib.zeros24 182)) w.heap.size 0 dk).drewN k) := by
    have h := run_convert_bytes_back (P := Tryz.prog) ((putRow (fun (b : UInt8) => Value.int .u8 (b.toNat : Int)) (w.alloc (.cells Lib.zeros24 182)) w.heap.size 0 dk).drewN k) 86 9 5 ⟨w.heap.size, 0, none⟩ 24 (Lib.decDigits u) Tryz.underlying86 Tryz.underlying5 Tryz.underlying9 (fun j hj => by
      rw [Lib.row_is_numeral hF j hj, Lib.add_plain, World.cell?_drewN]
      exact cell?_putRow (fun (b : UInt8) => Value.int .u8 (b.toNat : Int)) _ w.heap.size 0 _ dk HH0.out (by rw [hF.size, Array.size_replicate]) j (by rw [hF.size]; rw [Lib.decDigits_length] at hj; exact hj))
    rw [Lib.decDigits_length] at h
    exact h
  go_wp2
  go_ret
  exact ⟨by rw [← E.out]; rfl, below_row w _ dk k⟩
theorem fmtP (u : Nat) (hu64 : u < 18446744073709551616) (w : World) (htab : Lib.TabIs Tryz.prog w "internal/strconv.uint64pow10" .u64 Lib.pow10Tab) : Calls Tryz.prog 123 #[.int .u64 u, .int .i64 10] w (RetV w (.string (decB u))) := by
  have FP : Hid (∀ W, Lib.TabIs Tryz.prog W "internal/strconv.uint64pow10" .u64 Lib.pow10Tab → Calls Tryz.prog 156 #[.int .u64 u, .int .i64 10] W (RetV W (.string (decB u)))) := Lib.hid fun W h => by
    by_cases g : u < 100
    · exact fmt_small u g W
    · exact fmt_big u g hu64 W h
  have TB := Lib.hid htab
  clear htab
  go_enter Tryz.func123, Tryz.ntmps123
  go_wp2_with fail
  refine (FP.out _ TB.out).mono ?_
  rintro e w' ⟨rfl, hb⟩
  go_wp2
  go_ret
  exact ⟨rfl, hb⟩
theorem shortP (s : ByteArray) (h3 : 3 ≤ s.size) (w : World) : Calls Tryz.prog 154 #[.string s] w (fun e w' => e = .returned (.string (s.extract 0 3)) ∧ w = w') := by
  have l3 : (3 : Int) ≤ s.size := by omega
  go_enter Tryz.func154, Tryz.ntmps154
  go_wp2
  go_ret
  exact ⟨rfl, rfl⟩
theorem bytes2_text (W : World) (x y : Int) (c d : UInt8) (hx : x = c.toNat) (hy : y = d.toNat) :
    (convert 86 9 (.slice (some ⟨W.heap.size, 0, none⟩) 2 2)).run Tryz.prog (W.alloc (.cells #[.int .u8 x, .int .u8 y] 5)) = .ok (.string ⟨[c, d].toArray⟩) (W.alloc (.cells #[.int .u8 x, .int .u8 y] 5)) := by
  refine run_convert_bytes_back (W.alloc (.cells #[.int .u8 x, .int .u8 y] 5)) 86 9 5 ⟨W.heap.size, 0, none⟩ 2 [c, d] Tryz.underlying86 Tryz.underlying5 Tryz.underlying9 ?_
  intro j hj
  have ea : ∀ j, ((⟨W.heap.size, 0, none⟩ : Addr).add j) = ⟨W.heap.size, 0 + j, none⟩ := by intro j; unfold Addr.add; split <;> simp_all
  rw [ea]
  match j, hj with
  | 0, _ => simp [hx]
  | 1, _ => simp [hy]
  | _ + 2, h => exact absurd h (Nat.not_lt.2 (by simp))
theorem tw_all : (List.range 100).all (fun n => decide (twB n = ⟨#[UInt8.ofNat (48 + n / 10), UInt8.ofNat (48 + n % 10)]⟩)) = true := by kernel_rfl
theorem tw_is {n : Nat} (h : n < 100) : twB n = ⟨#[UInt8.ofNat (48 + n / 10), UInt8.ofNat (48 + n % 10)]⟩ := of_decide_eq_true (List.all_eq_true.1 tw_all n (List.mem_range.2 h))
theorem twoP (n : Nat) (h : n < 100) (w : World) : Calls Tryz.prog 124 #[.int .u64 n] w (RetV w (.string (twB n))) := by
  have e := tw_is h
  have t1 : (UInt8.ofNat (48 + n / 10)).toNat = 48 + n / 10 := by rw [UInt8.toNat_ofNat']; omega
  have t2 : (UInt8.ofNat (48 + n % 10)).toNat = 48 + n % 10 := by rw [UInt8.toNat_ofNat']; omega
  generalize UInt8.ofNat (48 + n / 10) = c at *
  generalize UInt8.ofNat (48 + n % 10) = d at *
  have E := Lib.hid e
  have CV := Lib.hid (fun W x y hx hy => bytes2_text W x y c d hx hy)
  have T1 := Lib.hid t1
  have T2 := Lib.hid t2
  obtain ⟨a, ha⟩ : ∃ a : Int, (n : Int) / 10 = a := ⟨_, rfl⟩
  obtain ⟨b, hb⟩ : ∃ b : Int, (n : Int) % 10 = b := ⟨_, rfl⟩
  have ka : IntKind.u8.wrap a = a := by show a % 256 = a; omega
  have kb : IntKind.u8.wrap b = b := by show b % 256 = b; omega
  have ka2 : IntKind.u8.wrap (48 + a) = 48 + a := by show (48 + a) % 256 = _; omega
  have kb2 : IntKind.u8.wrap (48 + b) = 48 + b := by show (48 + b) % 256 = _; omega
  have cv := CV.out w (48 + a) (48 + b) (by rw [T1.out]; omega) (by rw [T2.out]; omega)
  clear t1 t2 CV e
  go_enter Tryz.func124, Tryz.ntmps124
  go_wp2
  go_ret
  exact ⟨by rw [E.out]; rfl, below_box _ _⟩
abbrev Pow10 (W : World) : Prop := Lib.TabIs Tryz.prog W "internal/strconv.uint64pow10" .u64 Lib.pow10Tab
theorem Pow10.mono {w W : World} (h : Pow10 w) (b : Below w.heap.size w W) : Pow10 W := tabBelow_of_tabIs h W b
theorem time_neg_true (n a : Int) (u : Nat) (h m s : ByteArray) (d : decide (n < 0) = true) (k0 : IntKind.u64.wrap n = a) (k1 : IntKind.u64.wrap (-a) = (u : Int)) (_hu : u ≤ 9223372036854775808) (hz : ((u : Int) % 60 != 0) = true)
    (FU : Hid (∀ W, Pow10 W → Calls Tryz.prog 123 #[.int .u64 ((u : Int) / 3600), .int .i64 10] W (RetV W (.string h))))
    (TM : Hid (∀ W, Calls Tryz.prog 124 #[.int .u64 ((u : Int) % 3600 / 60)] W (RetV W (.string m))))
    (TS : Hid (∀ W, Calls Tryz.prog 124 #[.int .u64 ((u : Int) % 60)] W (RetV W (.string s))))
    (_zh : h.size ≤ 100) (_zm : m.size ≤ 100) (_zs : s.size ≤ 100) (w : World) (htab : Pow10 w) :
    Calls Tryz.prog 88 #[.int .i64 n] w (RetV w (.string (⟨[45].toArray⟩ ++ h ++ ⟨[58].toArray⟩ ++ m ++ (⟨[58].toArray⟩ ++ s)))) := by
  have TB := Lib.hid htab
  clear htab
  go_enter Tryz.func88, Tryz.ntmps88
  go_wp2_with fail
  refine (FU.out _ TB.out).mono ?_
  clear FU TB
  rintro e w1 ⟨rfl, hb⟩
  go_wp2_with fail
  refine (TM.out _).mono ?_
  clear TM
  rintro e w2 ⟨rfl, hb2⟩
  replace hb := below_thru hb hb2
  clear hb2
  go_wp2_with fail
  refine (TS.out _).mono ?_
  clear TS
  rintro e w3 ⟨rfl, hb3⟩
  replace hb := below_thru hb hb3
  clear hb3
  go_wp2
  go_ret
  exact ⟨rfl, hb⟩
theorem time_neg_false (n a : Int) (u : Nat) (h m : ByteArray) (d : decide (n < 0) = true) (k0 : IntKind.u64.wrap n = a) (k1 : IntKind.u64.wrap (-a) = (u : Int)) (_hu : u ≤ 9223372036854775808) (hz : ((u : Int) % 60 != 0) = false)
    (FU : Hid (∀ W, Pow10 W → Calls Tryz.prog 123 #[.int .u64 ((u : Int) / 3600), .int .i64 10] W (RetV W (.string h))))
    (TM : Hid (∀ W, Calls Tryz.prog 124 #[.int .u64 ((u : Int) % 3600 / 60)] W (RetV W (.string m))))
    (_zh : h.size ≤ 100) (_zm : m.size ≤ 100) (w : World) (htab : Pow10 w) :
    Calls Tryz.prog 88 #[.int .i64 n] w (RetV w (.string (⟨[45].toArray⟩ ++ h ++ ⟨[58].toArray⟩ ++ m))) := by
  have TB := Lib.hid htab
  clear htab
  go_enter Tryz.func88, Tryz.ntmps88
  go_wp2_with fail
  refine (FU.out _ TB.out).mono ?_
  clear FU TB
  rintro e w1 ⟨rfl, hb⟩
  go_wp2_with fail
  refine (TM.out _).mono ?_
  clear TM
  rintro e w2 ⟨rfl, hb2⟩
  replace hb := below_thru hb hb2
  clear hb2
  go_wp2
  go_ret
  exact ⟨rfl, hb⟩
theorem time_pos_true (n _a : Int) (u : Nat) (h m s : ByteArray) (d : decide (n < 0) = false) (k0 : IntKind.u64.wrap n = (u : Int)) (_hu : u ≤ 9223372036854775808) (hz : ((u : Int) % 60 != 0) = true)
    (FU : Hid (∀ W, Pow10 W → Calls Tryz.prog 123 #[.int .u64 ((u : Int) / 3600), .int .i64 10] W (RetV W (.string h))))
    (TM : Hid (∀ W, Calls Tryz.prog 124 #[.int .u64 ((u : Int) % 3600 / 60)] W (RetV W (.string m))))
    (TS : Hid (∀ W, Calls Tryz.prog 124 #[.int .u64 ((u : Int) % 60)] W (RetV W (.string s))))
    (_zh : h.size ≤ 100) (_zm : m.size ≤ 100) (_zs : s.size ≤ 100) (w : World) (htab : Pow10 w) :
    Calls Tryz.prog 88 #[.int .i64 n] w (RetV w (.string (⟨[].toArray⟩ ++ h ++ ⟨[58].toArray⟩ ++ m ++ (⟨[58].toArray⟩ ++ s)))) := by
  have TB := Lib.hid htab
  clear htab
  go_enter Tryz.func88, Tryz.ntmps88
  go_wp2_with fail
  refine (FU.out _ TB.out).mono ?_
  clear FU TB
  rintro e w1 ⟨rfl, hb⟩
  go_wp2_with fail
  refine (TM.out _).mono ?_
  clear TM
  rintro e w2 ⟨rfl, hb2⟩
  replace hb := below_thru hb hb2
  clear hb2
  go_wp2_with fail
  refine (TS.out _).mono ?_
  clear TS
  rintro e w3 ⟨rfl, hb3⟩
  replace hb := below_thru hb hb3
  clear hb3
  go_wp2
  go_ret
  exact ⟨rfl, hb⟩
theorem time_pos_false (n _a : Int) (u : Nat) (h m : ByteArray) (d : decide (n < 0) = false) (k0 : IntKind.u64.wrap n = (u : Int)) (_hu : u ≤ 9223372036854775808) (hz : ((u : Int) % 60 != 0) = false)
    (FU : Hid (∀ W, Pow10 W → Calls Tryz.prog 123 #[.int .u64 ((u : Int) / 3600), .int .i64 10] W (RetV W (.string h))))
    (TM : Hid (∀ W, Calls Tryz.prog 124 #[.int .u64 ((u : Int) % 3600 / 60)] W (RetV W (.string m))))
    (_zh : h.size ≤ 100) (_zm : m.size ≤ 100) (w : World) (htab : Pow10 w) :
    Calls Tryz.prog 88 #[.int .i64 n] w (RetV w (.string (⟨[].toArray⟩ ++ h ++ ⟨[58].toArray⟩ ++ m))) := by
  have TB := Lib.hid htab
  clear htab
  go_enter Tryz.func88, Tryz.ntmps88
  go_wp2_with fail
  refine (FU.out _ TB.out).mono ?_
  clear FU TB
  rintro e w1 ⟨rfl, hb⟩
  go_wp2_with fail
  refine (TM.out _).mono ?_
  clear TM
  rintro e w2 ⟨rfl, hb2⟩
  replace hb := below_thru hb hb2
  clear hb2
  go_wp2
  go_ret
  exact ⟨rfl, hb⟩
theorem ytw_size (n : Nat) (h : n < 100) : (twB n).size ≤ 100 := by rw [tw_is h]; show 2 ≤ 100; decide
theorem ydec_le {u : Nat} (h : u < 18446744073709551616) : (decB u).size ≤ 100 := by
  rw [← decB_is]
  show (Lib.decDigits u).toArray.size ≤ 100
  rw [List.size_toArray, Lib.decDigits_length]
  by_cases g : u = 0
  · subst g
    have e : Lib.decDigits 0 = [48] := by rw [Lib.decDigits, dif_pos (by decide)]; rfl
    rw [← Lib.decDigits_length, e]; decide
  · have := Lib.numDigits_eq u (by omega) h; split at this <;> omega
theorem timeMP (n : Int) (hn : In64 n) (w : World) (htab : Pow10 w) : Calls Tryz.prog 88 #[.int .i64 n] w (RetV w (.string (timeB n))) := by
  have hn1 : -9223372036854775808 ≤ n ∧ n ≤ 9223372036854775807 := hn
  obtain ⟨u, hu⟩ : ∃ u : Nat, n.natAbs = u := ⟨_, rfl⟩
  have u1 : u ≤ 9223372036854775808 := by omega
  have FU := Lib.hid (fun (W : World) (h : Pow10 W) => by
    have := fmtP (u / 3600) (by omega) W h
    rw [Int.natCast_ediv] at this
    exact this)
  have TM := Lib.hid (fun (W : World) => by
    have := twoP (u % 3600 / 60) (by omega) W
    rw [Int.natCast_ediv, Int.natCast_emod] at this
    exact this)
  have TS := Lib.hid (fun (W : World) => by
    have := twoP (u % 60) (by omega) W
    rw [Int.natCast_emod] at this
    exact this)
  have e60 : u % 3600 / 60 = u / 60 % 60 := by omega
  have zh := ydec_le (u := u / 3600) (by omega)
  have zm := ytw_size (u % 3600 / 60) (by omega)
  have zs := ytw_size (u % 60) (by omega)
  unfold timeB
  rw [hu]
  by_cases z : u % 60 = 0
  · rw [if_pos z, ← e60]
    have hz : ((u : Int) % 60 != 0) = false := by rw [bne_eq_false_iff_eq]; omega
    by_cases g : n < 0
    · rw [if_pos g]
      exact time_neg_false n _ u _ _ (decide_eq_true g) rfl (by rw [IntKind.wrap_u64, IntKind.wrap_u64]; omega) u1 hz FU TM zh zm w htab
    · rw [if_neg g]
      exact time_pos_false n 0 u _ _ (decide_eq_false g) (by rw [IntKind.wrap_u64]; omega) u1 hz FU TM zh zm w htab
  · rw [if_neg z, ← e60]
    have hz : ((u : Int) % 60 != 0) = true := by rw [bne_iff_ne]; omega
    by_cases g : n < 0
    · rw [if_pos g]
      have := time_neg_true n _ u _ _ _ (decide_eq_true g) rfl (by rw [IntKind.wrap_u64, IntKind.wrap_u64]; omega) u1 hz FU TM TS zh zm zs w htab
      rw [← ByteArray.append_assoc] at this
      exact this
    · rw [if_neg g]
      have := time_pos_true n 0 u _ _ _ (decide_eq_false g) (by rw [IntKind.wrap_u64]; omega) u1 hz FU TM TS zh zm zs w htab
      rw [← ByteArray.append_assoc] at this
      exact this
end Go.Proofs.YtnkmlfbnfndfpaaGreatDoor
namespace Go.Proofs.YtnkmlfbnfndfpaaGreatDoor
open Go.RowKit
structure MomP (w : World) : Prop where
  mom : Mom w
  letr : TabS 1 letB w
  pow : Pow10 w
theorem MomP.mono {w W : World} (T : MomP w) (h : Below w.heap.size w W) : MomP W := ⟨T.mom.mono h, T.letr.mono h, T.pow.mono h⟩
theorem wdy_1 (mo da ti re : Int) (k : Nat) (_hk : k < 7) (d nm t : ByteArray) (_zd : d.size ≤ 100) (_zt : t.size ≤ 100) (IT : Hid (∀ W, Calls Tryz.prog 85 #[.int .i64 da] W (fun e w' => e = .returned (.string d) ∧ w' = W))) (SH : Hid (∀ W, Calls Tryz.prog 154 #[.string nm] W (fun e w' => e = .returned (.string t) ∧ W = w'))) (w : World) (c : Hid (∀ W, Below w.heap.size w W → W.cell? ⟨5, k, none⟩ = some (.string nm))) :
    Calls Tryz.prog 155 #[.agg #[.int .i64 (mo), .int .i64 (1), .int .i64 ((k : Int) + 1), .int .i64 (da), .int .i64 (ti), .int .i64 (re)]] w (RetV w (.string (⟨#[108, 97, 115, 116]⟩ ++ t))) := by
  go_enter Tryz.func155, Tryz.ntmps155
  go_upto_region 1 with (fail)
  have KB := (BK.nil w).more6 (.int .i64 (mo)) (.int .i64 (1)) (.int .i64 ((k : Int) + 1)) (.int .i64 (da)) (.int .i64 (ti)) (.int .i64 (re)) 50
  generalize w.alloc (.cells #[.int .i64 (mo), .int .i64 (1), .int .i64 ((k : Int) + 1), .int .i64 (da), .int .i64 (ti), .int .i64 (re)] 50) = W at *
  obtain ⟨_, r0, r1, r2, r3, r4, r5, _⟩ := KB.head.six
  have c0 := c.out _ KB.hb
  clear c
  go_wp2_with fail
  refine (IT.out _).mono ?_
  clear IT
  rintro e w1 ⟨rfl, rfl⟩
  go_wp2_with fail
  refine (SH.out _).mono ?_
  clear SH
  rintro e w1 ⟨rfl, rfl⟩
  go_wp2
  go_ret
  exact ⟨rfl, KB.hb⟩
theorem wdy_2 (mo da ti re : Int) (k : Nat) (_hk : k < 7) (d nm t : ByteArray) (_zd : d.size ≤ 100) (_zt : t.size ≤ 100) (IT : Hid (∀ W, Calls Tryz.prog 85 #[.int .i64 da] W (fun e w' => e = .returned (.string d) ∧ w' = W))) (SH : Hid (∀ W, Calls Tryz.prog 154 #[.string nm] W (fun e w' => e = .returned (.string t) ∧ W = w'))) (w : World) (c : Hid (∀ W, Below w.heap.size w W → W.cell? ⟨5, k, none⟩ = some (.string nm))) :
    Calls Tryz.prog 155 #[.agg #[.int .i64 (mo), .int .i64 (2), .int .i64 ((k : Int) + 1), .int .i64 (da), .int .i64 (ti), .int .i64 (re)]] w (RetV w (.string (t ++ ⟨#[62, 61]⟩ ++ d))) := by
  go_enter Tryz.func155, Tryz.ntmps155
  go_upto_region 1 with (fail)
  have KB := (BK.nil w).more6 (.int .i64 (mo)) (.int .i64 (2)) (.int .i64 ((k : Int) + 1)) (.int .i64 (da)) (.int .i64 (ti)) (.int .i64 (re)) 50
  generalize w.alloc (.cells #[.int .i64 (mo), .int .i64 (2), .int .i64 ((k : Int) + 1), .int .i64 (da), .int .i64 (ti), .int .i64 (re)] 50) = W at *
  obtain ⟨_, r0, r1, r2, r3, r4, r5, _⟩ := KB.head.six
  have c0 := c.out _ KB.hb
  clear c
  go_wp2_with fail
  refine (IT.out _).mono ?_
  clear IT
  rintro e w1 ⟨rfl, rfl⟩
  go_wp2_with fail
  refine (SH.out _).mono ?_
  clear SH
  rintro e w1 ⟨rfl, rfl⟩
  go_wp2
  go_ret
  exact ⟨rfl, KB.hb⟩
theorem wdy_3 (mo da ti re : Int) (k : Nat) (_hk : k < 7) (d nm t : ByteArray) (_zd : d.size ≤ 100) (_zt : t.size ≤ 100) (IT : Hid (∀ W, Calls Tryz.prog 85 #[.int .i64 da] W (fun e w' => e = .returned (.string d) ∧ w' = W))) (SH : Hid (∀ W, Calls Tryz.prog 154 #[.string nm] W (fun e w' => e = .returned (.string t) ∧ W = w'))) (w : World) (c : Hid (∀ W, Below w.heap.size w W → W.cell? ⟨5, k, none⟩ = some (.string nm))) :
    Calls Tryz.prog 155 #[.agg #[.int .i64 (mo), .int .i64 (3), .int .i64 ((k : Int) + 1), .int .i64 (da), .int .i64 (ti), .int .i64 (re)]] w (RetV w (.string (t ++ ⟨#[60, 61]⟩ ++ d))) := by
  go_enter Tryz.func155, Tryz.ntmps155
  go_upto_region 1 with (fail)
  have KB := (BK.nil w).more6 (.int .i64 (mo)) (.int .i64 (3)) (.int .i64 ((k : Int) + 1)) (.int .i64 (da)) (.int .i64 (ti)) (.int .i64 (re)) 50
  generalize w.alloc (.cells #[.int .i64 (mo), .int .i64 (3), .int .i64 ((k : Int) + 1), .int .i64 (da), .int .i64 (ti), .int .i64 (re)] 50) = W at *
  obtain ⟨_, r0, r1, r2, r3, r4, r5, _⟩ := KB.head.six
  have c0 := c.out _ KB.hb
  clear c
  go_wp2_with fail
  refine (IT.out _).mono ?_
  clear IT
  rintro e w1 ⟨rfl, rfl⟩
  go_wp2_with fail
  refine (SH.out _).mono ?_
  clear SH
  rintro e w1 ⟨rfl, rfl⟩
  go_wp2
  go_ret
  exact ⟨rfl, KB.hb⟩
theorem wdy_0 (mo wd da ti re : Int) (d : ByteArray) (IT : Hid (∀ W, Calls Tryz.prog 85 #[.int .i64 da] W (fun e w' => e = .returned (.string d) ∧ w' = W))) (w : World) : Calls Tryz.prog 155 #[.agg #[.int .i64 (mo), .int .i64 (0), .int .i64 (wd), .int .i64 (da), .int .i64 (ti), .int .i64 (re)]] w (RetV w (.string d)) := by
  go_enter Tryz.func155, Tryz.ntmps155
  go_upto_region 1 with (fail)
  have KB := (BK.nil w).more6 (.int .i64 (mo)) (.int .i64 (0)) (.int .i64 (wd)) (.int .i64 (da)) (.int .i64 (ti)) (.int .i64 (re)) 50
  generalize w.alloc (.cells #[.int .i64 (mo), .int .i64 (0), .int .i64 (wd), .int .i64 (da), .int .i64 (ti), .int .i64 (re)] 50) = W at *
  obtain ⟨_, r0, r1, r2, r3, r4, r5, _⟩ := KB.head.six
  go_wp2_with fail
  refine (IT.out _).mono ?_
  clear IT
  rintro e w1 ⟨rfl, rfl⟩
  go_wp2
  go_ret
  exact ⟨rfl, KB.hb⟩
theorem wd_len : ∀ k, k < 7 → wdB.getD k ⟨#[]⟩ = (wdB[k]?).getD ⟨#[]⟩ ∧ 3 ≤ (wdB.getD k ⟨#[]⟩).size ∧ (wdB.getD k ⟨#[]⟩).extract 0 3 = wd3.getD (k + 1) ⟨#[]⟩ := by decide
theorem mo_len : ∀ k, k < 12 → monB.getD k ⟨#[]⟩ = (monB[k]?).getD ⟨#[]⟩ ∧ 3 ≤ (monB.getD k ⟨#[]⟩).size ∧ (monB.getD k ⟨#[]⟩).extract 0 3 = mon3.getD k ⟨#[]⟩ := by decide
theorem TabS.at {g : Nat} {l : List ByteArray} {w : World} (T : TabS g l w) {k : Nat} (h : k < l.length) : w.cell? ⟨g, k, none⟩ = some (.string (l.getD k ⟨#[]⟩)) := by
  rw [T.c k h, List.getD_eq_getElem?_getD, List.getElem?_eq_getElem h]
  rfl
theorem itoaP (n : Nat) (h : n < 100) (W : World) : Calls Tryz.prog 85 #[.int .i64 n] W (fun e w' => e = .returned (.string (decB n)) ∧ w' = W) := by
  have := ystrconv_Itoa_small n h W
  rw [decB_is] at this
  exact this
theorem writtenMP (x : Sp) (ok : x.ok) (w : World) (M : Mom w) : Calls Tryz.prog 155 #[x.val] w (RetV w (.string (spDay x))) := by
  obtain ⟨mo, ki, wd, da, ti, re⟩ := x
  obtain ⟨_, hk, _, _, k0, k1, k2, k3⟩ := ok
  simp only at hk k0 k1 k2 k3
  show Calls _ _ #[.agg #[.int .i64 mo, .int .i64 ki, .int .i64 wd, .int .i64 da, .int .i64 ti, .int .i64 re]] w _
  have hda : 0 ≤ da ∧ da ≤ 31 := by
    by_cases e : ki = 1
    · have := k2 e; omega
    · have := k3 e; omega
  obtain ⟨n, rfl⟩ : ∃ n : Nat, da = n := ⟨da.toNat, by omega⟩
  have IT := Lib.hid (fun W => itoaP n (by omega) W)
  have zd := ydec_le (u := n) (by omega)
  unfold spDay
  simp only [Int.toNat_natCast]
  by_cases e0 : ki = 0
  · subst e0; rw [if_pos rfl]; exact wdy_0 mo wd n ti re _ IT w
  rw [if_neg e0]
  have hw := k1 e0
  obtain ⟨k, rfl⟩ : ∃ k : Nat, wd = (k : Int) + 1 := ⟨(wd - 1).toNat, by omega⟩
  have hk7 : k < 7 := by omega
  obtain ⟨_, l1, l2⟩ := wd_len k hk7
  have SH := Lib.hid (fun W => by
    have := shortP _ l1 W
    rw [l2] at this
    exact this)
  have zt : (wd3.getD (k + 1) ⟨#[]⟩).size ≤ 100 := Nat.le_trans (wd3_size (k + 1) (by omega)) (by decide)
  have CC := Lib.hid (fun (W : World) (h : Below w.heap.size w W) => (M.wd.mono h).at (k := k) (by show k < 7; exact hk7))
  rw [show ((k : Int) + 1).toNat = k + 1 by omega]
  by_cases e1 : ki = 1
  · subst e1; rw [if_pos rfl]; exact wdy_1 mo n ti re k hk7 _ _ _ zd zt IT SH w CC
  rw [if_neg e1]
  by_cases e2 : ki = 2
  · subst e2; rw [if_pos rfl]; exact wdy_2 mo n ti re k hk7 _ _ _ zd zt IT SH w CC
  rw [if_neg e2]
  obtain rfl : ki = 3 := by omega
  exact wdy_3 mo n ti re k hk7 _ _ _ zd zt IT SH w CC
theorem pr_no (mo ki wd da ti re : Int) (RI : Hid (∀ W, Calls Tryz.prog 61 #[.agg #[.int .i64 (mo), .int .i64 (ki), .int .i64 (wd), .int .i64 (da), .int .i64 (ti), .int .i64 (re)]] W (RetV W (.bool false)))) (w : World) : Calls Tryz.prog 122 #[.agg #[.int .i64 (mo), .int .i64 (ki), .int .i64 (wd), .int .i64 (da), .int .i64 (ti), .int .i64 (re)]] w (RetTx w [] 1) := by
  go_enter Tryz.func122, Tryz.ntmps122
  go_upto_region 1 with (fail)
  have KB := (BK.nil w).more6 (.int .i64 (mo)) (.int .i64 (ki)) (.int .i64 (wd)) (.int .i64 (da)) (.int .i64 (ti)) (.int .i64 (re)) 50
  generalize w.alloc (.cells #[.int .i64 (mo), .int .i64 (ki), .int .i64 (wd), .int .i64 (da), .int .i64 (ti), .int .i64 (re)] 50) = W at *
  obtain ⟨_, r0, r1, r2, r3, r4, r5, _⟩ := KB.head.six
  go_wp2_with fail
  refine (RI.out _).mono ?_
  clear RI
  rintro e w1 ⟨rfl, hb⟩
  replace KB := KB.below hb
  clear hb
  go_wp2
  go_ret2
  exact ⟨none, 0, 0, rfl, Ss.nil _, KB.hb⟩
theorem pr_yes (ki wd da ti : Int) (k j : Nat) (_hk : k < 12) (_hj : j < 3) (nm lt t d c : ByteArray) (_zl : lt.size ≤ 100) (_zc : c.size ≤ 1000)
    (RI : Hid (∀ W, Calls Tryz.prog 61 #[.agg #[.int .i64 ((k : Int) + 1), .int .i64 (ki), .int .i64 (wd), .int .i64 (da), .int .i64 (ti), .int .i64 ((j : Int))]] W (RetV W (.bool true))))
    (SH : Hid (∀ W, Calls Tryz.prog 154 #[.string nm] W (fun e w' => e = .returned (.string t) ∧ Below W.heap.size W w')))
    (WR : Hid (∀ W, MomP W → Calls Tryz.prog 155 #[.agg #[.int .i64 ((k : Int) + 1), .int .i64 (ki), .int .i64 (wd), .int .i64 (da), .int .i64 (ti), .int .i64 ((j : Int))]] W (RetV W (.string d))))
    (TI : Hid (∀ W, MomP W → Calls Tryz.prog 88 #[.int .i64 (ti)] W (RetV W (.string c))))
    (w : World) (M : MomP w) (C1 : Hid (∀ W, Below w.heap.size w W → W.cell? ⟨0, k, none⟩ = some (.string nm))) (C2 : Hid (∀ W, Below w.heap.size w W → W.cell? ⟨1, j, none⟩ = some (.string lt))) :
    Calls Tryz.prog 122 #[.agg #[.int .i64 ((k : Int) + 1), .int .i64 (ki), .int .i64 (wd), .int .i64 (da), .int .i64 (ti), .int .i64 ((j : Int))]] w (RetTx w [t, d, c ++ lt] 0) := by
  have L := Lib.hid M
  have hk12 : (k : Int) < 12 := by omega
  have hj3 : (j : Int) < 3 := by omega
  have hk0 : (0 : Int) ≤ (k : Int) := by omega
  have hj0 : (0 : Int) ≤ (j : Int) := by omega
  have hk1 : (k : Int) + 1 - 1 = (k : Int) := by omega
  have hk2 : IntKind.i64.wrap (k : Int) = (k : Int) := IntWalk.i64_in _ (by omega)
  have hk3 : IntKind.i64.wrap ((k : Int) + 1 - 1) = (k : Int) := IntWalk.i64_in _ (by omega) |>.trans hk1
  have c2 := fun W => run_string_add_sum (P := Tryz.prog) W c lt (by omega)
  clear M
  go_enter Tryz.func122, Tryz.ntmps122
  go_upto_region 1 with (fail)
  have KB := (BK.nil w).more6 (.int .i64 ((k : Int) + 1)) (.int .i64 (ki)) (.int .i64 (wd)) (.int .i64 (da)) (.int .i64 (ti)) (.int .i64 ((j : Int))) 50
  generalize w.alloc (.cells #[.int .i64 ((k : Int) + 1), .int .i64 (ki), .int .i64 (wd), .int .i64 (da), .int .i64 (ti), .int .i64 ((j : Int))] 50) = W at *
  obtain ⟨_, r0, r1, r2, r3, r4, r5, _⟩ := KB.head.six
  go_wp2_with fail
  clear r0 r1 r2 r3 r4 r5
  refine (RI.out _).mono ?_
  clear RI
  rintro e w1 ⟨rfl, hb⟩
  replace KB := KB.below hb
  clear hb
  go_wp2_with fail
  obtain ⟨_, r0, r1, r2, r3, r4, r5, _⟩ := KB.head.six
  have p0 := C1.out _ KB.hb
  have p1 := C2.out _ KB.hb
  go_region_held3 (fun w' => w'.cell? ⟨w.heap.size, 0, none⟩ = some (.int .i64 ((k : Int) + 1)) ∧ w'.cell? ⟨w.heap.size, 1, none⟩ = some (.int .i64 (ki)) ∧ w'.cell? ⟨w.heap.size, 2, none⟩ = some (.int .i64 (wd)) ∧ w'.cell? ⟨w.heap.size, 3, none⟩ = some (.int .i64 (da)) ∧ w'.cell? ⟨w.heap.size, 4, none⟩ = some (.int .i64 (ti)) ∧ w'.cell? ⟨w.heap.size, 5, none⟩ = some (.int .i64 ((j : Int))) ∧ w'.cell? ⟨0, k, none⟩ = some (.string nm) ∧ w'.cell? ⟨1, j, none⟩ = some (.string lt)) (first | (with_reducible exact ⟨(KB.head).six.2.1, (KB.head).six.2.2.1, (KB.head).six.2.2.2.1, (KB.head).six.2.2.2.2.1, (KB.head).six.2.2.2.2.2.1, (KB.head).six.2.2.2.2.2.2.1, (C1.out _ KB.hb), (C2.out _ KB.hb)⟩) | (with_reducible exact ⟨(KB.drew.head).six.2.1, (KB.drew.head).six.2.2.1, (KB.drew.head).six.2.2.2.1, (KB.drew.head).six.2.2.2.2.1, (KB.drew.head).six.2.2.2.2.2.1, (KB.drew.head).six.2.2.2.2.2.2.1, (C1.out _ KB.drew.hb), (C2.out _ KB.drew.hb)⟩) | go_keep)
    (first
      | (go_at_call 154; (with_reducible refine (SH.out _).mono ?_); rintro e W9 ⟨rfl, hb⟩
         with_reducible (first | replace KB := KB.below hb | replace KB := KB.drew.below hb)
         clear hb
         obtain ⟨_, r0, r1, r2, r3, r4, r5, _⟩ := KB.head.six
         have p0 := C1.out _ KB.hb
         have p1 := C2.out _ KB.hb)
      | (go_at_call 155; (with_reducible refine (WR.out _ (by with_reducible first | exact L.out.mono KB.hb | exact L.out.mono KB.drew.hb)).mono ?_); rintro e W9 ⟨rfl, hb⟩
         with_reducible (first | replace KB := KB.below hb | replace KB := KB.drew.below hb)
         clear hb
         obtain ⟨_, r0, r1, r2, r3, r4, r5, _⟩ := KB.head.six
         have p0 := C1.out _ KB.hb
         have p1 := C2.out _ KB.hb)
      | (go_at_call 88; (with_reducible refine (TI.out _ (by with_reducible first | exact L.out.mono KB.hb | exact L.out.mono KB.drew.hb)).mono ?_); rintro e W9 ⟨rfl, hb⟩
         with_reducible (first | replace KB := KB.below hb | replace KB := KB.drew.below hb)
         clear hb
         obtain ⟨_, r0, r1, r2, r3, r4, r5, _⟩ := KB.head.six
         have p0 := C1.out _ KB.hb
         have p1 := C2.out _ KB.hb))
  all_goals
    have HB := KB.hb
    have sz := HB.size
    clear r0 r1 r2 r3 r4 r5 p0 p1 KB
    go_wp2
    go_ret2
    exact ⟨_, _, _, rfl, Ss.lit _ [t, d, c ++ lt] _ (by show 0 < 3; decide) (by show 3 ≤ 100; decide), HB.alloc sz _⟩
theorem printMP (x : Sp) (w : World) (M : MomP w) : Calls Tryz.prog 122 #[x.val] w (RetTx w (if x.ok then spTexts x else []) (if x.ok then 0 else 1)) := by
  have RI := fun (W : World) => rightMP x W
  by_cases ok : x.ok
  · rw [if_pos ok, if_pos ok]
    rw [decide_eq_true ok] at RI
    have WR := fun (W : World) (M : MomP W) => writtenMP x ok W M.mom
    have i64 := ok.in64
    obtain ⟨hm, _, ht, hr, _⟩ := ok
    have TI := fun (W : World) (M : MomP W) => timeMP x.ti i64.2.2.2.2.1 W M.pow
    have zc : (timeB x.ti).size ≤ 1000 := Nat.le_trans (timeB_le x.ti (by have := ht.1; omega) (by have := ht.2; omega)) (by decide)
    unfold spTexts
    generalize spDay x = d at *
    obtain ⟨mo, ki, wd, da, ti, re⟩ := x
    simp only at hm hr ht RI WR TI zc
    obtain ⟨k, rfl⟩ : ∃ k : Nat, mo = (k : Int) + 1 := ⟨(mo - 1).toNat, by omega⟩
    obtain ⟨j, rfl⟩ : ∃ j : Nat, re = (j : Int) := ⟨re.toNat, by omega⟩
    have hk : k < 12 := by omega
    have hj : j < 3 := by omega
    obtain ⟨_, l1, l2⟩ := mo_len k hk
    have SH := Lib.hid (fun (W : World) => (shortP _ l1 W).mono fun e w' ⟨h1, h2⟩ => show RetV W (.string ((monB.getD k ⟨#[]⟩).extract 0 3)) e w' from ⟨h1, h2 ▸ Below.refl _ _⟩)
    rw [l2] at SH
    have zl : (letB.getD j ⟨#[]⟩).size ≤ 100 := by
      have : j = 0 ∨ j = 1 ∨ j = 2 := by omega
      rcases this with rfl | rfl | rfl <;> decide
    have r := pr_yes ki wd da ti k j hk hj _ _ _ d (timeB ti) zl zc (Lib.hid RI) SH (Lib.hid WR) (Lib.hid TI) w M (Lib.hid fun W h => (M.mom.mon.mono h).at (k := k) (by show k < 12; exact hk)) (Lib.hid fun W h => (M.letr.mono h).at (k := j) (by show j < 3; exact hj))
    have e : spClk ⟨(k : Int) + 1, ki, wd, da, ti, (j : Int)⟩ = timeB ti ++ letB.getD j ⟨#[]⟩ := by
      unfold spClk
      have : j = 0 ∨ j = 1 ∨ j = 2 := by omega
      rcases this with rfl | rfl | rfl
      · exact (ByteArray.append_empty).symm
      · rfl
      · rfl
    rw [e]
    simp only [show ((k : Int) + 1 - 1).toNat = k by omega]
    exact r
  · rw [if_neg ok, if_neg ok]
    rw [decide_eq_false ok] at RI
    exact pr_no _ _ _ _ _ _ (Lib.hid RI) w
end Go.Proofs.YtnkmlfbnfndfpaaGreatDoor
