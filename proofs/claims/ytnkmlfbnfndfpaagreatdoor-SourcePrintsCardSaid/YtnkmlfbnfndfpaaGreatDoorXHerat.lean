/- The document's answer of layer 10: may an era be? What tells how long it lasts. -/
import Derived.Test.YtnkmlfbnfndfpaaGreatDoorXHera
set_option maxRecDepth 100000
set_option maxHeartbeats 64000000
namespace Go.Proofs.YtnkmlfbnfndfpaaGreatDoor
open Go.RowKit
set_option linter.unusedVariables false
theorem eraT0_0 (off kind save year mo ki wd da ti re : Int) (rules fmt : ByteArray) (til : Bool) (hr : rules.size ≤ maxLen) (hf : fmt.size ≤ maxLen) (w : World) (h1 : ¬ off ≤ -86400) (h2 : ¬ 86400 ≤ off) (h3 : ¬ 43200 < save) (h4 : ¬ save < -43200) (h5 : formatB fmt = true) (h8 : save = 0) (h9 : rules = ⟨#[]⟩) (hk : kind = 0) (ht : til = true) (hy : ¬ 1 ≤ year) :
    Calls Tryz.prog 68 #[.agg #[.int .i64 off, .int .i64 kind, .int .i64 save, .string rules, .string fmt, .bool til, .int .i64 year, .int .i64 mo, .int .i64 ki, .int .i64 wd, .int .i64 da, .int .i64 ti, .int .i64 re]] w (RetV w (.bool false)) := by
  subst hk h8 h9
  clear hr
  subst ht
  have FW := Lib.hid (fun w => (h5 ▸ formatR fmt hf w : Calls Tryz.prog 79 #[.string fmt] w (SameV w (.bool true))))
  clear h5 hf
  go_enter Tryz.func68, Tryz.ntmps68
  go_wp2_with first
    | (go_at_call 79; refine (FW.out _).mono ?_; clear FW; rintro e w' ⟨rfl, rfl⟩)
  go_ret
  exact ⟨rfl, (Below.refl _ w).alloc (Nat.le_refl _) _⟩
theorem eraT0_1 (off kind save year mo ki wd da ti re : Int) (rules fmt : ByteArray) (til : Bool) (hr : rules.size ≤ maxLen) (hf : fmt.size ≤ maxLen) (w : World) (h1 : ¬ off ≤ -86400) (h2 : ¬ 86400 ≤ off) (h3 : ¬ 43200 < save) (h4 : ¬ save < -43200) (h5 : formatB fmt = true) (h8 : save = 0) (h9 : rules = ⟨#[]⟩) (hk : kind = 0) (ht : til = true) (hy : 1 ≤ year) (hz : ¬ year ≤ 9999) :
    Calls Tryz.prog 68 #[.agg #[.int .i64 off, .int .i64 kind, .int .i64 save, .string rules, .string fmt, .bool til, .int .i64 year, .int .i64 mo, .int .i64 ki, .int .i64 wd, .int .i64 da, .int .i64 ti, .int .i64 re]] w (RetV w (.bool false)) := by
  subst hk h8 h9
  clear hr
  subst ht
  have FW := Lib.hid (fun w => (h5 ▸ formatR fmt hf w : Calls Tryz.prog 79 #[.string fmt] w (SameV w (.bool true))))
  clear h5 hf
  go_enter Tryz.func68, Tryz.ntmps68
  go_wp2_with first
    | (go_at_call 79; refine (FW.out _).mono ?_; clear FW; rintro e w' ⟨rfl, rfl⟩)
  go_ret
  exact ⟨rfl, (Below.refl _ w).alloc (Nat.le_refl _) _⟩
theorem eraT0_2 (off kind save year mo ki wd da ti re : Int) (rules fmt : ByteArray) (til : Bool) (hr : rules.size ≤ maxLen) (hf : fmt.size ≤ maxLen) (w : World) (h1 : ¬ off ≤ -86400) (h2 : ¬ 86400 ≤ off) (h3 : ¬ 43200 < save) (h4 : ¬ save < -43200) (h5 : formatB fmt = true) (h8 : save = 0) (h9 : rules = ⟨#[]⟩) (hk : kind = 0) (ht : til = true) (hy : 1 ≤ year) (hz : year ≤ 9999) :
    Calls Tryz.prog 68 #[.agg #[.int .i64 off, .int .i64 kind, .int .i64 save, .string rules, .string fmt, .bool til, .int .i64 year, .int .i64 mo, .int .i64 ki, .int .i64 wd, .int .i64 da, .int .i64 ti, .int .i64 re]] w (RetV w (.bool (decide (Sp.ok ⟨mo, ki, wd, da, ti, re⟩)))) := by
  subst hk h8 h9
  clear hr
  subst ht
  have RW := Lib.hid (rightSR ⟨mo, ki, wd, da, ti, re⟩)
  simp only [Sp.val] at RW
  generalize (decide (Sp.ok ⟨mo, ki, wd, da, ti, re⟩)) = rb at *
  have FW := Lib.hid (fun w => (h5 ▸ formatR fmt hf w : Calls Tryz.prog 79 #[.string fmt] w (SameV w (.bool true))))
  clear h5 hf
  go_enter Tryz.func68, Tryz.ntmps68
  go_wp2_with first
    | (go_at_call 79; refine (FW.out _).mono ?_; clear FW; rintro e w' ⟨rfl, rfl⟩)
    | (go_at_call 66; refine (RW.out _).mono ?_; clear RW; rintro e w2 ⟨rfl, k2⟩)
  go_ret
  exact ⟨rfl, ((Below.refl _ w).alloc (Nat.le_refl _) _).trans (k2.mono (by simp))⟩
theorem eraT0_3 (off kind save year mo ki wd da ti re : Int) (rules fmt : ByteArray) (til : Bool) (hr : rules.size ≤ maxLen) (hf : fmt.size ≤ maxLen) (w : World) (h1 : ¬ off ≤ -86400) (h2 : ¬ 86400 ≤ off) (h3 : ¬ 43200 < save) (h4 : ¬ save < -43200) (h5 : formatB fmt = true) (h8 : save = 0) (h9 : rules = ⟨#[]⟩) (hk : kind = 0) (ht : til = false) (hy : ¬ year = 0) :
    Calls Tryz.prog 68 #[.agg #[.int .i64 off, .int .i64 kind, .int .i64 save, .string rules, .string fmt, .bool til, .int .i64 year, .int .i64 mo, .int .i64 ki, .int .i64 wd, .int .i64 da, .int .i64 ti, .int .i64 re]] w (RetV w (.bool false)) := by
  subst hk h8 h9
  clear hr
  subst ht
  have y1 : (year == 0) = false := beq_eq_false_iff_ne.2 hy
  clear hy
  have FW := Lib.hid (fun w => (h5 ▸ formatR fmt hf w : Calls Tryz.prog 79 #[.string fmt] w (SameV w (.bool true))))
  clear h5 hf
  go_enter Tryz.func68, Tryz.ntmps68
  go_wp2_with first
    | (go_at_call 79; refine (FW.out _).mono ?_; clear FW; rintro e w' ⟨rfl, rfl⟩)
  go_ret
  exact ⟨rfl, (Below.refl _ w).alloc (Nat.le_refl _) _⟩
theorem eraT0_4 (off kind save year mo ki wd da ti re : Int) (rules fmt : ByteArray) (til : Bool) (hr : rules.size ≤ maxLen) (hf : fmt.size ≤ maxLen) (w : World) (h1 : ¬ off ≤ -86400) (h2 : ¬ 86400 ≤ off) (h3 : ¬ 43200 < save) (h4 : ¬ save < -43200) (h5 : formatB fmt = true) (h8 : save = 0) (h9 : rules = ⟨#[]⟩) (hk : kind = 0) (ht : til = false) (hy : year = 0) (hm : mo = 0 ∧ ki = 0 ∧ wd = 0 ∧ da = 0 ∧ ti = 0 ∧ re = 0) :
    Calls Tryz.prog 68 #[.agg #[.int .i64 off, .int .i64 kind, .int .i64 save, .string rules, .string fmt, .bool til, .int .i64 year, .int .i64 mo, .int .i64 ki, .int .i64 wd, .int .i64 da, .int .i64 ti, .int .i64 re]] w (RetV w (.bool true)) := by
  subst hk h8 h9
  clear hr
  obtain ⟨rfl, rfl, rfl, rfl, rfl, rfl⟩ := hm
  subst ht hy
  have FW := Lib.hid (fun w => (h5 ▸ formatR fmt hf w : Calls Tryz.prog 79 #[.string fmt] w (SameV w (.bool true))))
  clear h5 hf
  go_enter Tryz.func68, Tryz.ntmps68
  go_wp2_with first
    | (go_at_call 79; refine (FW.out _).mono ?_; clear FW; rintro e w' ⟨rfl, rfl⟩)
  go_ret
  exact ⟨rfl, (Below.refl _ w).alloc (Nat.le_refl _) _⟩
theorem eraT0_5 (off kind save year mo ki wd da ti re : Int) (rules fmt : ByteArray) (til : Bool) (hr : rules.size ≤ maxLen) (hf : fmt.size ≤ maxLen) (w : World) (h1 : ¬ off ≤ -86400) (h2 : ¬ 86400 ≤ off) (h3 : ¬ 43200 < save) (h4 : ¬ save < -43200) (h5 : formatB fmt = true) (h8 : save = 0) (h9 : rules = ⟨#[]⟩) (hk : kind = 0) (ht : til = false) (hy : year = 0) (hm : ¬ (mo = 0 ∧ ki = 0 ∧ wd = 0 ∧ da = 0 ∧ ti = 0 ∧ re = 0)) :
    Calls Tryz.prog 68 #[.agg #[.int .i64 off, .int .i64 kind, .int .i64 save, .string rules, .string fmt, .bool til, .int .i64 year, .int .i64 mo, .int .i64 ki, .int .i64 wd, .int .i64 da, .int .i64 ti, .int .i64 re]] w (RetV w (.bool false)) := by
  subst hk h8 h9
  clear hr
  subst ht hy
  have FW := Lib.hid (fun w => (h5 ▸ formatR fmt hf w : Calls Tryz.prog 79 #[.string fmt] w (SameV w (.bool true))))
  clear h5 hf
  go_enter Tryz.func68, Tryz.ntmps68
  go_wp2_with first
    | (go_at_call 79; refine (FW.out _).mono ?_; clear FW; rintro e w' ⟨rfl, rfl⟩)
  all_goals first
    | exact absurd ⟨rfl, rfl, rfl, rfl, rfl, rfl⟩ hm
    | (go_ret; exact ⟨rfl, (Below.refl _ w).alloc (Nat.le_refl _) _⟩)
theorem eraT1_0 (off kind save year mo ki wd da ti re : Int) (rules fmt : ByteArray) (til : Bool) (hr : rules.size ≤ maxLen) (hf : fmt.size ≤ maxLen) (w : World) (h1 : ¬ off ≤ -86400) (h2 : ¬ 86400 ≤ off) (h3 : ¬ 43200 < save) (h4 : ¬ save < -43200) (h5 : formatB fmt = true) (h9 : rules = ⟨#[]⟩) (hk : kind = 1) (ht : til = true) (hy : ¬ 1 ≤ year) :
    Calls Tryz.prog 68 #[.agg #[.int .i64 off, .int .i64 kind, .int .i64 save, .string rules, .string fmt, .bool til, .int .i64 year, .int .i64 mo, .int .i64 ki, .int .i64 wd, .int .i64 da, .int .i64 ti, .int .i64 re]] w (RetV w (.bool false)) := by
  subst hk h9
  clear hr
  subst ht
  have FW := Lib.hid (fun w => (h5 ▸ formatR fmt hf w : Calls Tryz.prog 79 #[.string fmt] w (SameV w (.bool true))))
  clear h5 hf
  go_enter Tryz.func68, Tryz.ntmps68
  go_wp2_with first
    | (go_at_call 79; refine (FW.out _).mono ?_; clear FW; rintro e w' ⟨rfl, rfl⟩)
  go_ret
  exact ⟨rfl, (Below.refl _ w).alloc (Nat.le_refl _) _⟩
theorem eraT1_1 (off kind save year mo ki wd da ti re : Int) (rules fmt : ByteArray) (til : Bool) (hr : rules.size ≤ maxLen) (hf : fmt.size ≤ maxLen) (w : World) (h1 : ¬ off ≤ -86400) (h2 : ¬ 86400 ≤ off) (h3 : ¬ 43200 < save) (h4 : ¬ save < -43200) (h5 : formatB fmt = true) (h9 : rules = ⟨#[]⟩) (hk : kind = 1) (ht : til = true) (hy : 1 ≤ year) (hz : ¬ year ≤ 9999) :
    Calls Tryz.prog 68 #[.agg #[.int .i64 off, .int .i64 kind, .int .i64 save, .string rules, .string fmt, .bool til, .int .i64 year, .int .i64 mo, .int .i64 ki, .int .i64 wd, .int .i64 da, .int .i64 ti, .int .i64 re]] w (RetV w (.bool false)) := by
  subst hk h9
  clear hr
  subst ht
  have FW := Lib.hid (fun w => (h5 ▸ formatR fmt hf w : Calls Tryz.prog 79 #[.string fmt] w (SameV w (.bool true))))
  clear h5 hf
  go_enter Tryz.func68, Tryz.ntmps68
  go_wp2_with first
    | (go_at_call 79; refine (FW.out _).mono ?_; clear FW; rintro e w' ⟨rfl, rfl⟩)
  go_ret
  exact ⟨rfl, (Below.refl _ w).alloc (Nat.le_refl _) _⟩
theorem eraT1_2 (off kind save year mo ki wd da ti re : Int) (rules fmt : ByteArray) (til : Bool) (hr : rules.size ≤ maxLen) (hf : fmt.size ≤ maxLen) (w : World) (h1 : ¬ off ≤ -86400) (h2 : ¬ 86400 ≤ off) (h3 : ¬ 43200 < save) (h4 : ¬ save < -43200) (h5 : formatB fmt = true) (h9 : rules = ⟨#[]⟩) (hk : kind = 1) (ht : til = true) (hy : 1 ≤ year) (hz : year ≤ 9999) :
    Calls Tryz.prog 68 #[.agg #[.int .i64 off, .int .i64 kind, .int .i64 save, .string rules, .string fmt, .bool til, .int .i64 year, .int .i64 mo, .int .i64 ki, .int .i64 wd, .int .i64 da, .int .i64 ti, .int .i64 re]] w (RetV w (.bool (decide (Sp.ok ⟨mo, ki, wd, da, ti, re⟩)))) := by
  subst hk h9
  clear hr
  subst ht
  have RW := Lib.hid (rightSR ⟨mo, ki, wd, da, ti, re⟩)
  simp only [Sp.val] at RW
  generalize (decide (Sp.ok ⟨mo, ki, wd, da, ti, re⟩)) = rb at *
  have FW := Lib.hid (fun w => (h5 ▸ formatR fmt hf w : Calls Tryz.prog 79 #[.string fmt] w (SameV w (.bool true))))
  clear h5 hf
  go_enter Tryz.func68, Tryz.ntmps68
  go_wp2_with first
    | (go_at_call 79; refine (FW.out _).mono ?_; clear FW; rintro e w' ⟨rfl, rfl⟩)
    | (go_at_call 66; refine (RW.out _).mono ?_; clear RW; rintro e w2 ⟨rfl, k2⟩)
  go_ret
  exact ⟨rfl, ((Below.refl _ w).alloc (Nat.le_refl _) _).trans (k2.mono (by simp))⟩
theorem eraT1_3 (off kind save year mo ki wd da ti re : Int) (rules fmt : ByteArray) (til : Bool) (hr : rules.size ≤ maxLen) (hf : fmt.size ≤ maxLen) (w : World) (h1 : ¬ off ≤ -86400) (h2 : ¬ 86400 ≤ off) (h3 : ¬ 43200 < save) (h4 : ¬ save < -43200) (h5 : formatB fmt = true) (h9 : rules = ⟨#[]⟩) (hk : kind = 1) (ht : til = false) (hy : ¬ year = 0) :
    Calls Tryz.prog 68 #[.agg #[.int .i64 off, .int .i64 kind, .int .i64 save, .string rules, .string fmt, .bool til, .int .i64 year, .int .i64 mo, .int .i64 ki, .int .i64 wd, .int .i64 da, .int .i64 ti, .int .i64 re]] w (RetV w (.bool false)) := by
  subst hk h9
  clear hr
  subst ht
  have y1 : (year == 0) = false := beq_eq_false_iff_ne.2 hy
  clear hy
  have FW := Lib.hid (fun w => (h5 ▸ formatR fmt hf w : Calls Tryz.prog 79 #[.string fmt] w (SameV w (.bool true))))
  clear h5 hf
  go_enter Tryz.func68, Tryz.ntmps68
  go_wp2_with first
    | (go_at_call 79; refine (FW.out _).mono ?_; clear FW; rintro e w' ⟨rfl, rfl⟩)
  go_ret
  exact ⟨rfl, (Below.refl _ w).alloc (Nat.le_refl _) _⟩
theorem eraT1_4 (off kind save year mo ki wd da ti re : Int) (rules fmt : ByteArray) (til : Bool) (hr : rules.size ≤ maxLen) (hf : fmt.size ≤ maxLen) (w : World) (h1 : ¬ off ≤ -86400) (h2 : ¬ 86400 ≤ off) (h3 : ¬ 43200 < save) (h4 : ¬ save < -43200) (h5 : formatB fmt = true) (h9 : rules = ⟨#[]⟩) (hk : kind = 1) (ht : til = false) (hy : year = 0) (hm : mo = 0 ∧ ki = 0 ∧ wd = 0 ∧ da = 0 ∧ ti = 0 ∧ re = 0) :
    Calls Tryz.prog 68 #[.agg #[.int .i64 off, .int .i64 kind, .int .i64 save, .string rules, .string fmt, .bool til, .int .i64 year, .int .i64 mo, .int .i64 ki, .int .i64 wd, .int .i64 da, .int .i64 ti, .int .i64 re]] w (RetV w (.bool true)) := by
  subst hk h9
  clear hr
  obtain ⟨rfl, rfl, rfl, rfl, rfl, rfl⟩ := hm
  subst ht hy
  have FW := Lib.hid (fun w => (h5 ▸ formatR fmt hf w : Calls Tryz.prog 79 #[.string fmt] w (SameV w (.bool true))))
  clear h5 hf
  go_enter Tryz.func68, Tryz.ntmps68
  go_wp2_with first
    | (go_at_call 79; refine (FW.out _).mono ?_; clear FW; rintro e w' ⟨rfl, rfl⟩)
  go_ret
  exact ⟨rfl, (Below.refl _ w).alloc (Nat.le_refl _) _⟩
theorem eraT1_5 (off kind save year mo ki wd da ti re : Int) (rules fmt : ByteArray) (til : Bool) (hr : rules.size ≤ maxLen) (hf : fmt.size ≤ maxLen) (w : World) (h1 : ¬ off ≤ -86400) (h2 : ¬ 86400 ≤ off) (h3 : ¬ 43200 < save) (h4 : ¬ save < -43200) (h5 : formatB fmt = true) (h9 : rules = ⟨#[]⟩) (hk : kind = 1) (ht : til = false) (hy : year = 0) (hm : ¬ (mo = 0 ∧ ki = 0 ∧ wd = 0 ∧ da = 0 ∧ ti = 0 ∧ re = 0)) :
    Calls Tryz.prog 68 #[.agg #[.int .i64 off, .int .i64 kind, .int .i64 save, .string rules, .string fmt, .bool til, .int .i64 year, .int .i64 mo, .int .i64 ki, .int .i64 wd, .int .i64 da, .int .i64 ti, .int .i64 re]] w (RetV w (.bool false)) := by
  subst hk h9
  clear hr
  subst ht hy
  have FW := Lib.hid (fun w => (h5 ▸ formatR fmt hf w : Calls Tryz.prog 79 #[.string fmt] w (SameV w (.bool true))))
  clear h5 hf
  go_enter Tryz.func68, Tryz.ntmps68
  go_wp2_with first
    | (go_at_call 79; refine (FW.out _).mono ?_; clear FW; rintro e w' ⟨rfl, rfl⟩)
  all_goals first
    | exact absurd ⟨rfl, rfl, rfl, rfl, rfl, rfl⟩ hm
    | (go_ret; exact ⟨rfl, (Below.refl _ w).alloc (Nat.le_refl _) _⟩)
theorem eraT2_0 (off kind save year mo ki wd da ti re : Int) (rules fmt : ByteArray) (til : Bool) (hr : rules.size ≤ maxLen) (hf : fmt.size ≤ maxLen) (w : World) (h1 : ¬ off ≤ -86400) (h2 : ¬ 86400 ≤ off) (h3 : ¬ 43200 < save) (h4 : ¬ save < -43200) (h5 : formatB fmt = true) (h8 : save = 0) (h10 : setB rules = true) (hk : kind = 2) (ht : til = true) (hy : ¬ 1 ≤ year) :
    Calls Tryz.prog 68 #[.agg #[.int .i64 off, .int .i64 kind, .int .i64 save, .string rules, .string fmt, .bool til, .int .i64 year, .int .i64 mo, .int .i64 ki, .int .i64 wd, .int .i64 da, .int .i64 ti, .int .i64 re]] w (RetV w (.bool false)) := by
  subst hk h8
  have SW := Lib.hid (fun w => (h10 ▸ setR rules hr w : Calls Tryz.prog 19 #[.string rules] w (SameV w (.bool true))))
  clear h10 hr
  subst ht
  have FW := Lib.hid (fun w => (h5 ▸ formatR fmt hf w : Calls Tryz.prog 79 #[.string fmt] w (SameV w (.bool true))))
  clear h5 hf
  go_enter Tryz.func68, Tryz.ntmps68
  go_wp2_with first
    | (go_at_call 79; refine (FW.out _).mono ?_; clear FW; rintro e w' ⟨rfl, rfl⟩)
    | (go_at_call 19; refine (SW.out _).mono ?_; clear SW; rintro e w' ⟨rfl, rfl⟩)
  go_ret
  exact ⟨rfl, (Below.refl _ w).alloc (Nat.le_refl _) _⟩
theorem eraT2_1 (off kind save year mo ki wd da ti re : Int) (rules fmt : ByteArray) (til : Bool) (hr : rules.size ≤ maxLen) (hf : fmt.size ≤ maxLen) (w : World) (h1 : ¬ off ≤ -86400) (h2 : ¬ 86400 ≤ off) (h3 : ¬ 43200 < save) (h4 : ¬ save < -43200) (h5 : formatB fmt = true) (h8 : save = 0) (h10 : setB rules = true) (hk : kind = 2) (ht : til = true) (hy : 1 ≤ year) (hz : ¬ year ≤ 9999) :
    Calls Tryz.prog 68 #[.agg #[.int .i64 off, .int .i64 kind, .int .i64 save, .string rules, .string fmt, .bool til, .int .i64 year, .int .i64 mo, .int .i64 ki, .int .i64 wd, .int .i64 da, .int .i64 ti, .int .i64 re]] w (RetV w (.bool false)) := by
  subst hk h8
  have SW := Lib.hid (fun w => (h10 ▸ setR rules hr w : Calls Tryz.prog 19 #[.string rules] w (SameV w (.bool true))))
  clear h10 hr
  subst ht
  have FW := Lib.hid (fun w => (h5 ▸ formatR fmt hf w : Calls Tryz.prog 79 #[.string fmt] w (SameV w (.bool true))))
  clear h5 hf
  go_enter Tryz.func68, Tryz.ntmps68
  go_wp2_with first
    | (go_at_call 79; refine (FW.out _).mono ?_; clear FW; rintro e w' ⟨rfl, rfl⟩)
    | (go_at_call 19; refine (SW.out _).mono ?_; clear SW; rintro e w' ⟨rfl, rfl⟩)
  go_ret
  exact ⟨rfl, (Below.refl _ w).alloc (Nat.le_refl _) _⟩
theorem eraT2_2 (off kind save year mo ki wd da ti re : Int) (rules fmt : ByteArray) (til : Bool) (hr : rules.size ≤ maxLen) (hf : fmt.size ≤ maxLen) (w : World) (h1 : ¬ off ≤ -86400) (h2 : ¬ 86400 ≤ off) (h3 : ¬ 43200 < save) (h4 : ¬ save < -43200) (h5 : formatB fmt = true) (h8 : save = 0) (h10 : setB rules = true) (hk : kind = 2) (ht : til = true) (hy : 1 ≤ year) (hz : year ≤ 9999) :
    Calls Tryz.prog 68 #[.agg #[.int .i64 off, .int .i64 kind, .int .i64 save, .string rules, .string fmt, .bool til, .int .i64 year, .int .i64 mo, .int .i64 ki, .int .i64 wd, .int .i64 da, .int .i64 ti, .int .i64 re]] w (RetV w (.bool (decide (Sp.ok ⟨mo, ki, wd, da, ti, re⟩)))) := by
  subst hk h8
  have SW := Lib.hid (fun w => (h10 ▸ setR rules hr w : Calls Tryz.prog 19 #[.string rules] w (SameV w (.bool true))))
  clear h10 hr
  subst ht
  have RW := Lib.hid (rightSR ⟨mo, ki, wd, da, ti, re⟩)
  simp only [Sp.val] at RW
  generalize (decide (Sp.ok ⟨mo, ki, wd, da, ti, re⟩)) = rb at *
  have FW := Lib.hid (fun w => (h5 ▸ formatR fmt hf w : Calls Tryz.prog 79 #[.string fmt] w (SameV w (.bool true))))
  clear h5 hf
  go_enter Tryz.func68, Tryz.ntmps68
  go_wp2_with first
    | (go_at_call 79; refine (FW.out _).mono ?_; clear FW; rintro e w' ⟨rfl, rfl⟩)
    | (go_at_call 19; refine (SW.out _).mono ?_; clear SW; rintro e w' ⟨rfl, rfl⟩)
    | (go_at_call 66; refine (RW.out _).mono ?_; clear RW; rintro e w2 ⟨rfl, k2⟩)
  go_ret
  exact ⟨rfl, ((Below.refl _ w).alloc (Nat.le_refl _) _).trans (k2.mono (by simp))⟩
theorem eraT2_3 (off kind save year mo ki wd da ti re : Int) (rules fmt : ByteArray) (til : Bool) (hr : rules.size ≤ maxLen) (hf : fmt.size ≤ maxLen) (w : World) (h1 : ¬ off ≤ -86400) (h2 : ¬ 86400 ≤ off) (h3 : ¬ 43200 < save) (h4 : ¬ save < -43200) (h5 : formatB fmt = true) (h8 : save = 0) (h10 : setB rules = true) (hk : kind = 2) (ht : til = false) (hy : ¬ year = 0) :
    Calls Tryz.prog 68 #[.agg #[.int .i64 off, .int .i64 kind, .int .i64 save, .string rules, .string fmt, .bool til, .int .i64 year, .int .i64 mo, .int .i64 ki, .int .i64 wd, .int .i64 da, .int .i64 ti, .int .i64 re]] w (RetV w (.bool false)) := by
  subst hk h8
  have SW := Lib.hid (fun w => (h10 ▸ setR rules hr w : Calls Tryz.prog 19 #[.string rules] w (SameV w (.bool true))))
  clear h10 hr
  subst ht
  have y1 : (year == 0) = false := beq_eq_false_iff_ne.2 hy
  clear hy
  have FW := Lib.hid (fun w => (h5 ▸ formatR fmt hf w : Calls Tryz.prog 79 #[.string fmt] w (SameV w (.bool true))))
  clear h5 hf
  go_enter Tryz.func68, Tryz.ntmps68
  go_wp2_with first
    | (go_at_call 79; refine (FW.out _).mono ?_; clear FW; rintro e w' ⟨rfl, rfl⟩)
    | (go_at_call 19; refine (SW.out _).mono ?_; clear SW; rintro e w' ⟨rfl, rfl⟩)
  go_ret
  exact ⟨rfl, (Below.refl _ w).alloc (Nat.le_refl _) _⟩
theorem eraT2_4 (off kind save year mo ki wd da ti re : Int) (rules fmt : ByteArray) (til : Bool) (hr : rules.size ≤ maxLen) (hf : fmt.size ≤ maxLen) (w : World) (h1 : ¬ off ≤ -86400) (h2 : ¬ 86400 ≤ off) (h3 : ¬ 43200 < save) (h4 : ¬ save < -43200) (h5 : formatB fmt = true) (h8 : save = 0) (h10 : setB rules = true) (hk : kind = 2) (ht : til = false) (hy : year = 0) (hm : mo = 0 ∧ ki = 0 ∧ wd = 0 ∧ da = 0 ∧ ti = 0 ∧ re = 0) :
    Calls Tryz.prog 68 #[.agg #[.int .i64 off, .int .i64 kind, .int .i64 save, .string rules, .string fmt, .bool til, .int .i64 year, .int .i64 mo, .int .i64 ki, .int .i64 wd, .int .i64 da, .int .i64 ti, .int .i64 re]] w (RetV w (.bool true)) := by
  subst hk h8
  have SW := Lib.hid (fun w => (h10 ▸ setR rules hr w : Calls Tryz.prog 19 #[.string rules] w (SameV w (.bool true))))
  clear h10 hr
  obtain ⟨rfl, rfl, rfl, rfl, rfl, rfl⟩ := hm
  subst ht hy
  have FW := Lib.hid (fun w => (h5 ▸ formatR fmt hf w : Calls Tryz.prog 79 #[.string fmt] w (SameV w (.bool true))))
  clear h5 hf
  go_enter Tryz.func68, Tryz.ntmps68
  go_wp2_with first
    | (go_at_call 79; refine (FW.out _).mono ?_; clear FW; rintro e w' ⟨rfl, rfl⟩)
    | (go_at_call 19; refine (SW.out _).mono ?_; clear SW; rintro e w' ⟨rfl, rfl⟩)
  go_ret
  exact ⟨rfl, (Below.refl _ w).alloc (Nat.le_refl _) _⟩
theorem eraT2_5 (off kind save year mo ki wd da ti re : Int) (rules fmt : ByteArray) (til : Bool) (hr : rules.size ≤ maxLen) (hf : fmt.size ≤ maxLen) (w : World) (h1 : ¬ off ≤ -86400) (h2 : ¬ 86400 ≤ off) (h3 : ¬ 43200 < save) (h4 : ¬ save < -43200) (h5 : formatB fmt = true) (h8 : save = 0) (h10 : setB rules = true) (hk : kind = 2) (ht : til = false) (hy : year = 0) (hm : ¬ (mo = 0 ∧ ki = 0 ∧ wd = 0 ∧ da = 0 ∧ ti = 0 ∧ re = 0)) :
    Calls Tryz.prog 68 #[.agg #[.int .i64 off, .int .i64 kind, .int .i64 save, .string rules, .string fmt, .bool til, .int .i64 year, .int .i64 mo, .int .i64 ki, .int .i64 wd, .int .i64 da, .int .i64 ti, .int .i64 re]] w (RetV w (.bool false)) := by
  subst hk h8
  have SW := Lib.hid (fun w => (h10 ▸ setR rules hr w : Calls Tryz.prog 19 #[.string rules] w (SameV w (.bool true))))
  clear h10 hr
  subst ht hy
  have FW := Lib.hid (fun w => (h5 ▸ formatR fmt hf w : Calls Tryz.prog 79 #[.string fmt] w (SameV w (.bool true))))
  clear h5 hf
  go_enter Tryz.func68, Tryz.ntmps68
  go_wp2_with first
    | (go_at_call 79; refine (FW.out _).mono ?_; clear FW; rintro e w' ⟨rfl, rfl⟩)
    | (go_at_call 19; refine (SW.out _).mono ?_; clear SW; rintro e w' ⟨rfl, rfl⟩)
  all_goals first
    | exact absurd ⟨rfl, rfl, rfl, rfl, rfl, rfl⟩ hm
    | (go_ret; exact ⟨rfl, (Below.refl _ w).alloc (Nat.le_refl _) _⟩)
end Go.Proofs.YtnkmlfbnfndfpaaGreatDoor
