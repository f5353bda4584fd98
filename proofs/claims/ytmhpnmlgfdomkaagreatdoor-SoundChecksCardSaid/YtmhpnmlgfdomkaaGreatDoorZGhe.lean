import Derived.Test.YtmhpnmlgfdomkaaGreatDoorZHspec
import Derived.Test.YtmhpnmlgfdomkaaGreatDoorZGhs
import Derived.Test.YtmhpnmlgfdomkaaGreatDoorZGj
import Derived.Test.YtmhpnmlgfdomkaaGreatDoorZGua
import Derived.Test.YtmhpnmlgfdomkaaGreatDoorZMem
set_option maxRecDepth 100000
set_option maxHeartbeats 64000000
namespace Go.Proofs.YtmhpnmlgfdomkaaGreatDoor
open Go.RowKit
set_option linter.unusedVariables false
theorem ne_toListE {t : ByteArray} (h : ¬ t = ⟨#[]⟩) : ¬ t.toList = [] := by
  intro c
  apply h
  have : t.data.toList = [] := by rw [← c]; exact (ByteArray.toList_eq t).symm
  apply ByteArray.ext
  exact Array.toList_eq_nil_iff.1 this
theorem eraN0 (off kind save year mo ki wd da ti re : Int) (rules fmt : ByteArray) (til : Bool) (hr : rules.size ≤ maxLen) (hf : fmt.size ≤ maxLen) (w : World) (h1 : off ≤ -86400) :
    Calls Tryz.prog 65 #[.agg #[.int .i64 off, .int .i64 kind, .int .i64 save, .string rules, .string fmt, .bool til, .int .i64 year, .int .i64 mo, .int .i64 ki, .int .i64 wd, .int .i64 da, .int .i64 ti, .int .i64 re]] w (RetV w (.bool false)) := by
  clear hr hf
  go_enter Tryz.func65, Tryz.ntmps65
  go_wp2
  go_ret
  exact ⟨rfl, (Below.refl _ w).alloc (Nat.le_refl _) _⟩
theorem eraN1 (off kind save year mo ki wd da ti re : Int) (rules fmt : ByteArray) (til : Bool) (hr : rules.size ≤ maxLen) (hf : fmt.size ≤ maxLen) (w : World) (h1 : ¬ off ≤ -86400) (h2 : 86400 ≤ off) :
    Calls Tryz.prog 65 #[.agg #[.int .i64 off, .int .i64 kind, .int .i64 save, .string rules, .string fmt, .bool til, .int .i64 year, .int .i64 mo, .int .i64 ki, .int .i64 wd, .int .i64 da, .int .i64 ti, .int .i64 re]] w (RetV w (.bool false)) := by
  clear hr hf
  go_enter Tryz.func65, Tryz.ntmps65
  go_wp2
  go_ret
  exact ⟨rfl, (Below.refl _ w).alloc (Nat.le_refl _) _⟩
theorem eraN2 (off kind save year mo ki wd da ti re : Int) (rules fmt : ByteArray) (til : Bool) (hr : rules.size ≤ maxLen) (hf : fmt.size ≤ maxLen) (w : World) (h1 : ¬ off ≤ -86400) (h2 : ¬ 86400 ≤ off) (h3 : 43200 < save) :
    Calls Tryz.prog 65 #[.agg #[.int .i64 off, .int .i64 kind, .int .i64 save, .string rules, .string fmt, .bool til, .int .i64 year, .int .i64 mo, .int .i64 ki, .int .i64 wd, .int .i64 da, .int .i64 ti, .int .i64 re]] w (RetV w (.bool false)) := by
  clear hr hf
  go_enter Tryz.func65, Tryz.ntmps65
  go_wp2
  go_ret
  exact ⟨rfl, (Below.refl _ w).alloc (Nat.le_refl _) _⟩
theorem eraN3 (off kind save year mo ki wd da ti re : Int) (rules fmt : ByteArray) (til : Bool) (hr : rules.size ≤ maxLen) (hf : fmt.size ≤ maxLen) (w : World) (h1 : ¬ off ≤ -86400) (h2 : ¬ 86400 ≤ off) (h3 : ¬ 43200 < save) (h4 : save < -43200) :
    Calls Tryz.prog 65 #[.agg #[.int .i64 off, .int .i64 kind, .int .i64 save, .string rules, .string fmt, .bool til, .int .i64 year, .int .i64 mo, .int .i64 ki, .int .i64 wd, .int .i64 da, .int .i64 ti, .int .i64 re]] w (RetV w (.bool false)) := by
  clear hr hf
  go_enter Tryz.func65, Tryz.ntmps65
  go_wp2
  go_ret
  exact ⟨rfl, (Below.refl _ w).alloc (Nat.le_refl _) _⟩
theorem eraN4 (off kind save year mo ki wd da ti re : Int) (rules fmt : ByteArray) (til : Bool) (hr : rules.size ≤ maxLen) (hf : fmt.size ≤ maxLen) (w : World) (h1 : ¬ off ≤ -86400) (h2 : ¬ 86400 ≤ off) (h3 : ¬ 43200 < save) (h4 : ¬ save < -43200) (h5 : formatB fmt = false) :
    Calls Tryz.prog 65 #[.agg #[.int .i64 off, .int .i64 kind, .int .i64 save, .string rules, .string fmt, .bool til, .int .i64 year, .int .i64 mo, .int .i64 ki, .int .i64 wd, .int .i64 da, .int .i64 ti, .int .i64 re]] w (RetV w (.bool false)) := by
  clear hr
  have FW := Lib.hid (fun w => (h5 ▸ formatR fmt hf w : Calls Tryz.prog 95 #[.string fmt] w (SameV w (.bool false))))
  clear h5 hf
  go_enter Tryz.func65, Tryz.ntmps65
  go_wp2_with first
    | (go_at_call 95; refine (FW.out _).mono ?_; clear FW; rintro e w' ⟨rfl, rfl⟩)
  go_ret
  exact ⟨rfl, (Below.refl _ w).alloc (Nat.le_refl _) _⟩
theorem eraN5 (off kind save year mo ki wd da ti re : Int) (rules fmt : ByteArray) (til : Bool) (hr : rules.size ≤ maxLen) (hf : fmt.size ≤ maxLen) (w : World) (h1 : ¬ off ≤ -86400) (h2 : ¬ 86400 ≤ off) (h3 : ¬ 43200 < save) (h4 : ¬ save < -43200) (h5 : formatB fmt = true) (h6 : kind < 0) :
    Calls Tryz.prog 65 #[.agg #[.int .i64 off, .int .i64 kind, .int .i64 save, .string rules, .string fmt, .bool til, .int .i64 year, .int .i64 mo, .int .i64 ki, .int .i64 wd, .int .i64 da, .int .i64 ti, .int .i64 re]] w (RetV w (.bool false)) := by
  clear hr
  have FW := Lib.hid (fun w => (h5 ▸ formatR fmt hf w : Calls Tryz.prog 95 #[.string fmt] w (SameV w (.bool true))))
  clear h5 hf
  go_enter Tryz.func65, Tryz.ntmps65
  go_wp2_with first
    | (go_at_call 95; refine (FW.out _).mono ?_; clear FW; rintro e w' ⟨rfl, rfl⟩)
  go_ret
  exact ⟨rfl, (Below.refl _ w).alloc (Nat.le_refl _) _⟩
theorem eraN6 (off kind save year mo ki wd da ti re : Int) (rules fmt : ByteArray) (til : Bool) (hr : rules.size ≤ maxLen) (hf : fmt.size ≤ maxLen) (w : World) (h1 : ¬ off ≤ -86400) (h2 : ¬ 86400 ≤ off) (h3 : ¬ 43200 < save) (h4 : ¬ save < -43200) (h5 : formatB fmt = true) (h6 : ¬ kind < 0) (h7 : 2 < kind) :
    Calls Tryz.prog 65 #[.agg #[.int .i64 off, .int .i64 kind, .int .i64 save, .string rules, .string fmt, .bool til, .int .i64 year, .int .i64 mo, .int .i64 ki, .int .i64 wd, .int .i64 da, .int .i64 ti, .int .i64 re]] w (RetV w (.bool false)) := by
  clear hr
  have FW := Lib.hid (fun w => (h5 ▸ formatR fmt hf w : Calls Tryz.prog 95 #[.string fmt] w (SameV w (.bool true))))
  clear h5 hf
  go_enter Tryz.func65, Tryz.ntmps65
  go_wp2_with first
    | (go_at_call 95; refine (FW.out _).mono ?_; clear FW; rintro e w' ⟨rfl, rfl⟩)
  go_ret
  exact ⟨rfl, (Below.refl _ w).alloc (Nat.le_refl _) _⟩
theorem eraN7 (off kind save year mo ki wd da ti re : Int) (rules fmt : ByteArray) (til : Bool) (hr : rules.size ≤ maxLen) (hf : fmt.size ≤ maxLen) (w : World) (h1 : ¬ off ≤ -86400) (h2 : ¬ 86400 ≤ off) (h3 : ¬ 43200 < save) (h4 : ¬ save < -43200) (h5 : formatB fmt = true) (h8 : ¬ save = 0) (hk : kind = 0) :
    Calls Tryz.prog 65 #[.agg #[.int .i64 off, .int .i64 kind, .int .i64 save, .string rules, .string fmt, .bool til, .int .i64 year, .int .i64 mo, .int .i64 ki, .int .i64 wd, .int .i64 da, .int .i64 ti, .int .i64 re]] w (RetV w (.bool false)) := by
  subst hk
  clear hr
  have sv1 : (save != 0) = true := bne_iff_ne.2 h8
  have sv2 : (save == 0) = false := beq_eq_false_iff_ne.2 h8
  clear h8
  have FW := Lib.hid (fun w => (h5 ▸ formatR fmt hf w : Calls Tryz.prog 95 #[.string fmt] w (SameV w (.bool true))))
  clear h5 hf
  go_enter Tryz.func65, Tryz.ntmps65
  go_wp2_with first
    | (go_at_call 95; refine (FW.out _).mono ?_; clear FW; rintro e w' ⟨rfl, rfl⟩)
  go_ret
  exact ⟨rfl, (Below.refl _ w).alloc (Nat.le_refl _) _⟩
theorem eraN8 (off kind save year mo ki wd da ti re : Int) (rules fmt : ByteArray) (til : Bool) (hr : rules.size ≤ maxLen) (hf : fmt.size ≤ maxLen) (w : World) (h1 : ¬ off ≤ -86400) (h2 : ¬ 86400 ≤ off) (h3 : ¬ 43200 < save) (h4 : ¬ save < -43200) (h5 : formatB fmt = true) (h8 : save = 0) (h9 : ¬ rules = ⟨#[]⟩) (hk : kind = 0) :
    Calls Tryz.prog 65 #[.agg #[.int .i64 off, .int .i64 kind, .int .i64 save, .string rules, .string fmt, .bool til, .int .i64 year, .int .i64 mo, .int .i64 ki, .int .i64 wd, .int .i64 da, .int .i64 ti, .int .i64 re]] w (RetV w (.bool false)) := by
  subst hk h8
  clear hr
  have ne2 := ne_toListE h9
  have ne : rules.toList.isEmpty = false := List.isEmpty_eq_false_iff.2 ne2
  clear h9
  have FW := Lib.hid (fun w => (h5 ▸ formatR fmt hf w : Calls Tryz.prog 95 #[.string fmt] w (SameV w (.bool true))))
  clear h5 hf
  go_enter Tryz.func65, Tryz.ntmps65
  go_wp2_with first
    | (go_at_call 95; refine (FW.out _).mono ?_; clear FW; rintro e w' ⟨rfl, rfl⟩)
  go_ret
  exact ⟨rfl, (Below.refl _ w).alloc (Nat.le_refl _) _⟩
theorem eraN9 (off kind save year mo ki wd da ti re : Int) (rules fmt : ByteArray) (til : Bool) (hr : rules.size ≤ maxLen) (hf : fmt.size ≤ maxLen) (w : World) (h1 : ¬ off ≤ -86400) (h2 : ¬ 86400 ≤ off) (h3 : ¬ 43200 < save) (h4 : ¬ save < -43200) (h5 : formatB fmt = true) (h9 : ¬ rules = ⟨#[]⟩) (hk : kind = 1) :
    Calls Tryz.prog 65 #[.agg #[.int .i64 off, .int .i64 kind, .int .i64 save, .string rules, .string fmt, .bool til, .int .i64 year, .int .i64 mo, .int .i64 ki, .int .i64 wd, .int .i64 da, .int .i64 ti, .int .i64 re]] w (RetV w (.bool false)) := by
  subst hk
  clear hr
  have ne2 := ne_toListE h9
  have ne : rules.toList.isEmpty = false := List.isEmpty_eq_false_iff.2 ne2
  clear h9
  have FW := Lib.hid (fun w => (h5 ▸ formatR fmt hf w : Calls Tryz.prog 95 #[.string fmt] w (SameV w (.bool true))))
  clear h5 hf
  go_enter Tryz.func65, Tryz.ntmps65
  go_wp2_with first
    | (go_at_call 95; refine (FW.out _).mono ?_; clear FW; rintro e w' ⟨rfl, rfl⟩)
  go_ret
  exact ⟨rfl, (Below.refl _ w).alloc (Nat.le_refl _) _⟩
theorem eraN10 (off kind save year mo ki wd da ti re : Int) (rules fmt : ByteArray) (til : Bool) (hr : rules.size ≤ maxLen) (hf : fmt.size ≤ maxLen) (w : World) (h1 : ¬ off ≤ -86400) (h2 : ¬ 86400 ≤ off) (h3 : ¬ 43200 < save) (h4 : ¬ save < -43200) (h5 : formatB fmt = true) (h8 : ¬ save = 0) (hk : kind = 2) :
    Calls Tryz.prog 65 #[.agg #[.int .i64 off, .int .i64 kind, .int .i64 save, .string rules, .string fmt, .bool til, .int .i64 year, .int .i64 mo, .int .i64 ki, .int .i64 wd, .int .i64 da, .int .i64 ti, .int .i64 re]] w (RetV w (.bool false)) := by
  subst hk
  clear hr
  have sv1 : (save != 0) = true := bne_iff_ne.2 h8
  have sv2 : (save == 0) = false := beq_eq_false_iff_ne.2 h8
  clear h8
  have FW := Lib.hid (fun w => (h5 ▸ formatR fmt hf w : Calls Tryz.prog 95 #[.string fmt] w (SameV w (.bool true))))
  clear h5 hf
  go_enter Tryz.func65, Tryz.ntmps65
  go_wp2_with first
    | (go_at_call 95; refine (FW.out _).mono ?_; clear FW; rintro e w' ⟨rfl, rfl⟩)
  go_ret
  exact ⟨rfl, (Below.refl _ w).alloc (Nat.le_refl _) _⟩
theorem eraN11 (off kind save year mo ki wd da ti re : Int) (rules fmt : ByteArray) (til : Bool) (hr : rules.size ≤ maxLen) (hf : fmt.size ≤ maxLen) (w : World) (h1 : ¬ off ≤ -86400) (h2 : ¬ 86400 ≤ off) (h3 : ¬ 43200 < save) (h4 : ¬ save < -43200) (h5 : formatB fmt = true) (h8 : save = 0) (h10 : setB rules = false) (hk : kind = 2) :
    Calls Tryz.prog 65 #[.agg #[.int .i64 off, .int .i64 kind, .int .i64 save, .string rules, .string fmt, .bool til, .int .i64 year, .int .i64 mo, .int .i64 ki, .int .i64 wd, .int .i64 da, .int .i64 ti, .int .i64 re]] w (RetV w (.bool false)) := by
  subst hk h8
  have SW := Lib.hid (fun w => (h10 ▸ setR rules hr w : Calls Tryz.prog 62 #[.string rules] w (SameV w (.bool false))))
  clear h10 hr
  have FW := Lib.hid (fun w => (h5 ▸ formatR fmt hf w : Calls Tryz.prog 95 #[.string fmt] w (SameV w (.bool true))))
  clear h5 hf
  go_enter Tryz.func65, Tryz.ntmps65
  go_wp2_with first
    | (go_at_call 95; refine (FW.out _).mono ?_; clear FW; rintro e w' ⟨rfl, rfl⟩)
    | (go_at_call 62; refine (SW.out _).mono ?_; clear SW; rintro e w' ⟨rfl, rfl⟩)
  go_ret
  exact ⟨rfl, (Below.refl _ w).alloc (Nat.le_refl _) _⟩
end Go.Proofs.YtmhpnmlgfdomkaaGreatDoor
namespace Go.Proofs.YtmhpnmlgfdomkaaGreatDoor
open Go.RowKit
set_option linter.unusedVariables false
theorem eraT0_0 (off kind save year mo ki wd da ti re : Int) (rules fmt : ByteArray) (til : Bool) (hr : rules.size ≤ maxLen) (hf : fmt.size ≤ maxLen) (w : World) (h1 : ¬ off ≤ -86400) (h2 : ¬ 86400 ≤ off) (h3 : ¬ 43200 < save) (h4 : ¬ save < -43200) (h5 : formatB fmt = true) (h8 : save = 0) (h9 : rules = ⟨#[]⟩) (hk : kind = 0) (ht : til = true) (hy : ¬ 1 ≤ year) :
    Calls Tryz.prog 65 #[.agg #[.int .i64 off, .int .i64 kind, .int .i64 save, .string rules, .string fmt, .bool til, .int .i64 year, .int .i64 mo, .int .i64 ki, .int .i64 wd, .int .i64 da, .int .i64 ti, .int .i64 re]] w (RetV w (.bool false)) := by
  subst hk h8 h9
  clear hr
  subst ht
  have FW := Lib.hid (fun w => (h5 ▸ formatR fmt hf w : Calls Tryz.prog 95 #[.string fmt] w (SameV w (.bool true))))
  clear h5 hf
  go_enter Tryz.func65, Tryz.ntmps65
  go_wp2_with first
    | (go_at_call 95; refine (FW.out _).mono ?_; clear FW; rintro e w' ⟨rfl, rfl⟩)
  go_ret
  exact ⟨rfl, (Below.refl _ w).alloc (Nat.le_refl _) _⟩
theorem eraT0_1 (off kind save year mo ki wd da ti re : Int) (rules fmt : ByteArray) (til : Bool) (hr : rules.size ≤ maxLen) (hf : fmt.size ≤ maxLen) (w : World) (h1 : ¬ off ≤ -86400) (h2 : ¬ 86400 ≤ off) (h3 : ¬ 43200 < save) (h4 : ¬ save < -43200) (h5 : formatB fmt = true) (h8 : save = 0) (h9 : rules = ⟨#[]⟩) (hk : kind = 0) (ht : til = true) (hy : 1 ≤ year) (hz : ¬ year ≤ 9999) :
    Calls Tryz.prog 65 #[.agg #[.int .i64 off, .int .i64 kind, .int .i64 save, .string rules, .string fmt, .bool til, .int .i64 year, .int .i64 mo, .int .i64 ki, .int .i64 wd, .int .i64 da, .int .i64 ti, .int .i64 re]] w (RetV w (.bool false)) := by
  subst hk h8 h9
  clear hr
  subst ht
  have FW := Lib.hid (fun w => (h5 ▸ formatR fmt hf w : Calls Tryz.prog 95 #[.string fmt] w (SameV w (.bool true))))
  clear h5 hf
  go_enter Tryz.func65, Tryz.ntmps65
  go_wp2_with first
    | (go_at_call 95; refine (FW.out _).mono ?_; clear FW; rintro e w' ⟨rfl, rfl⟩)
  go_ret
  exact ⟨rfl, (Below.refl _ w).alloc (Nat.le_refl _) _⟩
theorem eraT0_2 (off kind save year mo ki wd da ti re : Int) (rules fmt : ByteArray) (til : Bool) (hr : rules.size ≤ maxLen) (hf : fmt.size ≤ maxLen) (w : World) (h1 : ¬ off ≤ -86400) (h2 : ¬ 86400 ≤ off) (h3 : ¬ 43200 < save) (h4 : ¬ save < -43200) (h5 : formatB fmt = true) (h8 : save = 0) (h9 : rules = ⟨#[]⟩) (hk : kind = 0) (ht : til = true) (hy : 1 ≤ year) (hz : year ≤ 9999) :
    Calls Tryz.prog 65 #[.agg #[.int .i64 off, .int .i64 kind, .int .i64 save, .string rules, .string fmt, .bool til, .int .i64 year, .int .i64 mo, .int .i64 ki, .int .i64 wd, .int .i64 da, .int .i64 ti, .int .i64 re]] w (RetV w (.bool (decide (Sp.ok ⟨mo, ki, wd, da, ti, re⟩)))) := by
  subst hk h8 h9
  clear hr
  subst ht
  have RW := Lib.hid (rightSR ⟨mo, ki, wd, da, ti, re⟩)
  simp only [Sp.val] at RW
  generalize (decide (Sp.ok ⟨mo, ki, wd, da, ti, re⟩)) = rb at *
  have FW := Lib.hid (fun w => (h5 ▸ formatR fmt hf w : Calls Tryz.prog 95 #[.string fmt] w (SameV w (.bool true))))
  clear h5 hf
  go_enter Tryz.func65, Tryz.ntmps65
  go_wp2_with first
    | (go_at_call 95; refine (FW.out _).mono ?_; clear FW; rintro e w' ⟨rfl, rfl⟩)
    | (go_at_call 61; refine (RW.out _).mono ?_; clear RW; rintro e w2 ⟨rfl, k2⟩)
  go_ret
  exact ⟨rfl, ((Below.refl _ w).alloc (Nat.le_refl _) _).trans (k2.mono (by simp))⟩
theorem eraT0_3 (off kind save year mo ki wd da ti re : Int) (rules fmt : ByteArray) (til : Bool) (hr : rules.size ≤ maxLen) (hf : fmt.size ≤ maxLen) (w : World) (h1 : ¬ off ≤ -86400) (h2 : ¬ 86400 ≤ off) (h3 : ¬ 43200 < save) (h4 : ¬ save < -43200) (h5 : formatB fmt = true) (h8 : save = 0) (h9 : rules = ⟨#[]⟩) (hk : kind = 0) (ht : til = false) (hy : ¬ year = 0) :
    Calls Tryz.prog 65 #[.agg #[.int .i64 off, .int .i64 kind, .int .i64 save, .string rules, .string fmt, .bool til, .int .i64 year, .int .i64 mo, .int .i64 ki, .int .i64 wd, .int .i64 da, .int .i64 ti, .int .i64 re]] w (RetV w (.bool false)) := by
  subst hk h8 h9
  clear hr
  subst ht
  have y1 : (year == 0) = false := beq_eq_false_iff_ne.2 hy
  clear hy
  have FW := Lib.hid (fun w => (h5 ▸ formatR fmt hf w : Calls Tryz.prog 95 #[.string fmt] w (SameV w (.bool true))))
  clear h5 hf
  go_enter Tryz.func65, Tryz.ntmps65
  go_wp2_with first
    | (go_at_call 95; refine (FW.out _).mono ?_; clear FW; rintro e w' ⟨rfl, rfl⟩)
  go_ret
  exact ⟨rfl, (Below.refl _ w).alloc (Nat.le_refl _) _⟩
theorem eraT0_4 (off kind save year mo ki wd da ti re : Int) (rules fmt : ByteArray) (til : Bool) (hr : rules.size ≤ maxLen) (hf : fmt.size ≤ maxLen) (w : World) (h1 : ¬ off ≤ -86400) (h2 : ¬ 86400 ≤ off) (h3 : ¬ 43200 < save) (h4 : ¬ save < -43200) (h5 : formatB fmt = true) (h8 : save = 0) (h9 : rules = ⟨#[]⟩) (hk : kind = 0) (ht : til = false) (hy : year = 0) (hm : mo = 0 ∧ ki = 0 ∧ wd = 0 ∧ da = 0 ∧ ti = 0 ∧ re = 0) :
    Calls Tryz.prog 65 #[.agg #[.int .i64 off, .int .i64 kind, .int .i64 save, .string rules, .string fmt, .bool til, .int .i64 year, .int .i64 mo, .int .i64 ki, .int .i64 wd, .int .i64 da, .int .i64 ti, .int .i64 re]] w (RetV w (.bool true)) := by
  subst hk h8 h9
  clear hr
  obtain ⟨rfl, rfl, rfl, rfl, rfl, rfl⟩ := hm
  subst ht hy
  have FW := Lib.hid (fun w => (h5 ▸ formatR fmt hf w : Calls Tryz.prog 95 #[.string fmt] w (SameV w (.bool true))))
  clear h5 hf
  go_enter Tryz.func65, Tryz.ntmps65
  go_wp2_with first
    | (go_at_call 95; refine (FW.out _).mono ?_; clear FW; rintro e w' ⟨rfl, rfl⟩)
  go_ret
  exact ⟨rfl, (Below.refl _ w).alloc (Nat.le_refl _) _⟩
theorem eraT0_5 (off kind save year mo ki wd da ti re : Int) (rules fmt : ByteArray) (til : Bool) (hr : rules.size ≤ maxLen) (hf : fmt.size ≤ maxLen) (w : World) (h1 : ¬ off ≤ -86400) (h2 : ¬ 86400 ≤ off) (h3 : ¬ 43200 < save) (h4 : ¬ save < -43200) (h5 : formatB fmt = true) (h8 : save = 0) (h9 : rules = ⟨#[]⟩) (hk : kind = 0) (ht : til = false) (hy : year = 0) (hm : ¬ (mo = 0 ∧ ki = 0 ∧ wd = 0 ∧ da = 0 ∧ ti = 0 ∧ re = 0)) :
    Calls Tryz.prog 65 #[.agg #[.int .i64 off, .int .i64 kind, .int .i64 save, .string rules, .string fmt, .bool til, .int .i64 year, .int .i64 mo, .int .i64 ki, .int .i64 wd, .int .i64 da, .int .i64 ti, .int .i64 re]] w (RetV w (.bool false)) := by
  subst hk h8 h9
  clear hr
  subst ht hy
  have FW := Lib.hid (fun w => (h5 ▸ formatR fmt hf w : Calls Tryz.prog 95 #[.string fmt] w (SameV w (.bool true))))
  clear h5 hf
  go_enter Tryz.func65, Tryz.ntmps65
  go_wp2_with first
    | (go_at_call 95; refine (FW.out _).mono ?_; clear FW; rintro e w' ⟨rfl, rfl⟩)
  all_goals first
    | exact absurd ⟨rfl, rfl, rfl, rfl, rfl, rfl⟩ hm
    | (go_ret; exact ⟨rfl, (Below.refl _ w).alloc (Nat.le_refl _) _⟩)
theorem eraT1_0 (off kind save year mo ki wd da ti re : Int) (rules fmt : ByteArray) (til : Bool) (hr : rules.size ≤ maxLen) (hf : fmt.size ≤ maxLen) (w : World) (h1 : ¬ off ≤ -86400) (h2 : ¬ 86400 ≤ off) (h3 : ¬ 43200 < save) (h4 : ¬ save < -43200) (h5 : formatB fmt = true) (h9 : rules = ⟨#[]⟩) (hk : kind = 1) (ht : til = true) (hy : ¬ 1 ≤ year) :
    Calls Tryz.prog 65 #[.agg #[.int .i64 off, .int .i64 kind, .int .i64 save, .string rules, .string fmt, .bool til, .int .i64 year, .int .i64 mo, .int .i64 ki, .int .i64 wd, .int .i64 da, .int .i64 ti, .int .i64 re]] w (RetV w (.bool false)) := by
  subst hk h9
  clear hr
  subst ht
  have FW := Lib.hid (fun w => (h5 ▸ formatR fmt hf w : Calls Tryz.prog 95 #[.string fmt] w (SameV w (.bool true))))
  clear h5 hf
  go_enter Tryz.func65, Tryz.ntmps65
  go_wp2_with first
    | (go_at_call 95; refine (FW.out _).mono ?_; clear FW; rintro e w' ⟨rfl, rfl⟩)
  go_ret
  exact ⟨rfl, (Below.refl _ w).alloc (Nat.le_refl _) _⟩
theorem eraT1_1 (off kind save year mo ki wd da ti re : Int) (rules fmt : ByteArray) (til : Bool) (hr : rules.size ≤ maxLen) (hf : fmt.size ≤ maxLen) (w : World) (h1 : ¬ off ≤ -86400) (h2 : ¬ 86400 ≤ off) (h3 : ¬ 43200 < save) (h4 : ¬ save < -43200) (h5 : formatB fmt = true) (h9 : rules = ⟨#[]⟩) (hk : kind = 1) (ht : til = true) (hy : 1 ≤ year) (hz : ¬ year ≤ 9999) :
    Calls Tryz.prog 65 #[.agg #[.int .i64 off, .int .i64 kind, .int .i64 save, .string rules, .string fmt, .bool til, .int .i64 year, .int .i64 mo, .int .i64 ki, .int .i64 wd, .int .i64 da, .int .i64 ti, .int .i64 re]] w (RetV w (.bool false)) := by
  subst hk h9
  clear hr
  subst ht
  have FW := Lib.hid (fun w => (h5 ▸ formatR fmt hf w : Calls Tryz.prog 95 #[.string fmt] w (SameV w (.bool true))))
  clear h5 hf
  go_enter Tryz.func65, Tryz.ntmps65
  go_wp2_with first
    | (go_at_call 95; refine (FW.out _).mono ?_; clear FW; rintro e w' ⟨rfl, rfl⟩)
  go_ret
  exact ⟨rfl, (Below.refl _ w).alloc (Nat.le_refl _) _⟩
theorem eraT1_2 (off kind save year mo ki wd da ti re : Int) (rules fmt : ByteArray) (til : Bool) (hr : rules.size ≤ maxLen) (hf : fmt.size ≤ maxLen) (w : World) (h1 : ¬ off ≤ -86400) (h2 : ¬ 86400 ≤ off) (h3 : ¬ 43200 < save) (h4 : ¬ save < -43200) (h5 : formatB fmt = true) (h9 : rules = ⟨#[]⟩) (hk : kind = 1) (ht : til = true) (hy : 1 ≤ year) (hz : year ≤ 9999) :
    Calls Tryz.prog 65 #[.agg #[.int .i64 off, .int .i64 kind, .int .i64 save, .string rules, .string fmt, .bool til, .int .i64 year, .int .i64 mo, .int .i64 ki, .int .i64 wd, .int .i64 da, .int .i64 ti, .int .i64 re]] w (RetV w (.bool (decide (Sp.ok ⟨mo, ki, wd, da, ti, re⟩)))) := by
  subst hk h9
  clear hr
  subst ht
  have RW := Lib.hid (rightSR ⟨mo, ki, wd, da, ti, re⟩)
  simp only [Sp.val] at RW
  generalize (decide (Sp.ok ⟨mo, ki, wd, da, ti, re⟩)) = rb at *
  have FW := Lib.hid (fun w => (h5 ▸ formatR fmt hf w : Calls Tryz.prog 95 #[.string fmt] w (SameV w (.bool true))))
  clear h5 hf
  go_enter Tryz.func65, Tryz.ntmps65
  go_wp2_with first
    | (go_at_call 95; refine (FW.out _).mono ?_; clear FW; rintro e w' ⟨rfl, rfl⟩)
    | (go_at_call 61; refine (RW.out _).mono ?_; clear RW; rintro e w2 ⟨rfl, k2⟩)
  go_ret
  exact ⟨rfl, ((Below.refl _ w).alloc (Nat.le_refl _) _).trans (k2.mono (by simp))⟩
theorem eraT1_3 (off kind save year mo ki wd da ti re : Int) (rules fmt : ByteArray) (til : Bool) (hr : rules.size ≤ maxLen) (hf : fmt.size ≤ maxLen) (w : World) (h1 : ¬ off ≤ -86400) (h2 : ¬ 86400 ≤ off) (h3 : ¬ 43200 < save) (h4 : ¬ save < -43200) (h5 : formatB fmt = true) (h9 : rules = ⟨#[]⟩) (hk : kind = 1) (ht : til = false) (hy : ¬ year = 0) :
    Calls Tryz.prog 65 #[.agg #[.int .i64 off, .int .i64 kind, .int .i64 save, .string rules, .string fmt, .bool til, .int .i64 year, .int .i64 mo, .int .i64 ki, .int .i64 wd, .int .i64 da, .int .i64 ti, .int .i64 re]] w (RetV w (.bool false)) := by
  subst hk h9
  clear hr
  subst ht
  have y1 : (year == 0) = false := beq_eq_false_iff_ne.2 hy
  clear hy
  have FW := Lib.hid (fun w => (h5 ▸ formatR fmt hf w : Calls Tryz.prog 95 #[.string fmt] w (SameV w (.bool true))))
  clear h5 hf
  go_enter Tryz.func65, Tryz.ntmps65
  go_wp2_with first
    | (go_at_call 95; refine (FW.out _).mono ?_; clear FW; rintro e w' ⟨rfl, rfl⟩)
  go_ret
  exact ⟨rfl, (Below.refl _ w).alloc (Nat.le_refl _) _⟩
theorem eraT1_4 (off kind save year mo ki wd da ti re : Int) (rules fmt : ByteArray) (til : Bool) (hr : rules.size ≤ maxLen) (hf : fmt.size ≤ maxLen) (w : World) (h1 : ¬ off ≤ -86400) (h2 : ¬ 86400 ≤ off) (h3 : ¬ 43200 < save) (h4 : ¬ save < -43200) (h5 : formatB fmt = true) (h9 : rules = ⟨#[]⟩) (hk : kind = 1) (ht : til = false) (hy : year = 0) (hm : mo = 0 ∧ ki = 0 ∧ wd = 0 ∧ da = 0 ∧ ti = 0 ∧ re = 0) :
    Calls Tryz.prog 65 #[.agg #[.int .i64 off, .int .i64 kind, .int .i64 save, .string rules, .string fmt, .bool til, .int .i64 year, .int .i64 mo, .int .i64 ki, .int .i64 wd, .int .i64 da, .int .i64 ti, .int .i64 re]] w (RetV w (.bool true)) := by
  subst hk h9
  clear hr
  obtain ⟨rfl, rfl, rfl, rfl, rfl, rfl⟩ := hm
  subst ht hy
  have FW := Lib.hid (fun w => (h5 ▸ formatR fmt hf w : Calls Tryz.prog 95 #[.string fmt] w (SameV w (.bool true))))
  clear h5 hf
  go_enter Tryz.func65, Tryz.ntmps65
  go_wp2_with first
    | (go_at_call 95; refine (FW.out _).mono ?_; clear FW; rintro e w' ⟨rfl, rfl⟩)
  go_ret
  exact ⟨rfl, (Below.refl _ w).alloc (Nat.le_refl _) _⟩
theorem eraT1_5 (off kind save year mo ki wd da ti re : Int) (rules fmt : ByteArray) (til : Bool) (hr : rules.size ≤ maxLen) (hf : fmt.size ≤ maxLen) (w : World) (h1 : ¬ off ≤ -86400) (h2 : ¬ 86400 ≤ off) (h3 : ¬ 43200 < save) (h4 : ¬ save < -43200) (h5 : formatB fmt = true) (h9 : rules = ⟨#[]⟩) (hk : kind = 1) (ht : til = false) (hy : year = 0) (hm : ¬ (mo = 0 ∧ ki = 0 ∧ wd = 0 ∧ da = 0 ∧ ti = 0 ∧ re = 0)) :
    Calls Tryz.prog 65 #[.agg #[.int .i64 off, .int .i64 kind, .int .i64 save, .string rules, .string fmt, .bool til, .int .i64 year, .int .i64 mo, .int .i64 ki, .int .i64 wd, .int .i64 da, .int .i64 ti, .int .i64 re]] w (RetV w (.bool false)) := by
  subst hk h9
  clear hr
  subst ht hy
  have FW := Lib.hid (fun w => (h5 ▸ formatR fmt hf w : Calls Tryz.prog 95 #[.string fmt] w (SameV w (.bool true))))
  clear h5 hf
  go_enter Tryz.func65, Tryz.ntmps65
  go_wp2_with first
    | (go_at_call 95; refine (FW.out _).mono ?_; clear FW; rintro e w' ⟨rfl, rfl⟩)
  all_goals first
    | exact absurd ⟨rfl, rfl, rfl, rfl, rfl, rfl⟩ hm
    | (go_ret; exact ⟨rfl, (Below.refl _ w).alloc (Nat.le_refl _) _⟩)
theorem eraT2_0 (off kind save year mo ki wd da ti re : Int) (rules fmt : ByteArray) (til : Bool) (hr : rules.size ≤ maxLen) (hf : fmt.size ≤ maxLen) (w : World) (h1 : ¬ off ≤ -86400) (h2 : ¬ 86400 ≤ off) (h3 : ¬ 43200 < save) (h4 : ¬ save < -43200) (h5 : formatB fmt = true) (h8 : save = 0) (h10 : setB rules = true) (hk : kind = 2) (ht : til = true) (hy : ¬ 1 ≤ year) :
    Calls Tryz.prog 65 #[.agg #[.int .i64 off, .int .i64 kind, .int .i64 save, .string rules, .string fmt, .bool til, .int .i64 year, .int .i64 mo, .int .i64 ki, .int .i64 wd, .int .i64 da, .int .i64 ti, .int .i64 re]] w (RetV w (.bool false)) := by
  subst hk h8
  have SW := Lib.hid (fun w => (h10 ▸ setR rules hr w : Calls Tryz.prog 62 #[.string rules] w (SameV w (.bool true))))
  clear h10 hr
  subst ht
  have FW := Lib.hid (fun w => (h5 ▸ formatR fmt hf w : Calls Tryz.prog 95 #[.string fmt] w (SameV w (.bool true))))
  clear h5 hf
  go_enter Tryz.func65, Tryz.ntmps65
  go_wp2_with first
    | (go_at_call 95; refine (FW.out _).mono ?_; clear FW; rintro e w' ⟨rfl, rfl⟩)
    | (go_at_call 62; refine (SW.out _).mono ?_; clear SW; rintro e w' ⟨rfl, rfl⟩)
  go_ret
  exact ⟨rfl, (Below.refl _ w).alloc (Nat.le_refl _) _⟩
theorem eraT2_1 (off kind save year mo ki wd da ti re : Int) (rules fmt : ByteArray) (til : Bool) (hr : rules.size ≤ maxLen) (hf : fmt.size ≤ maxLen) (w : World) (h1 : ¬ off ≤ -86400) (h2 : ¬ 86400 ≤ off) (h3 : ¬ 43200 < save) (h4 : ¬ save < -43200) (h5 : formatB fmt = true) (h8 : save = 0) (h10 : setB rules = true) (hk : kind = 2) (ht : til = true) (hy : 1 ≤ year) (hz : ¬ year ≤ 9999) :
    Calls Tryz.prog 65 #[.agg #[.int .i64 off, .int .i64 kind, .int .i64 save, .string rules, .string fmt, .bool til, .int .i64 year, .int .i64 mo, .int .i64 ki, .int .i64 wd, .int .i64 da, .int .i64 ti, .int .i64 re]] w (RetV w (.bool false)) := by
  subst hk h8
  have SW := Lib.hid (fun w => (h10 ▸ setR rules hr w : Calls Tryz.prog 62 #[.string rules] w (SameV w (.bool true))))
  clear h10 hr
  subst ht
  have FW := Lib.hid (fun w => (h5 ▸ formatR fmt hf w : Calls Tryz.prog 95 #[.string fmt] w (SameV w (.bool true))))
  clear h5 hf
  go_enter Tryz.func65, Tryz.ntmps65
  go_wp2_with first
    | (go_at_call 95; refine (FW.out _).mono ?_; clear FW; rintro e w' ⟨rfl, rfl⟩)
    | (go_at_call 62; refine (SW.out _).mono ?_; clear SW; rintro e w' ⟨rfl, rfl⟩)
  go_ret
  exact ⟨rfl, (Below.refl _ w).alloc (Nat.le_refl _) _⟩
theorem eraT2_2 (off kind save year mo ki wd da ti re : Int) (rules fmt : ByteArray) (til : Bool) (hr : rules.size ≤ maxLen) (hf : fmt.size ≤ maxLen) (w : World) (h1 : ¬ off ≤ -86400) (h2 : ¬ 86400 ≤ off) (h3 : ¬ 43200 < save) (h4 : ¬ save < -43200) (h5 : formatB fmt = true) (h8 : save = 0) (h10 : setB rules = true) (hk : kind = 2) (ht : til = true) (hy : 1 ≤ year) (hz : year ≤ 9999) :
    Calls Tryz.prog 65 #[.agg #[.int .i64 off, .int .i64 kind, .int .i64 save, .string rules, .string fmt, .bool til, .int .i64 year, .int .i64 mo, .int .i64 ki, .int .i64 wd, .int .i64 da, .int .i64 ti, .int .i64 re]] w (RetV w (.bool (decide (Sp.ok ⟨mo, ki, wd, da, ti, re⟩)))) := by
  subst hk h8
  have SW := Lib.hid (fun w => (h10 ▸ setR rules hr w : Calls Tryz.prog 62 #[.string rules] w (SameV w (.bool true))))
  clear h10 hr
  subst ht
  have RW := Lib.hid (rightSR ⟨mo, ki, wd, da, ti, re⟩)
  simp only [Sp.val] at RW
  generalize (decide (Sp.ok ⟨mo, ki, wd, da, ti, re⟩)) = rb at *
  have FW := Lib.hid (fun w => (h5 ▸ formatR fmt hf w : Calls Tryz.prog 95 #[.string fmt] w (SameV w (.bool true))))
  clear h5 hf
  go_enter Tryz.func65, Tryz.ntmps65
  go_wp2_with first
    | (go_at_call 95; refine (FW.out _).mono ?_; clear FW; rintro e w' ⟨rfl, rfl⟩)
    | (go_at_call 62; refine (SW.out _).mono ?_; clear SW; rintro e w' ⟨rfl, rfl⟩)
    | (go_at_call 61; refine (RW.out _).mono ?_; clear RW; rintro e w2 ⟨rfl, k2⟩)
  go_ret
  exact ⟨rfl, ((Below.refl _ w).alloc (Nat.le_refl _) _).trans (k2.mono (by simp))⟩
theorem eraT2_3 (off kind save year mo ki wd da ti re : Int) (rules fmt : ByteArray) (til : Bool) (hr : rules.size ≤ maxLen) (hf : fmt.size ≤ maxLen) (w : World) (h1 : ¬ off ≤ -86400) (h2 : ¬ 86400 ≤ off) (h3 : ¬ 43200 < save) (h4 : ¬ save < -43200) (h5 : formatB fmt = true) (h8 : save = 0) (h10 : setB rules = true) (hk : kind = 2) (ht : til = false) (hy : ¬ year = 0) :
    Calls Tryz.prog 65 #[.agg #[.int .i64 off, .int .i64 kind, .int .i64 save, .string rules, .string fmt, .bool til, .int .i64 year, .int .i64 mo, .int .i64 ki, .int .i64 wd, .int .i64 da, .int .i64 ti, .int .i64 re]] w (RetV w (.bool false)) := by
  subst hk h8
  have SW := Lib.hid (fun w => (h10 ▸ setR rules hr w : Calls Tryz.prog 62 #[.string rules] w (SameV w (.bool true))))
  clear h10 hr
  subst ht
  have y1 : (year == 0) = false := beq_eq_false_iff_ne.2 hy
  clear hy
  have FW := Lib.hid (fun w => (h5 ▸ formatR fmt hf w : Calls Tryz.prog 95 #[.string fmt] w (SameV w (.bool true))))
  clear h5 hf
  go_enter Tryz.func65, Tryz.ntmps65
  go_wp2_with first
    | (go_at_call 95; refine (FW.out _).mono ?_; clear FW; rintro e w' ⟨rfl, rfl⟩)
    | (go_at_call 62; refine (SW.out _).mono ?_; clear SW; rintro e w' ⟨rfl, rfl⟩)
  go_ret
  exact ⟨rfl, (Below.refl _ w).alloc (Nat.le_refl _) _⟩
theorem eraT2_4 (off kind save year mo ki wd da ti re : Int) (rules fmt : ByteArray) (til : Bool) (hr : rules.size ≤ maxLen) (hf : fmt.size ≤ maxLen) (w : World) (h1 : ¬ off ≤ -86400) (h2 : ¬ 86400 ≤ off) (h3 : ¬ 43200 < save) (h4 : ¬ save < -43200) (h5 : formatB fmt = true) (h8 : save = 0) (h10 : setB rules = true) (hk : kind = 2) (ht : til = false) (hy : year = 0) (hm : mo = 0 ∧ ki = 0 ∧ wd = 0 ∧ da = 0 ∧ ti = 0 ∧ re = 0) :
    Calls Tryz.prog 65 #[.agg #[.int .i64 off, .int .i64 kind, .int .i64 save, .string rules, .string fmt, .bool til, .int .i64 year, .int .i64 mo, .int .i64 ki, .int .i64 wd, .int .i64 da, .int .i64 ti, .int .i64 re]] w (RetV w (.bool true)) := by
  subst hk h8
  have SW := Lib.hid (fun w => (h10 ▸ setR rules hr w : Calls Tryz.prog 62 #[.string rules] w (SameV w (.bool true))))
  clear h10 hr
  obtain ⟨rfl, rfl, rfl, rfl, rfl, rfl⟩ := hm
  subst ht hy
  have FW := Lib.hid (fun w => (h5 ▸ formatR fmt hf w : Calls Tryz.prog 95 #[.string fmt] w (SameV w (.bool true))))
  clear h5 hf
  go_enter Tryz.func65, Tryz.ntmps65
  go_wp2_with first
    | (go_at_call 95; refine (FW.out _).mono ?_; clear FW; rintro e w' ⟨rfl, rfl⟩)
    | (go_at_call 62; refine (SW.out _).mono ?_; clear SW; rintro e w' ⟨rfl, rfl⟩)
  go_ret
  exact ⟨rfl, (Below.refl _ w).alloc (Nat.le_refl _) _⟩
theorem eraT2_5 (off kind save year mo ki wd da ti re : Int) (rules fmt : ByteArray) (til : Bool) (hr : rules.size ≤ maxLen) (hf : fmt.size ≤ maxLen) (w : World) (h1 : ¬ off ≤ -86400) (h2 : ¬ 86400 ≤ off) (h3 : ¬ 43200 < save) (h4 : ¬ save < -43200) (h5 : formatB fmt = true) (h8 : save = 0) (h10 : setB rules = true) (hk : kind = 2) (ht : til = false) (hy : year = 0) (hm : ¬ (mo = 0 ∧ ki = 0 ∧ wd = 0 ∧ da = 0 ∧ ti = 0 ∧ re = 0)) :
    Calls Tryz.prog 65 #[.agg #[.int .i64 off, .int .i64 kind, .int .i64 save, .string rules, .string fmt, .bool til, .int .i64 year, .int .i64 mo, .int .i64 ki, .int .i64 wd, .int .i64 da, .int .i64 ti, .int .i64 re]] w (RetV w (.bool false)) := by
  subst hk h8
  have SW := Lib.hid (fun w => (h10 ▸ setR rules hr w : Calls Tryz.prog 62 #[.string rules] w (SameV w (.bool true))))
  clear h10 hr
  subst ht hy
  have FW := Lib.hid (fun w => (h5 ▸ formatR fmt hf w : Calls Tryz.prog 95 #[.string fmt] w (SameV w (.bool true))))
  clear h5 hf
  go_enter Tryz.func65, Tryz.ntmps65
  go_wp2_with first
    | (go_at_call 95; refine (FW.out _).mono ?_; clear FW; rintro e w' ⟨rfl, rfl⟩)
    | (go_at_call 62; refine (SW.out _).mono ?_; clear SW; rintro e w' ⟨rfl, rfl⟩)
  all_goals first
    | exact absurd ⟨rfl, rfl, rfl, rfl, rfl, rfl⟩ hm
    | (go_ret; exact ⟨rfl, (Below.refl _ w).alloc (Nat.le_refl _) _⟩)
end Go.Proofs.YtmhpnmlgfdomkaaGreatDoor
namespace Go.Proofs.YtmhpnmlgfdomkaaGreatDoor
open Go.RowKit
theorem eraOkR (x : Er) (hx : x.in64) (w : World) : Calls Tryz.prog 65 #[x.val] w (RetV w (.bool (@decide x.ok (Classical.propDecidable _)))) := by
  obtain ⟨off, kind, save, rules, fmt, til, year, ⟨mo, ki, wd, da, ti, re⟩⟩ := x
  obtain ⟨_, _, _, hr, hf, _, _⟩ := hx
  have no : ∀ {p : Prop}, ¬ p → @decide p (Classical.propDecidable _) = false := fun h => @decide_eq_false _ (Classical.propDecidable _) h
  have yes : ∀ {p : Prop}, p → @decide p (Classical.propDecidable _) = true := fun h => @decide_eq_true _ (Classical.propDecidable _) h
  show Calls _ _ #[.agg #[.int .i64 off, .int .i64 kind, .int .i64 save, .string rules, .string fmt, .bool til, .int .i64 year, .int .i64 mo, .int .i64 ki, .int .i64 wd, .int .i64 da, .int .i64 ti, .int .i64 re]] w _
  by_cases h1 : off ≤ -86400
  · rw [no (fun c : Er.ok _ => by have := c.1.1; simp only at this; omega)]; exact eraN0 off kind save year mo ki wd da ti re rules fmt til hr hf w h1
  by_cases h2 : 86400 ≤ off
  · rw [no (fun c : Er.ok _ => by have := c.1.2; simp only at this; omega)]; exact eraN1 off kind save year mo ki wd da ti re rules fmt til hr hf w h1 h2
  by_cases h3 : 43200 < save
  · rw [no (fun c : Er.ok _ => by have := c.2.1.2; simp only at this; omega)]; exact eraN2 off kind save year mo ki wd da ti re rules fmt til hr hf w h1 h2 h3
  by_cases h4 : save < -43200
  · rw [no (fun c : Er.ok _ => by have := c.2.1.1; simp only at this; omega)]; exact eraN3 off kind save year mo ki wd da ti re rules fmt til hr hf w h1 h2 h3 h4
  cases h5 : formatB fmt with
  | false => rw [no (fun c : Er.ok _ => by have := c.2.2.1; simp only at this; rw [h5] at this; cases this)]; exact eraN4 off kind save year mo ki wd da ti re rules fmt til hr hf w h1 h2 h3 h4 h5
  | true =>
    by_cases h6 : kind < 0
    · rw [no (fun c : Er.ok _ => by have := c.2.2.2.1.1; simp only at this; omega)]; exact eraN5 off kind save year mo ki wd da ti re rules fmt til hr hf w h1 h2 h3 h4 h5 h6
    by_cases h7 : 2 < kind
    · rw [no (fun c : Er.ok _ => by have := c.2.2.2.1.2; simp only at this; omega)]; exact eraN6 off kind save year mo ki wd da ti re rules fmt til hr hf w h1 h2 h3 h4 h5 h6 h7
    have fin : ∀ (good : (kind ≠ 1 → save = 0) ∧ (kind ≠ 2 → rules = ⟨#[]⟩) ∧ (kind = 2 → setB rules = true)), Er.ok ⟨off, kind, save, rules, fmt, til, year, ⟨mo, ki, wd, da, ti, re⟩⟩ ↔ (til = true → (1 ≤ year ∧ year ≤ 9999) ∧ Sp.ok ⟨mo, ki, wd, da, ti, re⟩) ∧ (til = false → year = 0 ∧ (⟨mo, ki, wd, da, ti, re⟩ : Sp) = .zero) := fun good =>
      ⟨fun c => ⟨c.2.2.2.2.2.2.2.1, c.2.2.2.2.2.2.2.2⟩, fun c => ⟨⟨by simp only; omega, by simp only; omega⟩, ⟨by simp only; omega, by simp only; omega⟩, h5, ⟨by simp only; omega, by simp only; omega⟩, good.1, good.2.1, good.2.2, c.1, c.2⟩⟩
    have zero : (⟨mo, ki, wd, da, ti, re⟩ : Sp) = .zero ↔ mo = 0 ∧ ki = 0 ∧ wd = 0 ∧ da = 0 ∧ ti = 0 ∧ re = 0 := by
      unfold Sp.zero
      constructor
      · intro h; cases h; exact ⟨rfl, rfl, rfl, rfl, rfl, rfl⟩
      · rintro ⟨rfl, rfl, rfl, rfl, rfl, rfl⟩; rfl
    have ways : ∀ (_ : (kind ≠ 1 → save = 0) ∧ (kind ≠ 2 → rules = ⟨#[]⟩) ∧ (kind = 2 → setB rules = true)),
        (til = true → ¬ 1 ≤ year → Calls Tryz.prog 65 #[.agg #[.int .i64 off, .int .i64 kind, .int .i64 save, .string rules, .string fmt, .bool til, .int .i64 year, .int .i64 mo, .int .i64 ki, .int .i64 wd, .int .i64 da, .int .i64 ti, .int .i64 re]] w (RetV w (.bool false))) →
        (til = true → 1 ≤ year → ¬ year ≤ 9999 → Calls Tryz.prog 65 #[.agg #[.int .i64 off, .int .i64 kind, .int .i64 save, .string rules, .string fmt, .bool til, .int .i64 year, .int .i64 mo, .int .i64 ki, .int .i64 wd, .int .i64 da, .int .i64 ti, .int .i64 re]] w (RetV w (.bool false))) →
        (til = true → 1 ≤ year → year ≤ 9999 → Calls Tryz.prog 65 #[.agg #[.int .i64 off, .int .i64 kind, .int .i64 save, .string rules, .string fmt, .bool til, .int .i64 year, .int .i64 mo, .int .i64 ki, .int .i64 wd, .int .i64 da, .int .i64 ti, .int .i64 re]] w (RetV w (.bool (decide (Sp.ok ⟨mo, ki, wd, da, ti, re⟩))))) →
        (til = false → ¬ year = 0 → Calls Tryz.prog 65 #[.agg #[.int .i64 off, .int .i64 kind, .int .i64 save, .string rules, .string fmt, .bool til, .int .i64 year, .int .i64 mo, .int .i64 ki, .int .i64 wd, .int .i64 da, .int .i64 ti, .int .i64 re]] w (RetV w (.bool false))) →
        (til = false → year = 0 → (mo = 0 ∧ ki = 0 ∧ wd = 0 ∧ da = 0 ∧ ti = 0 ∧ re = 0) → Calls Tryz.prog 65 #[.agg #[.int .i64 off, .int .i64 kind, .int .i64 save, .string rules, .string fmt, .bool til, .int .i64 year, .int .i64 mo, .int .i64 ki, .int .i64 wd, .int .i64 da, .int .i64 ti, .int .i64 re]] w (RetV w (.bool true))) →
        (til = false → year = 0 → ¬ (mo = 0 ∧ ki = 0 ∧ wd = 0 ∧ da = 0 ∧ ti = 0 ∧ re = 0) → Calls Tryz.prog 65 #[.agg #[.int .i64 off, .int .i64 kind, .int .i64 save, .string rules, .string fmt, .bool til, .int .i64 year, .int .i64 mo, .int .i64 ki, .int .i64 wd, .int .i64 da, .int .i64 ti, .int .i64 re]] w (RetV w (.bool false))) →
        Calls Tryz.prog 65 #[.agg #[.int .i64 off, .int .i64 kind, .int .i64 save, .string rules, .string fmt, .bool til, .int .i64 year, .int .i64 mo, .int .i64 ki, .int .i64 wd, .int .i64 da, .int .i64 ti, .int .i64 re]] w (RetV w (.bool (@decide (Er.ok ⟨off, kind, save, rules, fmt, til, year, ⟨mo, ki, wd, da, ti, re⟩⟩) (Classical.propDecidable _)))) := by
      intro good a b c d e f
      have fi := fin good
      cases til with
      | true =>
        by_cases y1 : 1 ≤ year
        · by_cases y2 : year ≤ 9999
          · have := c rfl y1 y2
            by_cases ok : Sp.ok ⟨mo, ki, wd, da, ti, re⟩
            · rw [yes (fi.2 ⟨fun _ => ⟨⟨y1, y2⟩, ok⟩, fun h => by cases h⟩)]; rw [decide_eq_true ok] at this; exact this
            · rw [no (fun h => ok ((fi.1 h).1 rfl).2)]; rw [decide_eq_false ok] at this; exact this
          · rw [no (fun h => y2 ((fi.1 h).1 rfl).1.2)]; exact b rfl y1 y2
        · rw [no (fun h => y1 ((fi.1 h).1 rfl).1.1)]; exact a rfl y1
      | false =>
        by_cases y0 : year = 0
        · by_cases z : mo = 0 ∧ ki = 0 ∧ wd = 0 ∧ da = 0 ∧ ti = 0 ∧ re = 0
          · rw [yes (fi.2 ⟨fun h => (by cases h), fun _ => ⟨y0, zero.2 z⟩⟩)]; exact e rfl y0 z
          · rw [no (fun h => z (zero.1 ((fi.1 h).2 rfl).2))]; exact f rfl y0 z
        · rw [no (fun h => y0 ((fi.1 h).2 rfl).1)]; exact d rfl y0
    by_cases k0 : kind = 0
    · by_cases h8 : save = 0
      · by_cases h9 : rules = ⟨#[]⟩
        · exact ways ⟨fun _ => h8, fun _ => h9, fun h => by omega⟩ (fun t => eraT0_0 off kind save year mo ki wd da ti re rules fmt til hr hf w h1 h2 h3 h4 h5 h8 h9 k0 t) (fun t => eraT0_1 off kind save year mo ki wd da ti re rules fmt til hr hf w h1 h2 h3 h4 h5 h8 h9 k0 t) (fun t => eraT0_2 off kind save year mo ki wd da ti re rules fmt til hr hf w h1 h2 h3 h4 h5 h8 h9 k0 t) (fun t => eraT0_3 off kind save year mo ki wd da ti re rules fmt til hr hf w h1 h2 h3 h4 h5 h8 h9 k0 t) (fun t => eraT0_4 off kind save year mo ki wd da ti re rules fmt til hr hf w h1 h2 h3 h4 h5 h8 h9 k0 t) (fun t => eraT0_5 off kind save year mo ki wd da ti re rules fmt til hr hf w h1 h2 h3 h4 h5 h8 h9 k0 t)
        · rw [no (fun c : Er.ok _ => h9 (c.2.2.2.2.2.1 (by simp only; omega)))]; exact eraN8 off kind save year mo ki wd da ti re rules fmt til hr hf w h1 h2 h3 h4 h5 h8 h9 k0
      · rw [no (fun c : Er.ok _ => h8 (c.2.2.2.2.1 (by simp only; omega)))]; exact eraN7 off kind save year mo ki wd da ti re rules fmt til hr hf w h1 h2 h3 h4 h5 h8 k0
    by_cases k1 : kind = 1
    · by_cases h9 : rules = ⟨#[]⟩
      · exact ways ⟨fun h => absurd k1 h, fun _ => h9, fun h => by omega⟩ (fun t => eraT1_0 off kind save year mo ki wd da ti re rules fmt til hr hf w h1 h2 h3 h4 h5 h9 k1 t) (fun t => eraT1_1 off kind save year mo ki wd da ti re rules fmt til hr hf w h1 h2 h3 h4 h5 h9 k1 t) (fun t => eraT1_2 off kind save year mo ki wd da ti re rules fmt til hr hf w h1 h2 h3 h4 h5 h9 k1 t) (fun t => eraT1_3 off kind save year mo ki wd da ti re rules fmt til hr hf w h1 h2 h3 h4 h5 h9 k1 t) (fun t => eraT1_4 off kind save year mo ki wd da ti re rules fmt til hr hf w h1 h2 h3 h4 h5 h9 k1 t) (fun t => eraT1_5 off kind save year mo ki wd da ti re rules fmt til hr hf w h1 h2 h3 h4 h5 h9 k1 t)
      · rw [no (fun c : Er.ok _ => h9 (c.2.2.2.2.2.1 (by simp only; omega)))]; exact eraN9 off kind save year mo ki wd da ti re rules fmt til hr hf w h1 h2 h3 h4 h5 h9 k1
    have k2 : kind = 2 := by omega
    by_cases h8 : save = 0
    · cases h10 : setB rules with
      | true => exact ways ⟨fun _ => h8, fun h => absurd k2 h, fun _ => h10⟩ (fun t => eraT2_0 off kind save year mo ki wd da ti re rules fmt til hr hf w h1 h2 h3 h4 h5 h8 h10 k2 t) (fun t => eraT2_1 off kind save year mo ki wd da ti re rules fmt til hr hf w h1 h2 h3 h4 h5 h8 h10 k2 t) (fun t => eraT2_2 off kind save year mo ki wd da ti re rules fmt til hr hf w h1 h2 h3 h4 h5 h8 h10 k2 t) (fun t => eraT2_3 off kind save year mo ki wd da ti re rules fmt til hr hf w h1 h2 h3 h4 h5 h8 h10 k2 t) (fun t => eraT2_4 off kind save year mo ki wd da ti re rules fmt til hr hf w h1 h2 h3 h4 h5 h8 h10 k2 t) (fun t => eraT2_5 off kind save year mo ki wd da ti re rules fmt til hr hf w h1 h2 h3 h4 h5 h8 h10 k2 t)
      | false => rw [no (fun c : Er.ok _ => by have := c.2.2.2.2.2.2.1 k2; simp only at this; rw [h10] at this; cases this)]; exact eraN11 off kind save year mo ki wd da ti re rules fmt til hr hf w h1 h2 h3 h4 h5 h8 h10 k2
    · rw [no (fun c : Er.ok _ => h8 (c.2.2.2.2.1 (by simp only; omega)))]; exact eraN10 off kind save year mo ki wd da ti re rules fmt til hr hf w h1 h2 h3 h4 h5 h8 k2
set_option linter.unusedVariables false
theorem tilOk_at : ∀ {l : List Er}, tilOk l → ∀ (t : Nat) (x : Er), l[t]? = some x → x.til = !decide (t + 1 = l.length)
  | [], h, _, _, _ => h.elim
  | [y], h, t, x, e => by
    obtain rfl : t = 0 := by
      have := (List.getElem?_eq_some_iff.1 e).1
      simp at this; omega
    cases e
    exact h
  | y :: z :: r, h, t, x, e => by
    cases t with
    | zero => cases e; rw [h.1]; simp
    | succ t =>
      rw [tilOk_at h.2 t x e]
      simp
theorem tilOk_of : ∀ {l : List Er}, l ≠ [] → (∀ (t : Nat) (x : Er), l[t]? = some x → x.til = !decide (t + 1 = l.length)) → tilOk l
  | [], h, _ => absurd rfl h
  | [y], _, h => h 0 y rfl
  | y :: z :: r, _, h => ⟨by rw [h 0 y rfl]; simp, tilOk_of (by simp) (fun t x e => by rw [h (t + 1) x e]; simp)⟩
theorem bounded_of (bb : Bool) (S : Sr) (NO : Hid (¬ S.ok → bb = false)) (YES : Hid (S.ok → bb = true)) (hx : Hid S.in64) (r z l : Hd) (ze : List Ze) (w : World) (ha : SrcV w S r z l ze) :
    Calls Tryz.prog 37 #[.agg #[r.val, z.val, l.val]] w (RetV w (.bool bb)) := by
  obtain ⟨A, n, c⟩ := r
  obtain ⟨B, m, d⟩ := z
  obtain ⟨C, q, e⟩ := l
  have lr : S.rules.length = n := by have := ha.rules.len; simpa using this
  have lz : S.zones.length = m := by rw [← ha.all]; have := ha.zones.len; simpa using this
  have ll : S.links.length = q := by have := ha.links.len; simpa using this
  simp only [Hd.val]
  by_cases h1 : 200 < n
  · have := NO.out (fun c => by have := c.1; omega)
    subst this
    clear ha NO YES hx
    go_enter Tryz.func37, Tryz.ntmps37
    go_wp2
    go_ret
    exact ⟨rfl, (Below.refl _ w).alloc (Nat.le_refl _) _⟩
  by_cases h2 : 50 < m
  · have := NO.out (fun c => by have := c.2.1; omega)
    subst this
    clear ha NO YES hx
    go_enter Tryz.func37, Tryz.ntmps37
    go_wp2
    go_ret
    exact ⟨rfl, (Below.refl _ w).alloc (Nat.le_refl _) _⟩
  by_cases h3 : 100 < q
  · have := NO.out (fun c => by have := c.2.2.1; omega)
    subst this
    clear ha NO YES hx
    go_enter Tryz.func37, Tryz.ntmps37
    go_wp2
    go_ret
    exact ⟨rfl, (Below.refl _ w).alloc (Nat.le_refl _) _⟩
  go_enter Tryz.func37, Tryz.ntmps37
  go_wp2
  generalize hW : w.alloc (.cells #[.slice A n c, .slice B m d, .slice C q e] 26) = W0
  have hB0 : Below w.heap.size w W0 := by rw [← hW]; exact (Below.refl _ w).alloc (Nat.le_refl _) _
  have P := Lib.hid (show W0.cell? ⟨w.heap.size, 0, none⟩ = some (.slice A n c) ∧ W0.cell? ⟨w.heap.size, 1, none⟩ = some (.slice B m d) ∧ W0.cell? ⟨w.heap.size, 2, none⟩ = some (.slice C q e) from by rw [← hW]; simp)
  have s0 : W0.heap.size = w.heap.size + 1 := by rw [← hW]; simp
  have HA := Lib.hid (ha.below hB0)
  clear ha hW
  go_loopw [3, 4] (fun v a wr => ∃ k : Nat, k ≤ n ∧ v = .int .i64 k ∧ (∀ j x, j < k → S.rules[j]? = some x → x.ok) ∧ Below W0.heap.size W0 wr) (fun v _ _ => n - (intOf v).toNat)
  case atStart => exact ⟨0, by omega, rfl, fun j x h => absurd h (by omega), Below.refl _ _⟩
  case round =>
    obtain ⟨k, hk, rfl, hR, hbel⟩ := hrel
    have HR := Lib.hid hR
    clear hR
    have p0 := (hbel.cell (p := ⟨w.heap.size, 0, none⟩) (by show w.heap.size < _; omega)).trans P.out.1
    by_cases h4 : k < n
    · obtain ⟨x, hxx⟩ : ∃ x, S.rules[k]? = some x := ⟨_, List.getElem?_eq_getElem (by omega)⟩
      obtain ⟨g, o, ea, hg, ca⟩ := (HA.out.rules.below hbel).cells (by show 0 < n; omega)
      replace ea : A = some ⟨g, o, none⟩ := ea
      subst ea
      have STEP := Lib.hid (show x.ok → ∀ j y, j < k + 1 → S.rules[j]? = some y → y.ok from fun ok j y hj hy => by
        by_cases e : j = k
        · subst e; rw [hxx] at hy; cases hy; exact ok
        · exact HR.out j y (by omega) hy)
      have BAD := Lib.hid (show ¬ x.ok → bb = false from fun no => NO.out (fun ok => no (ok.2.2.2.1 x (List.mem_of_getElem? hxx))))
      have I := Lib.hid (hx.out.1 x (List.mem_of_getElem? hxx))
      have ra := row_at ca (show (S.rules.map Rl.vals)[k]? = some x.vals by rw [List.getElem?_map, hxx]; rfl)
      obtain ⟨nm, fr, last, ⟨mo, ki, wd, da, ti, re⟩, save, le⟩ := x
      have x0 : wr.cell? ⟨g, o + k * 11, none⟩ = some (.string nm) := ra 0 _ rfl
      have x1 : wr.cell? ⟨g, o + k * 11 + 1, none⟩ = some (.int .i64 fr) := ra 1 _ rfl
      have x2 : wr.cell? ⟨g, o + k * 11 + 2, none⟩ = some (.int .i64 last) := ra 2 _ rfl
      have x3 : wr.cell? ⟨g, o + k * 11 + 3, none⟩ = some (.int .i64 mo) := ra 3 _ rfl
      have x4 : wr.cell? ⟨g, o + k * 11 + 4, none⟩ = some (.int .i64 ki) := ra 4 _ rfl
      have x5 : wr.cell? ⟨g, o + k * 11 + 5, none⟩ = some (.int .i64 wd) := ra 5 _ rfl
      have x6 : wr.cell? ⟨g, o + k * 11 + 6, none⟩ = some (.int .i64 da) := ra 6 _ rfl
      have x7 : wr.cell? ⟨g, o + k * 11 + 7, none⟩ = some (.int .i64 ti) := ra 7 _ rfl
      have x8 : wr.cell? ⟨g, o + k * 11 + 8, none⟩ = some (.int .i64 re) := ra 8 _ rfl
      have x9 : wr.cell? ⟨g, o + k * 11 + 9, none⟩ = some (.int .i64 save) := ra 9 _ rfl
      have x10 : wr.cell? ⟨g, o + k * 11 + 10, none⟩ = some (.string le) := ra 10 _ rfl
      clear ca ra hxx
      go_upto_region 7 with (fail)
      have kb : Below W0.heap.size W0 (wr.alloc (.cells #[.string nm, .int .i64 fr, .int .i64 last, .int .i64 mo, .int .i64 ki, .int .i64 wd, .int .i64 da, .int .i64 ti, .int .i64 re, .int .i64 save, .string le] 36)) := hbel.alloc hbel.size _
      have lb : wr.heap.size < (wr.alloc (.cells #[.string nm, .int .i64 fr, .int .i64 last, .int .i64 mo, .int .i64 ki, .int .i64 wd, .int .i64 da, .int .i64 ti, .int .i64 re, .int .i64 save, .string le] 36)).heap.size := by simp
      have y0 : (wr.alloc (.cells #[.string nm, .int .i64 fr, .int .i64 last, .int .i64 mo, .int .i64 ki, .int .i64 wd, .int .i64 da, .int .i64 ti, .int .i64 re, .int .i64 save, .string le] 36)).cell? ⟨wr.heap.size, 0, none⟩ = some (.string nm) := by simp
      have y1 : (wr.alloc (.cells #[.string nm, .int .i64 fr, .int .i64 last, .int .i64 mo, .int .i64 ki, .int .i64 wd, .int .i64 da, .int .i64 ti, .int .i64 re, .int .i64 save, .string le] 36)).cell? ⟨wr.heap.size, 1, none⟩ = some (.int .i64 fr) := by simp
      have y2 : (wr.alloc (.cells #[.string nm, .int .i64 fr, .int .i64 last, .int .i64 mo, .int .i64 ki, .int .i64 wd, .int .i64 da, .int .i64 ti, .int .i64 re, .int .i64 save, .string le] 36)).cell? ⟨wr.heap.size, 2, none⟩ = some (.int .i64 last) := by simp
      have y3 : (wr.alloc (.cells #[.string nm, .int .i64 fr, .int .i64 last, .int .i64 mo, .int .i64 ki, .int .i64 wd, .int .i64 da, .int .i64 ti, .int .i64 re, .int .i64 save, .string le] 36)).cell? ⟨wr.heap.size, 3, none⟩ = some (.int .i64 mo) := by simp
      have y4 : (wr.alloc (.cells #[.string nm, .int .i64 fr, .int .i64 last, .int .i64 mo, .int .i64 ki, .int .i64 wd, .int .i64 da, .int .i64 ti, .int .i64 re, .int .i64 save, .string le] 36)).cell? ⟨wr.heap.size, 4, none⟩ = some (.int .i64 ki) := by simp
      have y5 : (wr.alloc (.cells #[.string nm, .int .i64 fr, .int .i64 last, .int .i64 mo, .int .i64 ki, .int .i64 wd, .int .i64 da, .int .i64 ti, .int .i64 re, .int .i64 save, .string le] 36)).cell? ⟨wr.heap.size, 5, none⟩ = some (.int .i64 wd) := by simp
      have y6 : (wr.alloc (.cells #[.string nm, .int .i64 fr, .int .i64 last, .int .i64 mo, .int .i64 ki, .int .i64 wd, .int .i64 da, .int .i64 ti, .int .i64 re, .int .i64 save, .string le] 36)).cell? ⟨wr.heap.size, 6, none⟩ = some (.int .i64 da) := by simp
      have y7 : (wr.alloc (.cells #[.string nm, .int .i64 fr, .int .i64 last, .int .i64 mo, .int .i64 ki, .int .i64 wd, .int .i64 da, .int .i64 ti, .int .i64 re, .int .i64 save, .string le] 36)).cell? ⟨wr.heap.size, 7, none⟩ = some (.int .i64 ti) := by simp
      have y8 : (wr.alloc (.cells #[.string nm, .int .i64 fr, .int .i64 last, .int .i64 mo, .int .i64 ki, .int .i64 wd, .int .i64 da, .int .i64 ti, .int .i64 re, .int .i64 save, .string le] 36)).cell? ⟨wr.heap.size, 8, none⟩ = some (.int .i64 re) := by simp
      have y9 : (wr.alloc (.cells #[.string nm, .int .i64 fr, .int .i64 last, .int .i64 mo, .int .i64 ki, .int .i64 wd, .int .i64 da, .int .i64 ti, .int .i64 re, .int .i64 save, .string le] 36)).cell? ⟨wr.heap.size, 9, none⟩ = some (.int .i64 save) := by simp
      have y10 : (wr.alloc (.cells #[.string nm, .int .i64 fr, .int .i64 last, .int .i64 mo, .int .i64 ki, .int .i64 wd, .int .i64 da, .int .i64 ti, .int .i64 re, .int .i64 save, .string le] 36)).cell? ⟨wr.heap.size, 10, none⟩ = some (.string le) := by simp
      clear x0 x1 x2 x3 x4 x5 x6 x7 x8 x9 x10 p0 hg
      generalize (wr.alloc (.cells #[.string nm, .int .i64 fr, .int .i64 last, .int .i64 mo, .int .i64 ki, .int .i64 wd, .int .i64 da, .int .i64 ti, .int .i64 re, .int .i64 save, .string le] 36)) = w1 at *
      clear hbel
      generalize wr.heap.size = b at *
      clear wr
      by_cases f1 : fr < 1
      · have := BAD.out (fun c => by have := c.1.1; simp only at this; omega)
        subst this
        go_wp2_with first
          | (go_at_call 61; refine (RW.out _).mono ?_; rintro e' w2 ⟨rfl, k2⟩; have z0 := (k2.cell (p := ⟨b, 0, none⟩) lb).trans y0; have z9 := (k2.cell (p := ⟨b, 9, none⟩) lb).trans y9; have z10 := (k2.cell (p := ⟨b, 10, none⟩) lb).trans y10; clear y0 y1 y2 y3 y4 y5 y6 y7 y8 y9 y10)
          | (go_at_call 62; refine (SW.out _).mono ?_; rintro e' w' ⟨rfl, rfl⟩)
          | (go_at_call 63; refine (LW.out _).mono ?_; rintro e' w' ⟨rfl, rfl⟩)
        go_ret
        exact ⟨rfl, hB0.trans (kb.mono hB0.size)⟩
      by_cases f2 : 9999 < fr
      · have := BAD.out (fun c => by have := c.1.2; simp only at this; omega)
        subst this
        go_wp2_with first
          | (go_at_call 61; refine (RW.out _).mono ?_; rintro e' w2 ⟨rfl, k2⟩; have z0 := (k2.cell (p := ⟨b, 0, none⟩) lb).trans y0; have z9 := (k2.cell (p := ⟨b, 9, none⟩) lb).trans y9; have z10 := (k2.cell (p := ⟨b, 10, none⟩) lb).trans y10; clear y0 y1 y2 y3 y4 y5 y6 y7 y8 y9 y10)
          | (go_at_call 62; refine (SW.out _).mono ?_; rintro e' w' ⟨rfl, rfl⟩)
          | (go_at_call 63; refine (LW.out _).mono ?_; rintro e' w' ⟨rfl, rfl⟩)
        go_ret
        exact ⟨rfl, hB0.trans (kb.mono hB0.size)⟩
      by_cases f3 : last < 1
      · have := BAD.out (fun c => by have := c.2.1.1; simp only at this; omega)
        subst this
        go_wp2_with first
          | (go_at_call 61; refine (RW.out _).mono ?_; rintro e' w2 ⟨rfl, k2⟩; have z0 := (k2.cell (p := ⟨b, 0, none⟩) lb).trans y0; have z9 := (k2.cell (p := ⟨b, 9, none⟩) lb).trans y9; have z10 := (k2.cell (p := ⟨b, 10, none⟩) lb).trans y10; clear y0 y1 y2 y3 y4 y5 y6 y7 y8 y9 y10)
          | (go_at_call 62; refine (SW.out _).mono ?_; rintro e' w' ⟨rfl, rfl⟩)
          | (go_at_call 63; refine (LW.out _).mono ?_; rintro e' w' ⟨rfl, rfl⟩)
        go_ret
        exact ⟨rfl, hB0.trans (kb.mono hB0.size)⟩
      by_cases f4 : 9999 < last
      · by_cases f5 : last = 1000000
        · have f6 : (last != 1000000) = false := bne_eq_false_iff_eq.2 f5
          by_cases g1 : Sp.ok ⟨mo, ki, wd, da, ti, re⟩
          · have RW := Lib.hid (show ∀ W, Calls Tryz.prog 61 #[.agg #[.int .i64 mo, .int .i64 ki, .int .i64 wd, .int .i64 da, .int .i64 ti, .int .i64 re]] W (RetV W (.bool true)) from fun W => decide_eq_true g1 ▸ rightSR ⟨mo, ki, wd, da, ti, re⟩ W)
            by_cases g2 : 43200 < save
            · have := BAD.out (fun c => by have := c.2.2.2.1.2; simp only at this; omega)
              subst this
              go_wp2_with first
                | (go_at_call 61; refine (RW.out _).mono ?_; rintro e' w2 ⟨rfl, k2⟩; have z0 := (k2.cell (p := ⟨b, 0, none⟩) lb).trans y0; have z9 := (k2.cell (p := ⟨b, 9, none⟩) lb).trans y9; have z10 := (k2.cell (p := ⟨b, 10, none⟩) lb).trans y10; clear y0 y1 y2 y3 y4 y5 y6 y7 y8 y9 y10)
                | (go_at_call 62; refine (SW.out _).mono ?_; rintro e' w' ⟨rfl, rfl⟩)
                | (go_at_call 63; refine (LW.out _).mono ?_; rintro e' w' ⟨rfl, rfl⟩)
              go_ret
              exact ⟨rfl, hB0.trans ((kb.trans (k2.mono kb.size)).mono hB0.size)⟩
            by_cases g3 : save < -43200
            · have := BAD.out (fun c => by have := c.2.2.2.1.1; simp only at this; omega)
              subst this
              go_wp2_with first
                | (go_at_call 61; refine (RW.out _).mono ?_; rintro e' w2 ⟨rfl, k2⟩; have z0 := (k2.cell (p := ⟨b, 0, none⟩) lb).trans y0; have z9 := (k2.cell (p := ⟨b, 9, none⟩) lb).trans y9; have z10 := (k2.cell (p := ⟨b, 10, none⟩) lb).trans y10; clear y0 y1 y2 y3 y4 y5 y6 y7 y8 y9 y10)
                | (go_at_call 62; refine (SW.out _).mono ?_; rintro e' w' ⟨rfl, rfl⟩)
                | (go_at_call 63; refine (LW.out _).mono ?_; rintro e' w' ⟨rfl, rfl⟩)
              go_ret
              exact ⟨rfl, hB0.trans ((kb.trans (k2.mono kb.size)).mono hB0.size)⟩
            have SW0 := fun W => setR nm I.out.1 W
            cases g4 : setB nm with
            | false =>
              have SW := Lib.hid (show ∀ W, Calls Tryz.prog 62 #[.string nm] W (SameV W (.bool false)) from fun W => g4 ▸ SW0 W)
              clear SW0
              have := BAD.out (fun c => by have := c.2.2.2.2.1; simp only at this; rw [g4] at this; cases this)
              subst this
              go_wp2_with first
                | (go_at_call 61; refine (RW.out _).mono ?_; rintro e' w2 ⟨rfl, k2⟩; have z0 := (k2.cell (p := ⟨b, 0, none⟩) lb).trans y0; have z9 := (k2.cell (p := ⟨b, 9, none⟩) lb).trans y9; have z10 := (k2.cell (p := ⟨b, 10, none⟩) lb).trans y10; clear y0 y1 y2 y3 y4 y5 y6 y7 y8 y9 y10)
                | (go_at_call 62; refine (SW.out _).mono ?_; rintro e' w' ⟨rfl, rfl⟩)
                | (go_at_call 63; refine (LW.out _).mono ?_; rintro e' w' ⟨rfl, rfl⟩)
              go_ret
              exact ⟨rfl, hB0.trans ((kb.trans (k2.mono kb.size)).mono hB0.size)⟩
            | true =>
              have SW := Lib.hid (show ∀ W, Calls Tryz.prog 62 #[.string nm] W (SameV W (.bool true)) from fun W => g4 ▸ SW0 W)
              clear SW0
              by_cases g5 : le = dashT
              · have et : le.toList = [45] := by rw [g5, ByteArray.toList_eq]; rfl
                have eb : (le.toList == [45]) = true := by rw [et]; rfl
                have BAD2 := BAD.out (fun c => c.2.2.2.2.2.1 g5)
                clear g5 BAD
                subst BAD2
                go_wp2_with first
                  | (go_at_call 61; refine (RW.out _).mono ?_; rintro e' w2 ⟨rfl, k2⟩; have z0 := (k2.cell (p := ⟨b, 0, none⟩) lb).trans y0; have z9 := (k2.cell (p := ⟨b, 9, none⟩) lb).trans y9; have z10 := (k2.cell (p := ⟨b, 10, none⟩) lb).trans y10; clear y0 y1 y2 y3 y4 y5 y6 y7 y8 y9 y10)
                  | (go_at_call 62; refine (SW.out _).mono ?_; rintro e' w' ⟨rfl, rfl⟩)
                  | (go_at_call 63; refine (LW.out _).mono ?_; rintro e' w' ⟨rfl, rfl⟩)
                go_ret
                exact ⟨rfl, hB0.trans ((kb.trans (k2.mono kb.size)).mono hB0.size)⟩
              have eb : (le.toList == [45]) = false := by
                rw [beq_eq_false_iff_ne]
                intro c
                apply g5
                have : le.data.toList = [45] := by rw [← c]; exact (ByteArray.toList_eq le).symm
                apply ByteArray.ext
                exact Array.toList_inj.1 this
              by_cases g6 : le = ⟨#[]⟩
              · have OK := Lib.hid (show Rl.ok ⟨nm, fr, last, ⟨mo, ki, wd, da, ti, re⟩, save, le⟩ from ⟨⟨by simp only; omega, by simp only; omega⟩, ⟨by simp only; omega, .inr f5⟩, g1, ⟨by simp only; omega, by simp only; omega⟩, g4, g5, .inl g6⟩)
                have ne2 : le.toList = [] := by rw [g6, ByteArray.toList_eq]
                have ne : le.toList.isEmpty = true := List.isEmpty_iff.2 ne2
                clear g6
                go_wp2_with first
                  | (go_at_call 61; refine (RW.out _).mono ?_; rintro e' w2 ⟨rfl, k2⟩; have z0 := (k2.cell (p := ⟨b, 0, none⟩) lb).trans y0; have z9 := (k2.cell (p := ⟨b, 9, none⟩) lb).trans y9; have z10 := (k2.cell (p := ⟨b, 10, none⟩) lb).trans y10; clear y0 y1 y2 y3 y4 y5 y6 y7 y8 y9 y10)
                  | (go_at_call 62; refine (SW.out _).mono ?_; rintro e' w' ⟨rfl, rfl⟩)
                  | (go_at_call 63; refine (LW.out _).mono ?_; rintro e' w' ⟨rfl, rfl⟩)
                go_roundw
                case rel => exact ⟨k + 1, by omega, int_is (by omega), STEP.out OK.out, kb.trans (k2.mono kb.size)⟩
                case measure => simp only [intOf]; omega
              have ne2 := ne_toListE g6
              have ne : le.toList.isEmpty = false := List.isEmpty_eq_false_iff.2 ne2
              have LW0 := fun W => lettersR le I.out.2.2.2.2.2 W
              cases g7 : lettersB le with
              | false =>
                have LW := Lib.hid (show ∀ W, Calls Tryz.prog 63 #[.string le] W (SameV W (.bool false)) from fun W => g7 ▸ LW0 W)
                clear LW0
                have := BAD.out (fun c => by
                  rcases c.2.2.2.2.2.2 with h | h
                  · exact g6 h
                  · simp only at h; rw [g7] at h; cases h)
                subst this
                go_wp2_with first
                  | (go_at_call 61; refine (RW.out _).mono ?_; rintro e' w2 ⟨rfl, k2⟩; have z0 := (k2.cell (p := ⟨b, 0, none⟩) lb).trans y0; have z9 := (k2.cell (p := ⟨b, 9, none⟩) lb).trans y9; have z10 := (k2.cell (p := ⟨b, 10, none⟩) lb).trans y10; clear y0 y1 y2 y3 y4 y5 y6 y7 y8 y9 y10)
                  | (go_at_call 62; refine (SW.out _).mono ?_; rintro e' w' ⟨rfl, rfl⟩)
                  | (go_at_call 63; refine (LW.out _).mono ?_; rintro e' w' ⟨rfl, rfl⟩)
                go_ret
                exact ⟨rfl, hB0.trans ((kb.trans (k2.mono kb.size)).mono hB0.size)⟩
              | true =>
                have OK := Lib.hid (show Rl.ok ⟨nm, fr, last, ⟨mo, ki, wd, da, ti, re⟩, save, le⟩ from ⟨⟨by simp only; omega, by simp only; omega⟩, ⟨by simp only; omega, .inr f5⟩, g1, ⟨by simp only; omega, by simp only; omega⟩, g4, g5, .inr g7⟩)
                have LW := Lib.hid (show ∀ W, Calls Tryz.prog 63 #[.string le] W (SameV W (.bool true)) from fun W => g7 ▸ LW0 W)
                clear LW0
                go_wp2_with first
                  | (go_at_call 61; refine (RW.out _).mono ?_; rintro e' w2 ⟨rfl, k2⟩; have z0 := (k2.cell (p := ⟨b, 0, none⟩) lb).trans y0; have z9 := (k2.cell (p := ⟨b, 9, none⟩) lb).trans y9; have z10 := (k2.cell (p := ⟨b, 10, none⟩) lb).trans y10; clear y0 y1 y2 y3 y4 y5 y6 y7 y8 y9 y10)
                  | (go_at_call 62; refine (SW.out _).mono ?_; rintro e' w' ⟨rfl, rfl⟩)
                  | (go_at_call 63; refine (LW.out _).mono ?_; rintro e' w' ⟨rfl, rfl⟩)
                go_roundw
                case rel => exact ⟨k + 1, by omega, int_is (by omega), STEP.out OK.out, kb.trans (k2.mono kb.size)⟩
                case measure => simp only [intOf]; omega
          · have RW := Lib.hid (show ∀ W, Calls Tryz.prog 61 #[.agg #[.int .i64 mo, .int .i64 ki, .int .i64 wd, .int .i64 da, .int .i64 ti, .int .i64 re]] W (RetV W (.bool false)) from fun W => decide_eq_false g1 ▸ rightSR ⟨mo, ki, wd, da, ti, re⟩ W)
            have := BAD.out (fun c => g1 c.2.2.1)
            subst this
            go_wp2_with first
              | (go_at_call 61; refine (RW.out _).mono ?_; rintro e' w2 ⟨rfl, k2⟩; have z0 := (k2.cell (p := ⟨b, 0, none⟩) lb).trans y0; have z9 := (k2.cell (p := ⟨b, 9, none⟩) lb).trans y9; have z10 := (k2.cell (p := ⟨b, 10, none⟩) lb).trans y10; clear y0 y1 y2 y3 y4 y5 y6 y7 y8 y9 y10)
              | (go_at_call 62; refine (SW.out _).mono ?_; rintro e' w' ⟨rfl, rfl⟩)
              | (go_at_call 63; refine (LW.out _).mono ?_; rintro e' w' ⟨rfl, rfl⟩)
            go_ret
            exact ⟨rfl, hB0.trans ((kb.trans (k2.mono kb.size)).mono hB0.size)⟩
        · have f6 : (last != 1000000) = true := bne_iff_ne.2 f5
          have := BAD.out (fun c => by have := c.2.1.2; simp only at this; omega)
          subst this
          go_wp2_with first
            | (go_at_call 61; refine (RW.out _).mono ?_; rintro e' w2 ⟨rfl, k2⟩; have z0 := (k2.cell (p := ⟨b, 0, none⟩) lb).trans y0; have z9 := (k2.cell (p := ⟨b, 9, none⟩) lb).trans y9; have z10 := (k2.cell (p := ⟨b, 10, none⟩) lb).trans y10; clear y0 y1 y2 y3 y4 y5 y6 y7 y8 y9 y10)
            | (go_at_call 62; refine (SW.out _).mono ?_; rintro e' w' ⟨rfl, rfl⟩)
            | (go_at_call 63; refine (LW.out _).mono ?_; rintro e' w' ⟨rfl, rfl⟩)
          go_ret
          exact ⟨rfl, hB0.trans (kb.mono hB0.size)⟩
      · by_cases g1 : Sp.ok ⟨mo, ki, wd, da, ti, re⟩
        · have RW := Lib.hid (show ∀ W, Calls Tryz.prog 61 #[.agg #[.int .i64 mo, .int .i64 ki, .int .i64 wd, .int .i64 da, .int .i64 ti, .int .i64 re]] W (RetV W (.bool true)) from fun W => decide_eq_true g1 ▸ rightSR ⟨mo, ki, wd, da, ti, re⟩ W)
          by_cases g2 : 43200 < save
          · have := BAD.out (fun c => by have := c.2.2.2.1.2; simp only at this; omega)
            subst this
            go_wp2_with first
              | (go_at_call 61; refine (RW.out _).mono ?_; rintro e' w2 ⟨rfl, k2⟩; have z0 := (k2.cell (p := ⟨b, 0, none⟩) lb).trans y0; have z9 := (k2.cell (p := ⟨b, 9, none⟩) lb).trans y9; have z10 := (k2.cell (p := ⟨b, 10, none⟩) lb).trans y10; clear y0 y1 y2 y3 y4 y5 y6 y7 y8 y9 y10)
              | (go_at_call 62; refine (SW.out _).mono ?_; rintro e' w' ⟨rfl, rfl⟩)
              | (go_at_call 63; refine (LW.out _).mono ?_; rintro e' w' ⟨rfl, rfl⟩)
            go_ret
            exact ⟨rfl, hB0.trans ((kb.trans (k2.mono kb.size)).mono hB0.size)⟩
          by_cases g3 : save < -43200
          · have := BAD.out (fun c => by have := c.2.2.2.1.1; simp only at this; omega)
            subst this
            go_wp2_with first
              | (go_at_call 61; refine (RW.out _).mono ?_; rintro e' w2 ⟨rfl, k2⟩; have z0 := (k2.cell (p := ⟨b, 0, none⟩) lb).trans y0; have z9 := (k2.cell (p := ⟨b, 9, none⟩) lb).trans y9; have z10 := (k2.cell (p := ⟨b, 10, none⟩) lb).trans y10; clear y0 y1 y2 y3 y4 y5 y6 y7 y8 y9 y10)
              | (go_at_call 62; refine (SW.out _).mono ?_; rintro e' w' ⟨rfl, rfl⟩)
              | (go_at_call 63; refine (LW.out _).mono ?_; rintro e' w' ⟨rfl, rfl⟩)
            go_ret
            exact ⟨rfl, hB0.trans ((kb.trans (k2.mono kb.size)).mono hB0.size)⟩
          have SW0 := fun W => setR nm I.out.1 W
          cases g4 : setB nm with
          | false =>
            have SW := Lib.hid (show ∀ W, Calls Tryz.prog 62 #[.string nm] W (SameV W (.bool false)) from fun W => g4 ▸ SW0 W)
            clear SW0
            have := BAD.out (fun c => by have := c.2.2.2.2.1; simp only at this; rw [g4] at this; cases this)
            subst this
            go_wp2_with first
              | (go_at_call 61; refine (RW.out _).mono ?_; rintro e' w2 ⟨rfl, k2⟩; have z0 := (k2.cell (p := ⟨b, 0, none⟩) lb).trans y0; have z9 := (k2.cell (p := ⟨b, 9, none⟩) lb).trans y9; have z10 := (k2.cell (p := ⟨b, 10, none⟩) lb).trans y10; clear y0 y1 y2 y3 y4 y5 y6 y7 y8 y9 y10)
              | (go_at_call 62; refine (SW.out _).mono ?_; rintro e' w' ⟨rfl, rfl⟩)
              | (go_at_call 63; refine (LW.out _).mono ?_; rintro e' w' ⟨rfl, rfl⟩)
            go_ret
            exact ⟨rfl, hB0.trans ((kb.trans (k2.mono kb.size)).mono hB0.size)⟩
          | true =>
            have SW := Lib.hid (show ∀ W, Calls Tryz.prog 62 #[.string nm] W (SameV W (.bool true)) from fun W => g4 ▸ SW0 W)
            clear SW0
            by_cases g5 : le = dashT
            · have et : le.toList = [45] := by rw [g5, ByteArray.toList_eq]; rfl
              have eb : (le.toList == [45]) = true := by rw [et]; rfl
              have BAD2 := BAD.out (fun c => c.2.2.2.2.2.1 g5)
              clear g5 BAD
              subst BAD2
              go_wp2_with first
                | (go_at_call 61; refine (RW.out _).mono ?_; rintro e' w2 ⟨rfl, k2⟩; have z0 := (k2.cell (p := ⟨b, 0, none⟩) lb).trans y0; have z9 := (k2.cell (p := ⟨b, 9, none⟩) lb).trans y9; have z10 := (k2.cell (p := ⟨b, 10, none⟩) lb).trans y10; clear y0 y1 y2 y3 y4 y5 y6 y7 y8 y9 y10)
                | (go_at_call 62; refine (SW.out _).mono ?_; rintro e' w' ⟨rfl, rfl⟩)
                | (go_at_call 63; refine (LW.out _).mono ?_; rintro e' w' ⟨rfl, rfl⟩)
              go_ret
              exact ⟨rfl, hB0.trans ((kb.trans (k2.mono kb.size)).mono hB0.size)⟩
            have eb : (le.toList == [45]) = false := by
              rw [beq_eq_false_iff_ne]
              intro c
              apply g5
              have : le.data.toList = [45] := by rw [← c]; exact (ByteArray.toList_eq le).symm
              apply ByteArray.ext
              exact Array.toList_inj.1 this
            by_cases g6 : le = ⟨#[]⟩
            · have OK := Lib.hid (show Rl.ok ⟨nm, fr, last, ⟨mo, ki, wd, da, ti, re⟩, save, le⟩ from ⟨⟨by simp only; omega, by simp only; omega⟩, ⟨by simp only; omega, .inl (by simp only; omega)⟩, g1, ⟨by simp only; omega, by simp only; omega⟩, g4, g5, .inl g6⟩)
              have ne2 : le.toList = [] := by rw [g6, ByteArray.toList_eq]
              have ne : le.toList.isEmpty = true := List.isEmpty_iff.2 ne2
              clear g6
              go_wp2_with first
                | (go_at_call 61; refine (RW.out _).mono ?_; rintro e' w2 ⟨rfl, k2⟩; have z0 := (k2.cell (p := ⟨b, 0, none⟩) lb).trans y0; have z9 := (k2.cell (p := ⟨b, 9, none⟩) lb).trans y9; have z10 := (k2.cell (p := ⟨b, 10, none⟩) lb).trans y10; clear y0 y1 y2 y3 y4 y5 y6 y7 y8 y9 y10)
                | (go_at_call 62; refine (SW.out _).mono ?_; rintro e' w' ⟨rfl, rfl⟩)
                | (go_at_call 63; refine (LW.out _).mono ?_; rintro e' w' ⟨rfl, rfl⟩)
              go_roundw
              case rel => exact ⟨k + 1, by omega, int_is (by omega), STEP.out OK.out, kb.trans (k2.mono kb.size)⟩
              case measure => simp only [intOf]; omega
            have ne2 := ne_toListE g6
            have ne : le.toList.isEmpty = false := List.isEmpty_eq_false_iff.2 ne2
            have LW0 := fun W => lettersR le I.out.2.2.2.2.2 W
            cases g7 : lettersB le with
            | false =>
              have LW := Lib.hid (show ∀ W, Calls Tryz.prog 63 #[.string le] W (SameV W (.bool false)) from fun W => g7 ▸ LW0 W)
              clear LW0
              have := BAD.out (fun c => by
                rcases c.2.2.2.2.2.2 with h | h
                · exact g6 h
                · simp only at h; rw [g7] at h; cases h)
              subst this
              go_wp2_with first
                | (go_at_call 61; refine (RW.out _).mono ?_; rintro e' w2 ⟨rfl, k2⟩; have z0 := (k2.cell (p := ⟨b, 0, none⟩) lb).trans y0; have z9 := (k2.cell (p := ⟨b, 9, none⟩) lb).trans y9; have z10 := (k2.cell (p := ⟨b, 10, none⟩) lb).trans y10; clear y0 y1 y2 y3 y4 y5 y6 y7 y8 y9 y10)
                | (go_at_call 62; refine (SW.out _).mono ?_; rintro e' w' ⟨rfl, rfl⟩)
                | (go_at_call 63; refine (LW.out _).mono ?_; rintro e' w' ⟨rfl, rfl⟩)
              go_ret
              exact ⟨rfl, hB0.trans ((kb.trans (k2.mono kb.size)).mono hB0.size)⟩
            | true =>
              have OK := Lib.hid (show Rl.ok ⟨nm, fr, last, ⟨mo, ki, wd, da, ti, re⟩, save, le⟩ from ⟨⟨by simp only; omega, by simp only; omega⟩, ⟨by simp only; omega, .inl (by simp only; omega)⟩, g1, ⟨by simp only; omega, by simp only; omega⟩, g4, g5, .inr g7⟩)
              have LW := Lib.hid (show ∀ W, Calls Tryz.prog 63 #[.string le] W (SameV W (.bool true)) from fun W => g7 ▸ LW0 W)
              clear LW0
              go_wp2_with first
                | (go_at_call 61; refine (RW.out _).mono ?_; rintro e' w2 ⟨rfl, k2⟩; have z0 := (k2.cell (p := ⟨b, 0, none⟩) lb).trans y0; have z9 := (k2.cell (p := ⟨b, 9, none⟩) lb).trans y9; have z10 := (k2.cell (p := ⟨b, 10, none⟩) lb).trans y10; clear y0 y1 y2 y3 y4 y5 y6 y7 y8 y9 y10)
                | (go_at_call 62; refine (SW.out _).mono ?_; rintro e' w' ⟨rfl, rfl⟩)
                | (go_at_call 63; refine (LW.out _).mono ?_; rintro e' w' ⟨rfl, rfl⟩)
              go_roundw
              case rel => exact ⟨k + 1, by omega, int_is (by omega), STEP.out OK.out, kb.trans (k2.mono kb.size)⟩
              case measure => simp only [intOf]; omega
        · have RW := Lib.hid (show ∀ W, Calls Tryz.prog 61 #[.agg #[.int .i64 mo, .int .i64 ki, .int .i64 wd, .int .i64 da, .int .i64 ti, .int .i64 re]] W (RetV W (.bool false)) from fun W => decide_eq_false g1 ▸ rightSR ⟨mo, ki, wd, da, ti, re⟩ W)
          have := BAD.out (fun c => g1 c.2.2.1)
          subst this
          go_wp2_with first
            | (go_at_call 61; refine (RW.out _).mono ?_; rintro e' w2 ⟨rfl, k2⟩; have z0 := (k2.cell (p := ⟨b, 0, none⟩) lb).trans y0; have z9 := (k2.cell (p := ⟨b, 9, none⟩) lb).trans y9; have z10 := (k2.cell (p := ⟨b, 10, none⟩) lb).trans y10; clear y0 y1 y2 y3 y4 y5 y6 y7 y8 y9 y10)
            | (go_at_call 62; refine (SW.out _).mono ?_; rintro e' w' ⟨rfl, rfl⟩)
            | (go_at_call 63; refine (LW.out _).mono ?_; rintro e' w' ⟨rfl, rfl⟩)
          go_ret
          exact ⟨rfl, hB0.trans ((kb.trans (k2.mono kb.size)).mono hB0.size)⟩
    · obtain rfl : k = n := by omega
      have RU := Lib.hid (show ∀ x ∈ S.rules, x.ok from fun x hx => by
        obtain ⟨j, hj, rfl⟩ := List.mem_iff_getElem.1 hx
        exact HR.out j _ (by omega) (List.getElem?_eq_getElem hj))
      clear HR
      go_wp2_with fail
      clear p0
      go_loopw [5] (fun v wr => ∃ k : Nat, k ≤ m ∧ v = .int .i64 k ∧ (∀ j x, j < k → S.zones[j]? = some x → x.ok) ∧ Below W0.heap.size W0 wr) (fun v _ => m - (intOf v).toNat)
      case atStart => exact ⟨0, by omega, rfl, fun j x h => absurd h (by omega), hbel⟩
      case round =>
        clear hbel hk h4
        obtain ⟨i, hi, rfl, hZ, hbel⟩ := hrel
        have HZ := Lib.hid hZ
        clear hZ
        have p1 := (hbel.cell (p := ⟨w.heap.size, 1, none⟩) (by show w.heap.size < _; omega)).trans P.out.2.1
        by_cases h5 : i < m
        · obtain ⟨za, hza⟩ : ∃ x, ze[i]? = some x := by
            have hl : (ze.map Ze.vals).length = m := HA.out.zones.len
            rw [List.length_map] at hl
            exact ⟨_, List.getElem?_eq_getElem (by omega)⟩
          have hz : S.zones[i]? = some za.1 := by rw [← HA.out.all, List.getElem?_map, hza]; rfl
          have STEP := Lib.hid (show za.1.ok → ∀ j y, j < i + 1 → S.zones[j]? = some y → y.ok from fun ok j y hj hy => by
            by_cases e : j = i
            · subst e; rw [hz] at hy; cases hy; exact ok
            · exact HZ.out j y (by omega) hy)
          have BAD := Lib.hid (show ¬ za.1.ok → bb = false from fun no => NO.out (fun ok => no (ok.2.2.2.2.1 _ (List.mem_of_getElem? hz))))
          have I := Lib.hid (hx.out.2.1 _ (List.mem_of_getElem? hz))
          have EA := Lib.hid ((HA.out.eras za (List.mem_of_getElem? hza)))
          obtain ⟨g, o, ea, hg, ca⟩ := (HA.out.zones.below hbel).cells (by show 0 < m; omega)
          replace ea : B = some ⟨g, o, none⟩ := ea
          subst ea
          have ra := row_at ca (show (ze.map Ze.vals)[i]? = some za.vals by rw [List.getElem?_map, hza]; rfl)
          obtain ⟨⟨nm, er⟩, ⟨X, u, cu⟩⟩ := za
          have el : er.length = u := by have h2 : (er.map Er.vals).length = u := EA.out.len; simpa using h2
          have EL := Lib.hid el
          have u1 : u ≤ 9223372036854775807 := by have h1 : u ≤ cu := EA.out.cap; have h2 : cu ≤ 9223372036854775807 := EA.out.max; omega
          have x0 : wr.cell? ⟨g, o + i * 2, none⟩ = some (.string nm) := ra 0 _ rfl
          have x1 : wr.cell? ⟨g, o + i * 2 + 1, none⟩ = some (.slice X u cu) := ra 1 _ rfl
          clear ca ra hza hz
          go_upto_region 13 with (fail)
          have kb : Below W0.heap.size W0 (wr.alloc (.cells #[.string nm, .slice X u cu] 39)) := hbel.alloc hbel.size _
          have lb : wr.heap.size < (wr.alloc (.cells #[.string nm, .slice X u cu] 39)).heap.size := by simp
          have y0 : (wr.alloc (.cells #[.string nm, .slice X u cu] 39)).cell? ⟨wr.heap.size, 0, none⟩ = some (.string nm) := by simp
          have y1 : (wr.alloc (.cells #[.string nm, .slice X u cu] 39)).cell? ⟨wr.heap.size, 1, none⟩ = some (.slice X u cu) := by simp
          clear x0 x1 p1 hg
          generalize (wr.alloc (.cells #[.string nm, .slice X u cu] 39)) = w1 at *
          clear hbel
          generalize wr.heap.size = b at *
          clear wr
          have PW0 := fun W => placeR nm I.out.1 W
          cases g1 : placeB nm with
          | false =>
            have PW := Lib.hid (show ∀ W, Calls Tryz.prog 64 #[.string nm] W (SameV W (.bool false)) from fun W => g1 ▸ PW0 W)
            clear PW0
            have := BAD.out (fun c => by have := c.1; simp only at this; rw [g1] at this; cases this)
            subst this
            go_wp2_with first
              | (go_at_call 64; refine (PW.out _).mono ?_; rintro e' w' ⟨rfl, rfl⟩)
            go_ret
            exact ⟨rfl, hB0.trans (kb.mono hB0.size)⟩
          | true =>
            have PW := Lib.hid (show ∀ W, Calls Tryz.prog 64 #[.string nm] W (SameV W (.bool true)) from fun W => g1 ▸ PW0 W)
            clear PW0
            by_cases g2 : u < 1
            · have := BAD.out (fun c => by
                have h : er = [] := List.eq_nil_of_length_eq_zero (by rw [EL.out]; omega)
                subst h
                exact c.2.2.2)
              subst this
              go_wp2_with first
                | (go_at_call 64; refine (PW.out _).mono ?_; rintro e' w' ⟨rfl, rfl⟩)
              go_ret
              exact ⟨rfl, hB0.trans (kb.mono hB0.size)⟩
            by_cases g3 : 40 < u
            · have := BAD.out (fun c => by have := c.2.1; simp only [EL.out] at this; omega)
              subst this
              go_wp2_with first
                | (go_at_call 64; refine (PW.out _).mono ?_; rintro e' w' ⟨rfl, rfl⟩)
              go_ret
              exact ⟨rfl, hB0.trans (kb.mono hB0.size)⟩
            go_wp2_with first
              | (go_at_call 64; refine (PW.out _).mono ?_; rintro e' w' ⟨rfl, rfl⟩)
            go_loopw [7] (fun v wr2 => ∃ j : Nat, j ≤ u ∧ v = .int .i64 j ∧ (∀ t x, t < j → er[t]? = some x → x.ok ∧ x.til = !decide (t + 1 = u)) ∧ Below w1.heap.size w1 wr2) (fun v _ => u - (intOf v).toNat)
            case atStart => exact ⟨0, by omega, rfl, fun t x h => absurd h (by omega), Below.refl _ _⟩
            case round =>
              obtain ⟨j, hj, rfl, hE, hb3⟩ := hrel
              have HE := Lib.hid hE
              clear hE
              have y1' := (hb3.cell (p := ⟨b, 1, none⟩) lb).trans y1
              by_cases h6 : j < u
              · obtain ⟨x, hxe⟩ : ∃ x, er[j]? = some x := ⟨_, List.getElem?_eq_getElem (by omega)⟩
                obtain ⟨g1, o1, ea, hg1, cb⟩ := ((show Rs 13 W0 X u cu (er.map Er.vals) from EA.out).below (kb.trans (hb3.mono kb.size))).cells (by omega)
                subst ea
                have EI := Lib.hid (I.out.2.2 x (List.mem_of_getElem? hxe))
                have rb := row_at cb (show (er.map Er.vals)[j]? = some x.vals by rw [List.getElem?_map, hxe]; rfl)
                have HX := Lib.hid hxe
                clear hxe
                obtain ⟨off, kind, save, rules, fmt, til, year, ⟨mo, ki, wd, da, ti, re⟩⟩ := x
                have u0 : wr.cell? ⟨g1, o1 + j * 13, none⟩ = some (.int .i64 off) := rb 0 _ rfl
                have u1 : wr.cell? ⟨g1, o1 + j * 13 + 1, none⟩ = some (.int .i64 kind) := rb 1 _ rfl
                have u2 : wr.cell? ⟨g1, o1 + j * 13 + 2, none⟩ = some (.int .i64 save) := rb 2 _ rfl
                have u3 : wr.cell? ⟨g1, o1 + j * 13 + 3, none⟩ = some (.string rules) := rb 3 _ rfl
                have u4 : wr.cell? ⟨g1, o1 + j * 13 + 4, none⟩ = some (.string fmt) := rb 4 _ rfl
                have u5 : wr.cell? ⟨g1, o1 + j * 13 + 5, none⟩ = some (.bool til) := rb 5 _ rfl
                have u6 : wr.cell? ⟨g1, o1 + j * 13 + 6, none⟩ = some (.int .i64 year) := rb 6 _ rfl
                have u7 : wr.cell? ⟨g1, o1 + j * 13 + 7, none⟩ = some (.int .i64 mo) := rb 7 _ rfl
                have u8 : wr.cell? ⟨g1, o1 + j * 13 + 8, none⟩ = some (.int .i64 ki) := rb 8 _ rfl
                have u9 : wr.cell? ⟨g1, o1 + j * 13 + 9, none⟩ = some (.int .i64 wd) := rb 9 _ rfl
                have u10 : wr.cell? ⟨g1, o1 + j * 13 + 10, none⟩ = some (.int .i64 da) := rb 10 _ rfl
                have u11 : wr.cell? ⟨g1, o1 + j * 13 + 11, none⟩ = some (.int .i64 ti) := rb 11 _ rfl
                have u12 : wr.cell? ⟨g1, o1 + j * 13 + 12, none⟩ = some (.int .i64 re) := rb 12 _ rfl
                clear rb cb
                have hgl : g1 < wr.heap.size := hg1
                have lbw : b < wr.heap.size := Nat.lt_of_lt_of_le lb hb3.size
                by_cases eo : Er.ok ⟨off, kind, save, rules, fmt, til, year, ⟨mo, ki, wd, da, ti, re⟩⟩
                · have EW := Lib.hid (show ∀ W, Calls Tryz.prog 65 #[.agg #[.int .i64 off, .int .i64 kind, .int .i64 save, .string rules, .string fmt, .bool til, .int .i64 year, .int .i64 mo, .int .i64 ki, .int .i64 wd, .int .i64 da, .int .i64 ti, .int .i64 re]] W (RetV W (.bool true)) from fun W => (@decide_eq_true _ (Classical.propDecidable _) eo : @decide (Er.ok ⟨off, kind, save, rules, fmt, til, year, ⟨mo, ki, wd, da, ti, re⟩⟩) (Classical.propDecidable _) = true) ▸ eraOkR ⟨off, kind, save, rules, fmt, til, year, ⟨mo, ki, wd, da, ti, re⟩⟩ EI.out W)
                  by_cases el : j + 1 = u
                  · have qw : IntKind.i64.wrap ((u : Int) - 1) = (u : Int) - 1 := IntWalk.i64_in _ (by omega)
                    have q1 : ((j : Int) == (u : Int) - 1) = true := beq_iff_eq.2 (by omega)
                    cases til with
                    | true =>
                      have := BAD.out (fun c => by have := tilOk_at c.2.2.2 j _ HX.out; simp [EL.out, el] at this)
                      subst this
                      go_wp2_with fail
                      go_cut [154] (fun v wx => v = .bool true ∧ Below w1.heap.size w1 wx)
                      case first =>
                        go_region_held3 (fun w' => w'.cell? ⟨b, 1, none⟩ = some (.slice (some ⟨g1, o1, none⟩) u cu) ∧ w'.cell? ⟨g1, o1 + j * 13, none⟩ = some (.int .i64 off) ∧ w'.cell? ⟨g1, o1 + j * 13 + 1, none⟩ = some (.int .i64 kind) ∧ w'.cell? ⟨g1, o1 + j * 13 + 2, none⟩ = some (.int .i64 save) ∧ w'.cell? ⟨g1, o1 + j * 13 + 3, none⟩ = some (.string rules) ∧ w'.cell? ⟨g1, o1 + j * 13 + 4, none⟩ = some (.string fmt) ∧ w'.cell? ⟨g1, o1 + j * 13 + 5, none⟩ = some (.bool true) ∧ w'.cell? ⟨g1, o1 + j * 13 + 6, none⟩ = some (.int .i64 year) ∧ w'.cell? ⟨g1, o1 + j * 13 + 7, none⟩ = some (.int .i64 mo) ∧ w'.cell? ⟨g1, o1 + j * 13 + 8, none⟩ = some (.int .i64 ki) ∧ w'.cell? ⟨g1, o1 + j * 13 + 9, none⟩ = some (.int .i64 wd) ∧ w'.cell? ⟨g1, o1 + j * 13 + 10, none⟩ = some (.int .i64 da) ∧ w'.cell? ⟨g1, o1 + j * 13 + 11, none⟩ = some (.int .i64 ti) ∧ w'.cell? ⟨g1, o1 + j * 13 + 12, none⟩ = some (.int .i64 re)) (go_keep) ((go_at_call 65; refine (EW.out _).mono ?_; rintro e' w9 ⟨rfl, k9⟩; (first | have KN := hb3.trans (k9.mono hb3.size) | have KN := (below_drewN hb3 _).trans (k9.mono (below_drewN hb3 _).size)); have v0 := (k9.cell (p := ⟨g1, o1 + j * 13, none⟩) hgl).trans u0; have v1 := (k9.cell (p := ⟨g1, o1 + j * 13 + 1, none⟩) hgl).trans u1; have v2 := (k9.cell (p := ⟨g1, o1 + j * 13 + 2, none⟩) hgl).trans u2; have v3 := (k9.cell (p := ⟨g1, o1 + j * 13 + 3, none⟩) hgl).trans u3; have v4 := (k9.cell (p := ⟨g1, o1 + j * 13 + 4, none⟩) hgl).trans u4; have v5 := (k9.cell (p := ⟨g1, o1 + j * 13 + 5, none⟩) hgl).trans u5; have v6 := (k9.cell (p := ⟨g1, o1 + j * 13 + 6, none⟩) hgl).trans u6; have v7 := (k9.cell (p := ⟨g1, o1 + j * 13 + 7, none⟩) hgl).trans u7; have v8 := (k9.cell (p := ⟨g1, o1 + j * 13 + 8, none⟩) hgl).trans u8; have v9 := (k9.cell (p := ⟨g1, o1 + j * 13 + 9, none⟩) hgl).trans u9; have v10 := (k9.cell (p := ⟨g1, o1 + j * 13 + 10, none⟩) hgl).trans u10; have v11 := (k9.cell (p := ⟨g1, o1 + j * 13 + 11, none⟩) hgl).trans u11; have v12 := (k9.cell (p := ⟨g1, o1 + j * 13 + 12, none⟩) hgl).trans u12; have y9 := (k9.cell (p := ⟨b, 1, none⟩) lbw).trans y1'))
                        all_goals
                          go_wp2_with fail
                          go_meet
                          first | exact ⟨rfl, KN⟩ | exact ⟨rfl, below_drewN KN _⟩ | exact ⟨by simp [qw, q1], KN⟩ | exact ⟨by simp [qw, q1], below_drewN KN _⟩
                      case rest =>
                        obtain ⟨rfl, KC⟩ := hcut
                        go_wp2_with fail
                        go_ret
                        exact ⟨rfl, hB0.trans ((kb.trans (KC.mono kb.size)).mono hB0.size)⟩
                    | false =>
                      have EOK := Lib.hid (show ∀ t x, t < j + 1 → er[t]? = some x → x.ok ∧ x.til = !decide (t + 1 = u) from fun t y ht hy => by
                        by_cases e : t = j
                        · subst e; rw [HX.out] at hy; cases hy; exact ⟨eo, by simp [el]⟩
                        · exact HE.out t y (by omega) hy)
                      go_wp2_with fail
                      go_cut [154] (fun v wx => v = .bool false ∧ Below w1.heap.size w1 wx)
                      case first =>
                        go_region_held3 (fun w' => w'.cell? ⟨b, 1, none⟩ = some (.slice (some ⟨g1, o1, none⟩) u cu) ∧ w'.cell? ⟨g1, o1 + j * 13, none⟩ = some (.int .i64 off) ∧ w'.cell? ⟨g1, o1 + j * 13 + 1, none⟩ = some (.int .i64 kind) ∧ w'.cell? ⟨g1, o1 + j * 13 + 2, none⟩ = some (.int .i64 save) ∧ w'.cell? ⟨g1, o1 + j * 13 + 3, none⟩ = some (.string rules) ∧ w'.cell? ⟨g1, o1 + j * 13 + 4, none⟩ = some (.string fmt) ∧ w'.cell? ⟨g1, o1 + j * 13 + 5, none⟩ = some (.bool false) ∧ w'.cell? ⟨g1, o1 + j * 13 + 6, none⟩ = some (.int .i64 year) ∧ w'.cell? ⟨g1, o1 + j * 13 + 7, none⟩ = some (.int .i64 mo) ∧ w'.cell? ⟨g1, o1 + j * 13 + 8, none⟩ = some (.int .i64 ki) ∧ w'.cell? ⟨g1, o1 + j * 13 + 9, none⟩ = some (.int .i64 wd) ∧ w'.cell? ⟨g1, o1 + j * 13 + 10, none⟩ = some (.int .i64 da) ∧ w'.cell? ⟨g1, o1 + j * 13 + 11, none⟩ = some (.int .i64 ti) ∧ w'.cell? ⟨g1, o1 + j * 13 + 12, none⟩ = some (.int .i64 re)) (go_keep) ((go_at_call 65; refine (EW.out _).mono ?_; rintro e' w9 ⟨rfl, k9⟩; (first | have KN := hb3.trans (k9.mono hb3.size) | have KN := (below_drewN hb3 _).trans (k9.mono (below_drewN hb3 _).size)); have v0 := (k9.cell (p := ⟨g1, o1 + j * 13, none⟩) hgl).trans u0; have v1 := (k9.cell (p := ⟨g1, o1 + j * 13 + 1, none⟩) hgl).trans u1; have v2 := (k9.cell (p := ⟨g1, o1 + j * 13 + 2, none⟩) hgl).trans u2; have v3 := (k9.cell (p := ⟨g1, o1 + j * 13 + 3, none⟩) hgl).trans u3; have v4 := (k9.cell (p := ⟨g1, o1 + j * 13 + 4, none⟩) hgl).trans u4; have v5 := (k9.cell (p := ⟨g1, o1 + j * 13 + 5, none⟩) hgl).trans u5; have v6 := (k9.cell (p := ⟨g1, o1 + j * 13 + 6, none⟩) hgl).trans u6; have v7 := (k9.cell (p := ⟨g1, o1 + j * 13 + 7, none⟩) hgl).trans u7; have v8 := (k9.cell (p := ⟨g1, o1 + j * 13 + 8, none⟩) hgl).trans u8; have v9 := (k9.cell (p := ⟨g1, o1 + j * 13 + 9, none⟩) hgl).trans u9; have v10 := (k9.cell (p := ⟨g1, o1 + j * 13 + 10, none⟩) hgl).trans u10; have v11 := (k9.cell (p := ⟨g1, o1 + j * 13 + 11, none⟩) hgl).trans u11; have v12 := (k9.cell (p := ⟨g1, o1 + j * 13 + 12, none⟩) hgl).trans u12; have y9 := (k9.cell (p := ⟨b, 1, none⟩) lbw).trans y1'))
                        all_goals
                          go_wp2_with fail
                          go_meet
                          first | exact ⟨rfl, KN⟩ | exact ⟨rfl, below_drewN KN _⟩ | exact ⟨by simp [qw, q1], KN⟩ | exact ⟨by simp [qw, q1], below_drewN KN _⟩
                      case rest =>
                        obtain ⟨rfl, KC⟩ := hcut
                        go_wp2_with fail
                        go_roundw
                        case rel => exact ⟨j + 1, by omega, int_is (by omega), EOK.out, KC⟩
                        case measure => simp only [intOf]; omega
                  · have qw : IntKind.i64.wrap ((u : Int) - 1) = (u : Int) - 1 := IntWalk.i64_in _ (by omega)
                    have q1 : ((j : Int) == (u : Int) - 1) = false := beq_eq_false_iff_ne.2 (by omega)
                    cases til with
                    | true =>
                      have EOK := Lib.hid (show ∀ t x, t < j + 1 → er[t]? = some x → x.ok ∧ x.til = !decide (t + 1 = u) from fun t y ht hy => by
                        by_cases e : t = j
                        · subst e; rw [HX.out] at hy; cases hy; exact ⟨eo, by simp [el]⟩
                        · exact HE.out t y (by omega) hy)
                      go_wp2_with fail
                      go_cut [154] (fun v wx => v = .bool false ∧ Below w1.heap.size w1 wx)
                      case first =>
                        go_region_held3 (fun w' => w'.cell? ⟨b, 1, none⟩ = some (.slice (some ⟨g1, o1, none⟩) u cu) ∧ w'.cell? ⟨g1, o1 + j * 13, none⟩ = some (.int .i64 off) ∧ w'.cell? ⟨g1, o1 + j * 13 + 1, none⟩ = some (.int .i64 kind) ∧ w'.cell? ⟨g1, o1 + j * 13 + 2, none⟩ = some (.int .i64 save) ∧ w'.cell? ⟨g1, o1 + j * 13 + 3, none⟩ = some (.string rules) ∧ w'.cell? ⟨g1, o1 + j * 13 + 4, none⟩ = some (.string fmt) ∧ w'.cell? ⟨g1, o1 + j * 13 + 5, none⟩ = some (.bool true) ∧ w'.cell? ⟨g1, o1 + j * 13 + 6, none⟩ = some (.int .i64 year) ∧ w'.cell? ⟨g1, o1 + j * 13 + 7, none⟩ = some (.int .i64 mo) ∧ w'.cell? ⟨g1, o1 + j * 13 + 8, none⟩ = some (.int .i64 ki) ∧ w'.cell? ⟨g1, o1 + j * 13 + 9, none⟩ = some (.int .i64 wd) ∧ w'.cell? ⟨g1, o1 + j * 13 + 10, none⟩ = some (.int .i64 da) ∧ w'.cell? ⟨g1, o1 + j * 13 + 11, none⟩ = some (.int .i64 ti) ∧ w'.cell? ⟨g1, o1 + j * 13 + 12, none⟩ = some (.int .i64 re)) (go_keep) ((go_at_call 65; refine (EW.out _).mono ?_; rintro e' w9 ⟨rfl, k9⟩; (first | have KN := hb3.trans (k9.mono hb3.size) | have KN := (below_drewN hb3 _).trans (k9.mono (below_drewN hb3 _).size)); have v0 := (k9.cell (p := ⟨g1, o1 + j * 13, none⟩) hgl).trans u0; have v1 := (k9.cell (p := ⟨g1, o1 + j * 13 + 1, none⟩) hgl).trans u1; have v2 := (k9.cell (p := ⟨g1, o1 + j * 13 + 2, none⟩) hgl).trans u2; have v3 := (k9.cell (p := ⟨g1, o1 + j * 13 + 3, none⟩) hgl).trans u3; have v4 := (k9.cell (p := ⟨g1, o1 + j * 13 + 4, none⟩) hgl).trans u4; have v5 := (k9.cell (p := ⟨g1, o1 + j * 13 + 5, none⟩) hgl).trans u5; have v6 := (k9.cell (p := ⟨g1, o1 + j * 13 + 6, none⟩) hgl).trans u6; have v7 := (k9.cell (p := ⟨g1, o1 + j * 13 + 7, none⟩) hgl).trans u7; have v8 := (k9.cell (p := ⟨g1, o1 + j * 13 + 8, none⟩) hgl).trans u8; have v9 := (k9.cell (p := ⟨g1, o1 + j * 13 + 9, none⟩) hgl).trans u9; have v10 := (k9.cell (p := ⟨g1, o1 + j * 13 + 10, none⟩) hgl).trans u10; have v11 := (k9.cell (p := ⟨g1, o1 + j * 13 + 11, none⟩) hgl).trans u11; have v12 := (k9.cell (p := ⟨g1, o1 + j * 13 + 12, none⟩) hgl).trans u12; have y9 := (k9.cell (p := ⟨b, 1, none⟩) lbw).trans y1'))
                        all_goals
                          go_wp2_with fail
                          go_meet
                          first | exact ⟨rfl, KN⟩ | exact ⟨rfl, below_drewN KN _⟩ | exact ⟨by simp [qw, q1], KN⟩ | exact ⟨by simp [qw, q1], below_drewN KN _⟩
                      case rest =>
                        obtain ⟨rfl, KC⟩ := hcut
                        go_wp2_with fail
                        go_roundw
                        case rel => exact ⟨j + 1, by omega, int_is (by omega), EOK.out, KC⟩
                        case measure => simp only [intOf]; omega
                    | false =>
                      have := BAD.out (fun c => by have := tilOk_at c.2.2.2 j _ HX.out; simp [EL.out, el] at this)
                      subst this
                      go_wp2_with fail
                      go_cut [154] (fun v wx => v = .bool true ∧ Below w1.heap.size w1 wx)
                      case first =>
                        go_region_held3 (fun w' => w'.cell? ⟨b, 1, none⟩ = some (.slice (some ⟨g1, o1, none⟩) u cu) ∧ w'.cell? ⟨g1, o1 + j * 13, none⟩ = some (.int .i64 off) ∧ w'.cell? ⟨g1, o1 + j * 13 + 1, none⟩ = some (.int .i64 kind) ∧ w'.cell? ⟨g1, o1 + j * 13 + 2, none⟩ = some (.int .i64 save) ∧ w'.cell? ⟨g1, o1 + j * 13 + 3, none⟩ = some (.string rules) ∧ w'.cell? ⟨g1, o1 + j * 13 + 4, none⟩ = some (.string fmt) ∧ w'.cell? ⟨g1, o1 + j * 13 + 5, none⟩ = some (.bool false) ∧ w'.cell? ⟨g1, o1 + j * 13 + 6, none⟩ = some (.int .i64 year) ∧ w'.cell? ⟨g1, o1 + j * 13 + 7, none⟩ = some (.int .i64 mo) ∧ w'.cell? ⟨g1, o1 + j * 13 + 8, none⟩ = some (.int .i64 ki) ∧ w'.cell? ⟨g1, o1 + j * 13 + 9, none⟩ = some (.int .i64 wd) ∧ w'.cell? ⟨g1, o1 + j * 13 + 10, none⟩ = some (.int .i64 da) ∧ w'.cell? ⟨g1, o1 + j * 13 + 11, none⟩ = some (.int .i64 ti) ∧ w'.cell? ⟨g1, o1 + j * 13 + 12, none⟩ = some (.int .i64 re)) (go_keep) ((go_at_call 65; refine (EW.out _).mono ?_; rintro e' w9 ⟨rfl, k9⟩; (first | have KN := hb3.trans (k9.mono hb3.size) | have KN := (below_drewN hb3 _).trans (k9.mono (below_drewN hb3 _).size)); have v0 := (k9.cell (p := ⟨g1, o1 + j * 13, none⟩) hgl).trans u0; have v1 := (k9.cell (p := ⟨g1, o1 + j * 13 + 1, none⟩) hgl).trans u1; have v2 := (k9.cell (p := ⟨g1, o1 + j * 13 + 2, none⟩) hgl).trans u2; have v3 := (k9.cell (p := ⟨g1, o1 + j * 13 + 3, none⟩) hgl).trans u3; have v4 := (k9.cell (p := ⟨g1, o1 + j * 13 + 4, none⟩) hgl).trans u4; have v5 := (k9.cell (p := ⟨g1, o1 + j * 13 + 5, none⟩) hgl).trans u5; have v6 := (k9.cell (p := ⟨g1, o1 + j * 13 + 6, none⟩) hgl).trans u6; have v7 := (k9.cell (p := ⟨g1, o1 + j * 13 + 7, none⟩) hgl).trans u7; have v8 := (k9.cell (p := ⟨g1, o1 + j * 13 + 8, none⟩) hgl).trans u8; have v9 := (k9.cell (p := ⟨g1, o1 + j * 13 + 9, none⟩) hgl).trans u9; have v10 := (k9.cell (p := ⟨g1, o1 + j * 13 + 10, none⟩) hgl).trans u10; have v11 := (k9.cell (p := ⟨g1, o1 + j * 13 + 11, none⟩) hgl).trans u11; have v12 := (k9.cell (p := ⟨g1, o1 + j * 13 + 12, none⟩) hgl).trans u12; have y9 := (k9.cell (p := ⟨b, 1, none⟩) lbw).trans y1'))
                        all_goals
                          go_wp2_with fail
                          go_meet
                          first | exact ⟨rfl, KN⟩ | exact ⟨rfl, below_drewN KN _⟩ | exact ⟨by simp [qw, q1], KN⟩ | exact ⟨by simp [qw, q1], below_drewN KN _⟩
                      case rest =>
                        obtain ⟨rfl, KC⟩ := hcut
                        go_wp2_with fail
                        go_ret
                        exact ⟨rfl, hB0.trans ((kb.trans (KC.mono kb.size)).mono hB0.size)⟩
                · have EW := Lib.hid (show ∀ W, Calls Tryz.prog 65 #[.agg #[.int .i64 off, .int .i64 kind, .int .i64 save, .string rules, .string fmt, .bool til, .int .i64 year, .int .i64 mo, .int .i64 ki, .int .i64 wd, .int .i64 da, .int .i64 ti, .int .i64 re]] W (RetV W (.bool false)) from fun W => (@decide_eq_false _ (Classical.propDecidable _) eo : @decide (Er.ok ⟨off, kind, save, rules, fmt, til, year, ⟨mo, ki, wd, da, ti, re⟩⟩) (Classical.propDecidable _) = false) ▸ eraOkR ⟨off, kind, save, rules, fmt, til, year, ⟨mo, ki, wd, da, ti, re⟩⟩ EI.out W)
                  have := BAD.out (fun c => eo (c.2.2.1 _ (List.mem_of_getElem? HX.out)))
                  subst this
                  go_wp2_with fail
                  have kd : Below wr.heap.size wr wr.drew := (Below.refl _ wr).drew
                  have hb5 := hb3.trans (kd.mono hb3.size)
                  have d1 := (kd.cell (p := ⟨b, 1, none⟩) lbw).trans y1'
                  have v0 := (kd.cell (p := ⟨g1, o1 + j * 13, none⟩) hgl).trans u0
                  have v1 := (kd.cell (p := ⟨g1, o1 + j * 13 + 1, none⟩) hgl).trans u1
                  have v2 := (kd.cell (p := ⟨g1, o1 + j * 13 + 2, none⟩) hgl).trans u2
                  have v3 := (kd.cell (p := ⟨g1, o1 + j * 13 + 3, none⟩) hgl).trans u3
                  have v4 := (kd.cell (p := ⟨g1, o1 + j * 13 + 4, none⟩) hgl).trans u4
                  have v5 := (kd.cell (p := ⟨g1, o1 + j * 13 + 5, none⟩) hgl).trans u5
                  have v6 := (kd.cell (p := ⟨g1, o1 + j * 13 + 6, none⟩) hgl).trans u6
                  have v7 := (kd.cell (p := ⟨g1, o1 + j * 13 + 7, none⟩) hgl).trans u7
                  have v8 := (kd.cell (p := ⟨g1, o1 + j * 13 + 8, none⟩) hgl).trans u8
                  have v9 := (kd.cell (p := ⟨g1, o1 + j * 13 + 9, none⟩) hgl).trans u9
                  have v10 := (kd.cell (p := ⟨g1, o1 + j * 13 + 10, none⟩) hgl).trans u10
                  have v11 := (kd.cell (p := ⟨g1, o1 + j * 13 + 11, none⟩) hgl).trans u11
                  have v12 := (kd.cell (p := ⟨g1, o1 + j * 13 + 12, none⟩) hgl).trans u12
                  have hgd : g1 < wr.drew.heap.size := Nat.lt_of_lt_of_le hgl kd.size
                  have lbd : b < wr.drew.heap.size := Nat.lt_of_lt_of_le lbw kd.size
                  refine wp_region_noPanic ?_
                  refine wp_region_held_drew (S := (fun w' => w'.cell? ⟨b, 1, none⟩ = some (.slice (some ⟨g1, o1, none⟩) u cu) ∧ w'.cell? ⟨g1, o1 + j * 13, none⟩ = some (.int .i64 off) ∧ w'.cell? ⟨g1, o1 + j * 13 + 1, none⟩ = some (.int .i64 kind) ∧ w'.cell? ⟨g1, o1 + j * 13 + 2, none⟩ = some (.int .i64 save) ∧ w'.cell? ⟨g1, o1 + j * 13 + 3, none⟩ = some (.string rules) ∧ w'.cell? ⟨g1, o1 + j * 13 + 4, none⟩ = some (.string fmt) ∧ w'.cell? ⟨g1, o1 + j * 13 + 5, none⟩ = some (.bool til) ∧ w'.cell? ⟨g1, o1 + j * 13 + 6, none⟩ = some (.int .i64 year) ∧ w'.cell? ⟨g1, o1 + j * 13 + 7, none⟩ = some (.int .i64 mo) ∧ w'.cell? ⟨g1, o1 + j * 13 + 8, none⟩ = some (.int .i64 ki) ∧ w'.cell? ⟨g1, o1 + j * 13 + 9, none⟩ = some (.int .i64 wd) ∧ w'.cell? ⟨g1, o1 + j * 13 + 10, none⟩ = some (.int .i64 da) ∧ w'.cell? ⟨g1, o1 + j * 13 + 11, none⟩ = some (.int .i64 ti) ∧ w'.cell? ⟨g1, o1 + j * 13 + 12, none⟩ = some (.int .i64 re))) (by kernel_rfl) ⟨d1, v0, v1, v2, v3, v4, v5, v6, v7, v8, v9, v10, v11, v12⟩ (fun hHeld => ?_)
                  refine wpAnyH_take (i := 0) (oi := { dst := some 133, op := Op.fieldAddr 39 (Operand.tmp 6) 1, type := 0, pos := "print.go:84", after := #[], guard := none }) (v := ?_) rfl (by kernel_rfl) (by kernel_rfl) (by kernel_rfl) (fun _ _ _ h => h) (Or.inl ⟨by rfl, ?_⟩) (by assumption) ?_
                  rotate_left
                  · intro w hSw
                    try dsimp only at hSw
                    go_simp
                    any_goals with_reducible rfl
                  try simp only [Act.put, List.setIfInBounds_toArray, List.set_cons_zero, List.set_cons_succ]
                  refine wpAnyH_take (i := 1) (oi := { dst := some 134, op := Op.load 37 (Operand.tmp 133), type := 37, pos := "print.go:84", after := #[{ on := 0, ground := Ground.data }], guard := none }) (v := ?_) rfl (by kernel_rfl) (by kernel_rfl) (by kernel_rfl) (fun _ _ _ h => h) (Or.inl ⟨by rfl, ?_⟩) (by assumption) ?_
                  rotate_left
                  · intro w hSw
                    try dsimp only at hSw
                    go_simp
                    any_goals with_reducible rfl
                  try simp only [Act.put, List.setIfInBounds_toArray, List.set_cons_zero, List.set_cons_succ]
                  refine wpAnyH_take (i := 2) (oi := { dst := some 135, op := Op.move (Operand.tmp 7), type := 3, pos := "print.go:84", after := #[], guard := none }) (v := ?_) rfl (by kernel_rfl) (by kernel_rfl) (by kernel_rfl) (fun _ _ _ h => h) (Or.inl ⟨by rfl, ?_⟩) (by assumption) ?_
                  rotate_left
                  · intro w hSw
                    try dsimp only at hSw
                    go_simp
                    any_goals with_reducible rfl
                  try simp only [Act.put, List.setIfInBounds_toArray, List.set_cons_zero, List.set_cons_succ]
                  refine wpAnyH_take (i := 3) (oi := { dst := some 136, op := Op.indexAddr 37 (Operand.tmp 134) (Operand.tmp 135), type := 0, pos := "print.go:84", after := #[{ on := 1, ground := Ground.data }, { on := 2, ground := Ground.data }], guard := none }) (v := ?_) rfl (by kernel_rfl) (by kernel_rfl) (by kernel_rfl) (fun _ _ _ h => h) (Or.inl ⟨by rfl, ?_⟩) (by assumption) ?_
                  rotate_left
                  · intro w hSw
                    try dsimp only at hSw
                    go_simp
                    any_goals with_reducible rfl
                  try simp only [Act.put, List.setIfInBounds_toArray, List.set_cons_zero, List.set_cons_succ]
                  refine wpAnyH_take (i := 4) (oi := { dst := some 137, op := Op.load 41 (Operand.tmp 136), type := 41, pos := "print.go:84", after := #[{ on := 3, ground := Ground.data }], guard := none }) (v := ?_) rfl (by kernel_rfl) (by kernel_rfl) (by kernel_rfl) (fun _ _ _ h => h) (Or.inl ⟨by rfl, ?_⟩) (by assumption) ?_
                  rotate_left
                  · intro w hSw
                    try dsimp only at hSw
                    go_simp
                    any_goals with_reducible rfl
                  try simp only [Act.put, List.setIfInBounds_toArray, List.set_cons_zero, List.set_cons_succ]
                  refine wpAnyH_ready (rs := [5]) (by kernel_rfl) (by simp) ?_
                  refine AllReadyH.cons (o := { dst := some 138, op := Op.call { callee := Callee.value (Operand.func 65), args := #[Operand.tmp 137], argTypes := #[41] }, type := 4, pos := "print.go:84", after := #[{ on := 4, ground := Ground.data }], guard := none }) rfl (fun K hK => ?_) AllReadyH.nil
                  go_simp
                  go_at_call 65
                  refine (EW.out _).mono ?_
                  rintro e' w9 ⟨rfl, k9⟩
                  have KN := hb5.trans (k9.mono hb5.size)
                  refine hK.out _ _ (⟨(k9.cell (p := ⟨b, 1, none⟩) lbd).trans d1, (k9.cell (p := ⟨g1, o1 + j * 13, none⟩) hgd).trans v0, (k9.cell (p := ⟨g1, o1 + j * 13 + 1, none⟩) hgd).trans v1, (k9.cell (p := ⟨g1, o1 + j * 13 + 2, none⟩) hgd).trans v2, (k9.cell (p := ⟨g1, o1 + j * 13 + 3, none⟩) hgd).trans v3, (k9.cell (p := ⟨g1, o1 + j * 13 + 4, none⟩) hgd).trans v4, (k9.cell (p := ⟨g1, o1 + j * 13 + 5, none⟩) hgd).trans v5, (k9.cell (p := ⟨g1, o1 + j * 13 + 6, none⟩) hgd).trans v6, (k9.cell (p := ⟨g1, o1 + j * 13 + 7, none⟩) hgd).trans v7, (k9.cell (p := ⟨g1, o1 + j * 13 + 8, none⟩) hgd).trans v8, (k9.cell (p := ⟨g1, o1 + j * 13 + 9, none⟩) hgd).trans v9, (k9.cell (p := ⟨g1, o1 + j * 13 + 10, none⟩) hgd).trans v10, (k9.cell (p := ⟨g1, o1 + j * 13 + 11, none⟩) hgd).trans v11, (k9.cell (p := ⟨g1, o1 + j * 13 + 12, none⟩) hgd).trans v12⟩) (fun hHeld => ?_)
                  clear hK K
                  try simp only [Act.put, List.setIfInBounds_toArray, List.set_cons_zero, List.set_cons_succ]
                  refine wpAnyH_take (i := 6) (oi := { dst := some 139, op := Op.unOp UnOp.not 4 (Operand.tmp 138), type := 4, pos := "print.go:84", after := #[{ on := 5, ground := Ground.data }], guard := none }) (v := ?_) rfl (by kernel_rfl) (by kernel_rfl) (by kernel_rfl) (fun _ _ _ h => h) (Or.inl ⟨by rfl, ?_⟩) (by assumption) ?_
                  rotate_left
                  · intro w hSw
                    try dsimp only at hSw
                    go_simp
                    any_goals with_reducible rfl
                  try simp only [Act.put, List.setIfInBounds_toArray, List.set_cons_zero, List.set_cons_succ]
                  refine wpAnyH_take (i := 7) (oi := { dst := some 140, op := Op.move (Operand.tmp 139), type := 4, pos := "print.go:84", after := #[{ on := 6, ground := Ground.data }, { on := 5, ground := Ground.chain }], guard := none }) (v := ?_) rfl (by kernel_rfl) (by kernel_rfl) (by kernel_rfl) (fun _ _ _ h => h) (Or.inl ⟨by rfl, ?_⟩) (by assumption) ?_
                  rotate_left
                  · intro w hSw
                    try dsimp only at hSw
                    go_simp
                    any_goals with_reducible rfl
                  try simp only [Act.put, List.setIfInBounds_toArray, List.set_cons_zero, List.set_cons_succ]
                  refine wpAnyH_take (i := 8) (oi := { dst := some 141, op := Op.fieldAddr 39 (Operand.tmp 6) 1, type := 0, pos := "print.go:84", after := #[{ on := 7, ground := Ground.guard }], guard := some (7, false) }) (v := undef) rfl (by kernel_rfl) (by kernel_rfl) (by kernel_rfl) (fun _ _ _ h => h) (Or.inr ⟨by rfl, rfl⟩) (by assumption) ?_
                  try simp only [Act.put, List.setIfInBounds_toArray, List.set_cons_zero, List.set_cons_succ]
                  refine wpAnyH_take (i := 9) (oi := { dst := some 142, op := Op.load 37 (Operand.tmp 141), type := 37, pos := "print.go:84", after := #[{ on := 8, ground := Ground.data }, { on := 7, ground := Ground.guard }], guard := some (7, false) }) (v := undef) rfl (by kernel_rfl) (by kernel_rfl) (by kernel_rfl) (fun _ _ _ h => h) (Or.inr ⟨by rfl, rfl⟩) (by assumption) ?_
                  try simp only [Act.put, List.setIfInBounds_toArray, List.set_cons_zero, List.set_cons_succ]
                  refine wpAnyH_take (i := 10) (oi := { dst := some 143, op := Op.move (Operand.tmp 7), type := 3, pos := "print.go:84", after := #[{ on := 7, ground := Ground.guard }], guard := some (7, false) }) (v := undef) rfl (by kernel_rfl) (by kernel_rfl) (by kernel_rfl) (fun _ _ _ h => h) (Or.inr ⟨by rfl, rfl⟩) (by assumption) ?_
                  try simp only [Act.put, List.setIfInBounds_toArray, List.set_cons_zero, List.set_cons_succ]
                  refine wpAnyH_take (i := 11) (oi := { dst := some 144, op := Op.indexAddr 37 (Operand.tmp 142) (Operand.tmp 143), type := 0, pos := "print.go:84", after := #[{ on := 9, ground := Ground.data }, { on := 10, ground := Ground.data }, { on := 7, ground := Ground.guard }], guard := some (7, false) }) (v := undef) rfl (by kernel_rfl) (by kernel_rfl) (by kernel_rfl) (fun _ _ _ h => h) (Or.inr ⟨by rfl, rfl⟩) (by assumption) ?_
                  try simp only [Act.put, List.setIfInBounds_toArray, List.set_cons_zero, List.set_cons_succ]
                  refine wpAnyH_take (i := 12) (oi := { dst := some 145, op := Op.fieldAddr 41 (Operand.tmp 144) 5, type := 0, pos := "print.go:84", after := #[{ on := 11, ground := Ground.data }, { on := 7, ground := Ground.guard }], guard := some (7, false) }) (v := undef) rfl (by kernel_rfl) (by kernel_rfl) (by kernel_rfl) (fun _ _ _ h => h) (Or.inr ⟨by rfl, rfl⟩) (by assumption) ?_
                  try simp only [Act.put, List.setIfInBounds_toArray, List.set_cons_zero, List.set_cons_succ]
                  refine wpAnyH_take (i := 13) (oi := { dst := some 146, op := Op.load 4 (Operand.tmp 145), type := 4, pos := "print.go:84", after := #[{ on := 12, ground := Ground.data }, { on := 7, ground := Ground.guard }], guard := some (7, false) }) (v := undef) rfl (by kernel_rfl) (by kernel_rfl) (by kernel_rfl) (fun _ _ _ h => h) (Or.inr ⟨by rfl, rfl⟩) (by assumption) ?_
                  try simp only [Act.put, List.setIfInBounds_toArray, List.set_cons_zero, List.set_cons_succ]
                  refine wpAnyH_take (i := 14) (oi := { dst := some 147, op := Op.move (Operand.tmp 7), type := 3, pos := "print.go:84", after := #[{ on := 7, ground := Ground.guard }], guard := some (7, false) }) (v := undef) rfl (by kernel_rfl) (by kernel_rfl) (by kernel_rfl) (fun _ _ _ h => h) (Or.inr ⟨by rfl, rfl⟩) (by assumption) ?_
                  try simp only [Act.put, List.setIfInBounds_toArray, List.set_cons_zero, List.set_cons_succ]
                  refine wpAnyH_take (i := 15) (oi := { dst := some 148, op := Op.fieldAddr 39 (Operand.tmp 6) 1, type := 0, pos := "print.go:84", after := #[{ on := 7, ground := Ground.guard }], guard := some (7, false) }) (v := undef) rfl (by kernel_rfl) (by kernel_rfl) (by kernel_rfl) (fun _ _ _ h => h) (Or.inr ⟨by rfl, rfl⟩) (by assumption) ?_
                  try simp only [Act.put, List.setIfInBounds_toArray, List.set_cons_zero, List.set_cons_succ]
                  refine wpAnyH_take (i := 16) (oi := { dst := some 149, op := Op.load 37 (Operand.tmp 148), type := 37, pos := "print.go:84", after := #[{ on := 15, ground := Ground.data }, { on := 7, ground := Ground.guard }], guard := some (7, false) }) (v := undef) rfl (by kernel_rfl) (by kernel_rfl) (by kernel_rfl) (fun _ _ _ h => h) (Or.inr ⟨by rfl, rfl⟩) (by assumption) ?_
                  try simp only [Act.put, List.setIfInBounds_toArray, List.set_cons_zero, List.set_cons_succ]
                  refine wpAnyH_take (i := 17) (oi := { dst := some 150, op := Op.call { callee := Callee.builtin Builtin.len, args := #[Operand.tmp 149], argTypes := #[37] }, type := 3, pos := "print.go:84", after := #[{ on := 16, ground := Ground.data }, { on := 7, ground := Ground.guard }], guard := some (7, false) }) (v := undef) rfl (by kernel_rfl) (by kernel_rfl) (by kernel_rfl) (fun _ _ _ h => h) (Or.inr ⟨by rfl, rfl⟩) (by assumption) ?_
                  try simp only [Act.put, List.setIfInBounds_toArray, List.set_cons_zero, List.set_cons_succ]
                  refine wpAnyH_take (i := 18) (oi := { dst := some 151, op := Op.binOp BinOp.sub 3 (Operand.tmp 150) (Operand.const (Value.int IntKind.i64 1)) 3, type := 3, pos := "print.go:84", after := #[{ on := 17, ground := Ground.data }, { on := 7, ground := Ground.guard }], guard := some (7, false) }) (v := undef) rfl (by kernel_rfl) (by kernel_rfl) (by kernel_rfl) (fun _ _ _ h => h) (Or.inr ⟨by rfl, rfl⟩) (by assumption) ?_
                  try simp only [Act.put, List.setIfInBounds_toArray, List.set_cons_zero, List.set_cons_succ]
                  refine wpAnyH_take (i := 19) (oi := { dst := some 152, op := Op.binOp BinOp.eql 3 (Operand.tmp 147) (Operand.tmp 151) 3, type := 4, pos := "print.go:84", after := #[{ on := 14, ground := Ground.data }, { on := 18, ground := Ground.data }, { on := 7, ground := Ground.guard }], guard := some (7, false) }) (v := undef) rfl (by kernel_rfl) (by kernel_rfl) (by kernel_rfl) (fun _ _ _ h => h) (Or.inr ⟨by rfl, rfl⟩) (by assumption) ?_
                  try simp only [Act.put, List.setIfInBounds_toArray, List.set_cons_zero, List.set_cons_succ]
                  refine wpAnyH_take (i := 20) (oi := { dst := some 153, op := Op.binOp BinOp.eql 4 (Operand.tmp 146) (Operand.tmp 152) 4, type := 4, pos := "print.go:84", after := #[{ on := 13, ground := Ground.data }, { on := 19, ground := Ground.data }, { on := 7, ground := Ground.guard }], guard := some (7, false) }) (v := undef) rfl (by kernel_rfl) (by kernel_rfl) (by kernel_rfl) (fun _ _ _ h => h) (Or.inr ⟨by rfl, rfl⟩) (by assumption) ?_
                  try simp only [Act.put, List.setIfInBounds_toArray, List.set_cons_zero, List.set_cons_succ]
                  refine wpAnyH_take (i := 21) (oi := { dst := some 154, op := Op.pick (Operand.tmp 140) (Operand.const (Value.bool true)) (Operand.tmp 153), type := 4, pos := "print.go:84", after := #[{ on := 7, ground := Ground.data }, { on := 20, ground := Ground.data }], guard := none }) (v := ?_) rfl (by kernel_rfl) (by kernel_rfl) (by kernel_rfl) (fun _ _ _ h => h) (Or.inl ⟨by rfl, ?_⟩) (by assumption) ?_
                  rotate_left
                  · intro w hSw
                    try dsimp only at hSw
                    go_simp
                    any_goals with_reducible rfl
                  try simp only [Act.put, List.setIfInBounds_toArray, List.set_cons_zero, List.set_cons_succ]
                  refine wpAnyH_done (by kernel_rfl) ?_ _
                  refine NoPanic.normal ?_
                  go_wp2_with fail
                  go_ret
                  exact ⟨rfl, hB0.trans ((kb.trans (KN.mono kb.size)).mono hB0.size)⟩
              · obtain rfl : j = u := by omega
                have ZOK := Lib.hid (show Zn.ok ⟨nm, er⟩ from ⟨g1, by simp only [EL.out]; omega, fun x hx => by
                  obtain ⟨t, ht, rfl⟩ := List.mem_iff_getElem.1 hx
                  exact (HE.out t _ (EL.out ▸ ht) (List.getElem?_eq_getElem ht)).1, tilOk_of (by rintro rfl; have := EL.out; simp at this; omega) (fun t x e => by
                  rw [EL.out]
                  exact (HE.out t x (by have ht' : t < er.length := (List.getElem?_eq_some_iff.1 e).1; have := EL.out; omega) e).2)⟩)
                go_wp2_with fail
                go_roundw
                case rel => exact ⟨i + 1, by omega, int_is (by omega), STEP.out ZOK.out, kb.trans (hb3.mono kb.size)⟩
                case measure => simp only [intOf]; omega
        · obtain rfl : i = m := by omega
          have ZU := Lib.hid (show ∀ x ∈ S.zones, x.ok from fun x hx => by
            obtain ⟨j, hj, rfl⟩ := List.mem_iff_getElem.1 hx
            exact HZ.out j _ (by omega) (List.getElem?_eq_getElem hj))
          clear HZ
          go_wp2_with fail
          clear p1
          go_loopw [8] (fun v wr => ∃ k : Nat, k ≤ q ∧ v = .int .i64 k ∧ (∀ j x, j < k → S.links[j]? = some x → x.ok) ∧ Below W0.heap.size W0 wr) (fun v _ => q - (intOf v).toNat)
          case atStart => exact ⟨0, by omega, rfl, fun j x h => absurd h (by omega), hbel⟩
          case round =>
            clear hbel hi h5
            obtain ⟨k, hk, rfl, hL, hbel⟩ := hrel
            have HL := Lib.hid hL
            clear hL
            have p2 := (hbel.cell (p := ⟨w.heap.size, 2, none⟩) (by show w.heap.size < _; omega)).trans P.out.2.2
            by_cases h6 : k < q
            · obtain ⟨x, hxx⟩ : ∃ x, S.links[k]? = some x := ⟨_, List.getElem?_eq_getElem (by omega)⟩
              obtain ⟨g, o, ea, hg, ca⟩ := (HA.out.links.below hbel).cells (by show 0 < q; omega)
              replace ea : C = some ⟨g, o, none⟩ := ea
              subst ea
              have STEP := Lib.hid (show x.ok → ∀ j y, j < k + 1 → S.links[j]? = some y → y.ok from fun ok j y hj hy => by
                by_cases e : j = k
                · subst e; rw [hxx] at hy; cases hy; exact ok
                · exact HL.out j y (by omega) hy)
              have BAD := Lib.hid (show ¬ x.ok → bb = false from fun no => NO.out (fun ok => no (ok.2.2.2.2.2 x (List.mem_of_getElem? hxx))))
              have I := Lib.hid (hx.out.2.2 x (List.mem_of_getElem? hxx))
              have ra := row_at ca (show (S.links.map Lk.vals)[k]? = some x.vals by rw [List.getElem?_map, hxx]; rfl)
              obtain ⟨t1, t2⟩ := x
              have x0 : wr.cell? ⟨g, o + k * 2, none⟩ = some (.string t1) := ra 0 _ rfl
              have x1 : wr.cell? ⟨g, o + k * 2 + 1, none⟩ = some (.string t2) := ra 1 _ rfl
              clear ca ra hxx
              have PA := fun W => placeR t1 I.out.1 W
              have PB := fun W => placeR t2 I.out.2 W
              cases g1 : placeB t1 with
              | false =>
                rw [g1] at PA
                clear PB
                replace PA := Lib.hid PA
                have := BAD.out (fun c => by have := c.1; simp only at this; rw [g1] at this; cases this)
                subst this
                go_wp2_with first
                  | (go_at_call 64; refine (PA.out _).mono ?_; rintro e' w' ⟨rfl, rfl⟩)
                go_ret
                exact ⟨rfl, hB0.trans (hbel.mono hB0.size)⟩
              | true =>
                rw [g1] at PA
                replace PA := Lib.hid PA
                cases g2 : placeB t2 with
                | false =>
                  rw [g2] at PB
                  replace PB := Lib.hid PB
                  have := BAD.out (fun c => by have := c.2; simp only at this; rw [g2] at this; cases this)
                  subst this
                  go_wp2_with first
                    | (go_at_call 64; refine (PA.out _).mono ?_; rintro e' w' ⟨rfl, rfl⟩; clear PA)
                    | (go_at_call 64; refine (PB.out _).mono ?_; rintro e' w' ⟨rfl, rfl⟩)
                  go_ret
                  exact ⟨rfl, hB0.trans (hbel.mono hB0.size)⟩
                | true =>
                  rw [g2] at PB
                  replace PB := Lib.hid PB
                  have OK := Lib.hid (show Lk.ok ⟨t1, t2⟩ from ⟨g1, g2⟩)
                  go_wp2_with first
                    | (go_at_call 64; refine (PA.out _).mono ?_; rintro e' w' ⟨rfl, rfl⟩; clear PA)
                    | (go_at_call 64; refine (PB.out _).mono ?_; rintro e' w' ⟨rfl, rfl⟩)
                  go_roundw
                  case rel => exact ⟨k + 1, by omega, int_is (by omega), STEP.out OK.out, hbel⟩
                  case measure => simp only [intOf]; omega
            · obtain rfl : k = q := by omega
              have := YES.out ⟨by omega, by omega, by omega, RU.out, ZU.out, fun x hx => by
                obtain ⟨j, hj, rfl⟩ := List.mem_iff_getElem.1 hx
                exact HL.out j _ (by omega) (List.getElem?_eq_getElem hj)⟩
              subst this
              go_wp2_with fail
              go_ret
              exact ⟨rfl, hB0.trans (hbel.mono hB0.size)⟩
theorem boundedR (S : Sr) (hx : S.in64) (r z l : Hd) (ze : List Ze) (w : World) (ha : SrcV w S r z l ze) : Calls Tryz.prog 37 #[.agg #[r.val, z.val, l.val]] w (RetV w (.bool (okSr S))) :=
  bounded_of (okSr S) S (Lib.hid okSr_no) (Lib.hid okSr_yes) (Lib.hid hx) r z l ze w ha
end Go.Proofs.YtmhpnmlgfdomkaaGreatDoor
namespace Go.Proofs.YtmhpnmlgfdomkaaGreatDoor
open Go.RowKit
theorem prd_r (A B C : Option Addr) (n c m d q e : Nat) (w : World) (b : Bool)
    (H1 : Hid (∀ W, Below w.heap.size w W → Calls Tryz.prog 37 #[.agg #[.slice A n c, .slice B m d, .slice C q e]] W (RetV W (.bool b)))) :
    Calls Tryz.prog 13 #[.agg #[.slice A n c, .slice B m d, .slice C q e]] w (RetV w (.bool b)) := by
  go_enter Tryz.func13, Tryz.ntmps13
  go_upto_region 1 with (fail)
  have KB := blk_lit w 26 [.slice A n c, .slice B m d, .slice C q e]
  have hb := below_box w (.cells #[.slice A n c, .slice B m d, .slice C q e] 26)
  generalize w.alloc (.cells #[.slice A n c, .slice B m d, .slice C q e] 26) = W at *
  obtain ⟨_, x0, x1, x2, _⟩ := KB.three
  go_wp2_with first
    | (go_at_call 37; refine (H1.out _ hb).mono ?_; clear H1; rintro e w2 ⟨rfl, hk⟩; replace hb := below_thru hb hk; replace KB := KB.below hk; clear hk x0 x1 x2; obtain ⟨_, x0, x1, x2, _⟩ := KB.three)
  go_ret
  exact ⟨rfl, hb⟩
theorem srcRightDR (S : Sr) (a b c : Hd) (ze : List Ze) (w : World) (hv : SrcV w S a b c ze) (hx : S.in64) : Calls Tryz.prog 13 #[.agg #[a.val, b.val, c.val]] w (RetV w (.bool (okSr S))) := by
  obtain ⟨A, n, c1⟩ := a
  obtain ⟨B, m, d⟩ := b
  obtain ⟨C, q, e⟩ := c
  exact prd_r A B C n c1 m d q e w _ (Lib.hid fun W hb => boundedR S hx ⟨A, n, c1⟩ ⟨B, m, d⟩ ⟨C, q, e⟩ ze W (hv.below hb))
end Go.Proofs.YtmhpnmlgfdomkaaGreatDoor
