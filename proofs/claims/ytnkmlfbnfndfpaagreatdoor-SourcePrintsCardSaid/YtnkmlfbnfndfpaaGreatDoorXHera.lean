/- The document's answer of layer 10: may an era be? -/
import Derived.Test.YtnkmlfbnfndfpaaGreatDoorXHok
import Derived.Test.YtnkmlfbnfndfpaaGreatDoorXHsame
import Derived.Test.YtnkmlfbnfndfpaaGreatDoorXGj
import Derived.Test.YtnkmlfbnfndfpaaGreatDoorXUright
set_option maxRecDepth 100000
set_option maxHeartbeats 64000000
namespace Go.Proofs.YtnkmlfbnfndfpaaGreatDoor
open Go.RowKit
set_option linter.unusedVariables false
theorem ne_toListE {t : ByteArray} (h : ¬ t = ⟨#[]⟩) : ¬ t.toList = [] := by
  intro c
  apply h
  have : t.data.toList = [] := by rw [← c]; exact (ByteArray.toList_eq t).symm
  apply ByteArray.ext
  exact Array.toList_eq_nil_iff.1 this
theorem eraN0 (off kind save year mo ki wd da ti re : Int) (rules fmt : ByteArray) (til : Bool) (hr : rules.size ≤ maxLen) (hf : fmt.size ≤ maxLen) (w : World) (h1 : off ≤ -86400) :
    Calls Tryz.prog 68 #[.agg #[.int .i64 off, .int .i64 kind, .int .i64 save, .string rules, .string fmt, .bool til, .int .i64 year, .int .i64 mo, .int .i64 ki, .int .i64 wd, .int .i64 da, .int .i64 ti, .int .i64 re]] w (RetV w (.bool false)) := by
  clear hr hf
  go_enter Tryz.func68, Tryz.ntmps68
  go_wp2
  go_ret
  exact ⟨rfl, (Below.refl _ w).alloc (Nat.le_refl _) _⟩
theorem eraN1 (off kind save year mo ki wd da ti re : Int) (rules fmt : ByteArray) (til : Bool) (hr : rules.size ≤ maxLen) (hf : fmt.size ≤ maxLen) (w : World) (h1 : ¬ off ≤ -86400) (h2 : 86400 ≤ off) :
    Calls Tryz.prog 68 #[.agg #[.int .i64 off, .int .i64 kind, .int .i64 save, .string rules, .string fmt, .bool til, .int .i64 year, .int .i64 mo, .int .i64 ki, .int .i64 wd, .int .i64 da, .int .i64 ti, .int .i64 re]] w (RetV w (.bool false)) := by
  clear hr hf
  go_enter Tryz.func68, Tryz.ntmps68
  go_wp2
  go_ret
  exact ⟨rfl, (Below.refl _ w).alloc (Nat.le_refl _) _⟩
theorem eraN2 (off kind save year mo ki wd da ti re : Int) (rules fmt : ByteArray) (til : Bool) (hr : rules.size ≤ maxLen) (hf : fmt.size ≤ maxLen) (w : World) (h1 : ¬ off ≤ -86400) (h2 : ¬ 86400 ≤ off) (h3 : 43200 < save) :
    Calls Tryz.prog 68 #[.agg #[.int .i64 off, .int .i64 kind, .int .i64 save, .string rules, .string fmt, .bool til, .int .i64 year, .int .i64 mo, .int .i64 ki, .int .i64 wd, .int .i64 da, .int .i64 ti, .int .i64 re]] w (RetV w (.bool false)) := by
  clear hr hf
  go_enter Tryz.func68, Tryz.ntmps68
  go_wp2
  go_ret
  exact ⟨rfl, (Below.refl _ w).alloc (Nat.le_refl _) _⟩
theorem eraN3 (off kind save year mo ki wd da ti re : Int) (rules fmt : ByteArray) (til : Bool) (hr : rules.size ≤ maxLen) (hf : fmt.size ≤ maxLen) (w : World) (h1 : ¬ off ≤ -86400) (h2 : ¬ 86400 ≤ off) (h3 : ¬ 43200 < save) (h4 : save < -43200) :
    Calls Tryz.prog 68 #[.agg #[.int .i64 off, .int .i64 kind, .int .i64 save, .string rules, .string fmt, .bool til, .int .i64 year, .int .i64 mo, .int .i64 ki, .int .i64 wd, .int .i64 da, .int .i64 ti, .int .i64 re]] w (RetV w (.bool false)) := by
  clear hr hf
  go_enter Tryz.func68, Tryz.ntmps68
  go_wp2
  go_ret
  exact ⟨rfl, (Below.refl _ w).alloc (Nat.le_refl _) _⟩
theorem eraN4 (off kind save year mo ki wd da ti re : Int) (rules fmt : ByteArray) (til : Bool) (hr : rules.size ≤ maxLen) (hf : fmt.size ≤ maxLen) (w : World) (h1 : ¬ off ≤ -86400) (h2 : ¬ 86400 ≤ off) (h3 : ¬ 43200 < save) (h4 : ¬ save < -43200) (h5 : formatB fmt = false) :
    Calls Tryz.prog 68 #[.agg #[.int .i64 off, .int .i64 kind, .int .i64 save, .string rules, .string fmt, .bool til, .int .i64 year, .int .i64 mo, .int .i64 ki, .int .i64 wd, .int .i64 da, .int .i64 ti, .int .i64 re]] w (RetV w (.bool false)) := by
  clear hr
  have FW := Lib.hid (fun w => (h5 ▸ formatR fmt hf w : Calls Tryz.prog 79 #[.string fmt] w (SameV w (.bool false))))
  clear h5 hf
  go_enter Tryz.func68, Tryz.ntmps68
  go_wp2_with first
    | (go_at_call 79; refine (FW.out _).mono ?_; clear FW; rintro e w' ⟨rfl, rfl⟩)
  go_ret
  exact ⟨rfl, (Below.refl _ w).alloc (Nat.le_refl _) _⟩
theorem eraN5 (off kind save year mo ki wd da ti re : Int) (rules fmt : ByteArray) (til : Bool) (hr : rules.size ≤ maxLen) (hf : fmt.size ≤ maxLen) (w : World) (h1 : ¬ off ≤ -86400) (h2 : ¬ 86400 ≤ off) (h3 : ¬ 43200 < save) (h4 : ¬ save < -43200) (h5 : formatB fmt = true) (h6 : kind < 0) :
    Calls Tryz.prog 68 #[.agg #[.int .i64 off, .int .i64 kind, .int .i64 save, .string rules, .string fmt, .bool til, .int .i64 year, .int .i64 mo, .int .i64 ki, .int .i64 wd, .int .i64 da, .int .i64 ti, .int .i64 re]] w (RetV w (.bool false)) := by
  clear hr
  have FW := Lib.hid (fun w => (h5 ▸ formatR fmt hf w : Calls Tryz.prog 79 #[.string fmt] w (SameV w (.bool true))))
  clear h5 hf
  go_enter Tryz.func68, Tryz.ntmps68
  go_wp2_with first
    | (go_at_call 79; refine (FW.out _).mono ?_; clear FW; rintro e w' ⟨rfl, rfl⟩)
  go_ret
  exact ⟨rfl, (Below.refl _ w).alloc (Nat.le_refl _) _⟩
theorem eraN6 (off kind save year mo ki wd da ti re : Int) (rules fmt : ByteArray) (til : Bool) (hr : rules.size ≤ maxLen) (hf : fmt.size ≤ maxLen) (w : World) (h1 : ¬ off ≤ -86400) (h2 : ¬ 86400 ≤ off) (h3 : ¬ 43200 < save) (h4 : ¬ save < -43200) (h5 : formatB fmt = true) (h6 : ¬ kind < 0) (h7 : 2 < kind) :
    Calls Tryz.prog 68 #[.agg #[.int .i64 off, .int .i64 kind, .int .i64 save, .string rules, .string fmt, .bool til, .int .i64 year, .int .i64 mo, .int .i64 ki, .int .i64 wd, .int .i64 da, .int .i64 ti, .int .i64 re]] w (RetV w (.bool false)) := by
  clear hr
  have FW := Lib.hid (fun w => (h5 ▸ formatR fmt hf w : Calls Tryz.prog 79 #[.string fmt] w (SameV w (.bool true))))
  clear h5 hf
  go_enter Tryz.func68, Tryz.ntmps68
  go_wp2_with first
    | (go_at_call 79; refine (FW.out _).mono ?_; clear FW; rintro e w' ⟨rfl, rfl⟩)
  go_ret
  exact ⟨rfl, (Below.refl _ w).alloc (Nat.le_refl _) _⟩
theorem eraN7 (off kind save year mo ki wd da ti re : Int) (rules fmt : ByteArray) (til : Bool) (hr : rules.size ≤ maxLen) (hf : fmt.size ≤ maxLen) (w : World) (h1 : ¬ off ≤ -86400) (h2 : ¬ 86400 ≤ off) (h3 : ¬ 43200 < save) (h4 : ¬ save < -43200) (h5 : formatB fmt = true) (h8 : ¬ save = 0) (hk : kind = 0) :
    Calls Tryz.prog 68 #[.agg #[.int .i64 off, .int .i64 kind, .int .i64 save, .string rules, .string fmt, .bool til, .int .i64 year, .int .i64 mo, .int .i64 ki, .int .i64 wd, .int .i64 da, .int .i64 ti, .int .i64 re]] w (RetV w (.bool false)) := by
  subst hk
  clear hr
  have sv1 : (save != 0) = true := bne_iff_ne.2 h8
  have sv2 : (save == 0) = false := beq_eq_false_iff_ne.2 h8
  clear h8
  have FW := Lib.hid (fun w => (h5 ▸ formatR fmt hf w : Calls Tryz.prog 79 #[.string fmt] w (SameV w (.bool true))))
  clear h5 hf
  go_enter Tryz.func68, Tryz.ntmps68
  go_wp2_with first
    | (go_at_call 79; refine (FW.out _).mono ?_; clear FW; rintro e w' ⟨rfl, rfl⟩)
  go_ret
  exact ⟨rfl, (Below.refl _ w).alloc (Nat.le_refl _) _⟩
theorem eraN8 (off kind save year mo ki wd da ti re : Int) (rules fmt : ByteArray) (til : Bool) (hr : rules.size ≤ maxLen) (hf : fmt.size ≤ maxLen) (w : World) (h1 : ¬ off ≤ -86400) (h2 : ¬ 86400 ≤ off) (h3 : ¬ 43200 < save) (h4 : ¬ save < -43200) (h5 : formatB fmt = true) (h8 : save = 0) (h9 : ¬ rules = ⟨#[]⟩) (hk : kind = 0) :
    Calls Tryz.prog 68 #[.agg #[.int .i64 off, .int .i64 kind, .int .i64 save, .string rules, .string fmt, .bool til, .int .i64 year, .int .i64 mo, .int .i64 ki, .int .i64 wd, .int .i64 da, .int .i64 ti, .int .i64 re]] w (RetV w (.bool false)) := by
  subst hk h8
  clear hr
  have ne2 := ne_toListE h9
  have ne : rules.toList.isEmpty = false := List.isEmpty_eq_false_iff.2 ne2
  clear h9
  have FW := Lib.hid (fun w => (h5 ▸ formatR fmt hf w : Calls Tryz.prog 79 #[.string fmt] w (SameV w (.bool true))))
  clear h5 hf
  go_enter Tryz.func68, Tryz.ntmps68
  go_wp2_with first
    | (go_at_call 79; refine (FW.out _).mono ?_; clear FW; rintro e w' ⟨rfl, rfl⟩)
  go_ret
  exact ⟨rfl, (Below.refl _ w).alloc (Nat.le_refl _) _⟩
theorem eraN9 (off kind save year mo ki wd da ti re : Int) (rules fmt : ByteArray) (til : Bool) (hr : rules.size ≤ maxLen) (hf : fmt.size ≤ maxLen) (w : World) (h1 : ¬ off ≤ -86400) (h2 : ¬ 86400 ≤ off) (h3 : ¬ 43200 < save) (h4 : ¬ save < -43200) (h5 : formatB fmt = true) (h9 : ¬ rules = ⟨#[]⟩) (hk : kind = 1) :
    Calls Tryz.prog 68 #[.agg #[.int .i64 off, .int .i64 kind, .int .i64 save, .string rules, .string fmt, .bool til, .int .i64 year, .int .i64 mo, .int .i64 ki, .int .i64 wd, .int .i64 da, .int .i64 ti, .int .i64 re]] w (RetV w (.bool false)) := by
  subst hk
  clear hr
  have ne2 := ne_toListE h9
  have ne : rules.toList.isEmpty = false := List.isEmpty_eq_false_iff.2 ne2
  clear h9
  have FW := Lib.hid (fun w => (h5 ▸ formatR fmt hf w : Calls Tryz.prog 79 #[.string fmt] w (SameV w (.bool true))))
  clear h5 hf
  go_enter Tryz.func68, Tryz.ntmps68
  go_wp2_with first
    | (go_at_call 79; refine (FW.out _).mono ?_; clear FW; rintro e w' ⟨rfl, rfl⟩)
  go_ret
  exact ⟨rfl, (Below.refl _ w).alloc (Nat.le_refl _) _⟩
theorem eraN10 (off kind save year mo ki wd da ti re : Int) (rules fmt : ByteArray) (til : Bool) (hr : rules.size ≤ maxLen) (hf : fmt.size ≤ maxLen) (w : World) (h1 : ¬ off ≤ -86400) (h2 : ¬ 86400 ≤ off) (h3 : ¬ 43200 < save) (h4 : ¬ save < -43200) (h5 : formatB fmt = true) (h8 : ¬ save = 0) (hk : kind = 2) :
    Calls Tryz.prog 68 #[.agg #[.int .i64 off, .int .i64 kind, .int .i64 save, .string rules, .string fmt, .bool til, .int .i64 year, .int .i64 mo, .int .i64 ki, .int .i64 wd, .int .i64 da, .int .i64 ti, .int .i64 re]] w (RetV w (.bool false)) := by
  subst hk
  clear hr
  have sv1 : (save != 0) = true := bne_iff_ne.2 h8
  have sv2 : (save == 0) = false := beq_eq_false_iff_ne.2 h8
  clear h8
  have FW := Lib.hid (fun w => (h5 ▸ formatR fmt hf w : Calls Tryz.prog 79 #[.string fmt] w (SameV w (.bool true))))
  clear h5 hf
  go_enter Tryz.func68, Tryz.ntmps68
  go_wp2_with first
    | (go_at_call 79; refine (FW.out _).mono ?_; clear FW; rintro e w' ⟨rfl, rfl⟩)
  go_ret
  exact ⟨rfl, (Below.refl _ w).alloc (Nat.le_refl _) _⟩
theorem eraN11 (off kind save year mo ki wd da ti re : Int) (rules fmt : ByteArray) (til : Bool) (hr : rules.size ≤ maxLen) (hf : fmt.size ≤ maxLen) (w : World) (h1 : ¬ off ≤ -86400) (h2 : ¬ 86400 ≤ off) (h3 : ¬ 43200 < save) (h4 : ¬ save < -43200) (h5 : formatB fmt = true) (h8 : save = 0) (h10 : setB rules = false) (hk : kind = 2) :
    Calls Tryz.prog 68 #[.agg #[.int .i64 off, .int .i64 kind, .int .i64 save, .string rules, .string fmt, .bool til, .int .i64 year, .int .i64 mo, .int .i64 ki, .int .i64 wd, .int .i64 da, .int .i64 ti, .int .i64 re]] w (RetV w (.bool false)) := by
  subst hk h8
  have SW := Lib.hid (fun w => (h10 ▸ setR rules hr w : Calls Tryz.prog 19 #[.string rules] w (SameV w (.bool false))))
  clear h10 hr
  have FW := Lib.hid (fun w => (h5 ▸ formatR fmt hf w : Calls Tryz.prog 79 #[.string fmt] w (SameV w (.bool true))))
  clear h5 hf
  go_enter Tryz.func68, Tryz.ntmps68
  go_wp2_with first
    | (go_at_call 79; refine (FW.out _).mono ?_; clear FW; rintro e w' ⟨rfl, rfl⟩)
    | (go_at_call 19; refine (SW.out _).mono ?_; clear SW; rintro e w' ⟨rfl, rfl⟩)
  go_ret
  exact ⟨rfl, (Below.refl _ w).alloc (Nat.le_refl _) _⟩
end Go.Proofs.YtnkmlfbnfndfpaaGreatDoor
