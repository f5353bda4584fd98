/- The document's answer of layer 9: a spot's texts. -/
import Derived.Test.YtnkmlfbnfndfpaaGreatDoorXUdig
import Derived.Test.YtnkmlfbnfndfpaaGreatDoorXUright
import Derived.Deep.RegionHeld3
import Derived.Outline
set_option maxRecDepth 100000
set_option maxHeartbeats 64000000
namespace Go.Proofs.YtnkmlfbnfndfpaaGreatDoor
open Go.RowKit
def mon3 : List ByteArray := [⟨#[74, 97, 110]⟩, ⟨#[70, 101, 98]⟩, ⟨#[77, 97, 114]⟩, ⟨#[65, 112, 114]⟩, ⟨#[77, 97, 121]⟩, ⟨#[74, 117, 110]⟩, ⟨#[74, 117, 108]⟩, ⟨#[65, 117, 103]⟩, ⟨#[83, 101, 112]⟩, ⟨#[79, 99, 116]⟩, ⟨#[78, 111, 118]⟩, ⟨#[68, 101, 99]⟩]
def wd3 : List ByteArray := [⟨#[]⟩, ⟨#[77, 111, 110]⟩, ⟨#[84, 117, 101]⟩, ⟨#[87, 101, 100]⟩, ⟨#[84, 104, 117]⟩, ⟨#[70, 114, 105]⟩, ⟨#[83, 97, 116]⟩, ⟨#[83, 117, 110]⟩]
structure PB (w : World) (x0 x1 x2 x3 x4 x5 : Value) (k j : Nat) (mo wd : ByteArray) (W : World) : Prop where
  bx : Blk W w.heap.size [x0, x1, x2, x3, x4, x5]
  mc : W.cell? ⟨w.heap.size + 1, k, none⟩ = some (.string mo)
  wc : W.cell? ⟨w.heap.size + 2, j, none⟩ = some (.string wd)
  lt : w.heap.size + 3 ≤ W.heap.size
  hb : Below w.heap.size w W
section
variable {w W W' : World} {x0 x1 x2 x3 x4 x5 : Value} {k j : Nat} {mo wd : ByteArray}
theorem PB.below (h : PB w x0 x1 x2 x3 x4 x5 k j mo wd W) (b : Below W.heap.size W W') : PB w x0 x1 x2 x3 x4 x5 k j mo wd W' :=
  have l := h.lt
  ⟨h.bx.below b, (b.cell (p := ⟨_, _, none⟩) (by show _ + 1 < _; omega)).trans h.mc, (b.cell (p := ⟨_, _, none⟩) (by show _ + 2 < _; omega)).trans h.wc, Nat.le_trans l b.size, below_thru h.hb b⟩
theorem PB.drew (h : PB w x0 x1 x2 x3 x4 x5 k j mo wd W) : PB w x0 x1 x2 x3 x4 x5 k j mo wd W.drew := h.below (Below.refl _ _).drew
end
theorem PB.start (w : World) (x0 x1 x2 x3 x4 x5 : Value) (k j : Nat) (mo wd : ByteArray) (em : mon3[k]? = some mo) (ew : wd3[j]? = some wd) (t t' : TypeId) :
    PB w x0 x1 x2 x3 x4 x5 k j mo wd (((w.alloc (.cells #[x0, x1, x2, x3, x4, x5] t)).alloc (.cells (strs mon3).toArray t')).alloc (.cells (strs wd3).toArray t')) := by
  have b1 := Blk.new6 w x0 x1 x2 x3 x4 x5 t
  generalize hu : w.alloc (.cells #[x0, x1, x2, x3, x4, x5] t) = u at *
  have s1 : u.heap.size = w.heap.size + 1 := by rw [← hu]; simp
  have B1 : Below w.heap.size w u := by rw [← hu]; exact below_box _ _
  have B2 := below_box u (.cells (strs mon3).toArray t')
  have B3 := below_box (u.alloc (.cells (strs mon3).toArray t')) (.cells (strs wd3).toArray t')
  obtain ⟨hk, rfl⟩ := List.getElem?_eq_some_iff.1 em
  obtain ⟨hj, rfl⟩ := List.getElem?_eq_some_iff.1 ew
  refine ⟨(b1.below B2).below B3, ?_, ?_, by simp; omega, below_thru (below_thru B1 B2) B3⟩
  · have c : (u.alloc (.cells (strs mon3).toArray t')).cell? ⟨w.heap.size + 1, k, none⟩ = some (.string mon3[k]) := by rw [← s1]; simp [strs, hk]
    exact (B3.cell (p := ⟨_, _, none⟩) (by show w.heap.size + 1 < _; simp; omega)).trans c
  · rw [show w.heap.size + 2 = (u.alloc (.cells (strs mon3).toArray t')).heap.size by simp; omega]
    simp [strs, hj]
theorem pr_00 (k j : Nat) (da ti : Int) (hk : k < 12) (_hj : j < 8) (d t mo wd : ByteArray) (em : mon3[k]? = some mo) (ew : wd3[j]? = some wd) (_wz : wd.size ≤ 3) (_tz : t.size ≤ 26) (DI : Hid (∀ W, Calls Tryz.prog 92 #[.int .i64 da] W (RetV W (.string d)))) (_dz : d.size ≤ 19) (TI : Hid (∀ W, Calls Tryz.prog 58 #[.int .i64 ti] W (RetV W (.string t)))) (w : World) :
    Calls Tryz.prog 91 #[.agg #[.int .i64 ((k : Int) + 1), .int .i64 0, .int .i64 j, .int .i64 da, .int .i64 ti, .int .i64 0]] w (RetSs w [mo, d, t]) := by
  go_enter Tryz.func91, Tryz.ntmps91
  go_upto_region 3 with (fail)
  have KB : PB w (.int .i64 ((k : Int) + 1)) (.int .i64 0) (.int .i64 j) (.int .i64 da) (.int .i64 ti) (.int .i64 0) k j mo wd (((w.alloc (.cells #[.int .i64 ((k : Int) + 1), .int .i64 0, .int .i64 j, .int .i64 da, .int .i64 ti, .int .i64 0] 50)).alloc (.cells #[.string ⟨#[74, 97, 110]⟩, .string ⟨#[70, 101, 98]⟩, .string ⟨#[77, 97, 114]⟩, .string ⟨#[65, 112, 114]⟩, .string ⟨#[77, 97, 121]⟩, .string ⟨#[74, 117, 110]⟩, .string ⟨#[74, 117, 108]⟩, .string ⟨#[65, 117, 103]⟩, .string ⟨#[83, 101, 112]⟩, .string ⟨#[79, 99, 116]⟩, .string ⟨#[78, 111, 118]⟩, .string ⟨#[68, 101, 99]⟩] 9)).alloc (.cells #[.string ⟨#[]⟩, .string ⟨#[77, 111, 110]⟩, .string ⟨#[84, 117, 101]⟩, .string ⟨#[87, 101, 100]⟩, .string ⟨#[84, 104, 117]⟩, .string ⟨#[70, 114, 105]⟩, .string ⟨#[83, 97, 116]⟩, .string ⟨#[83, 117, 110]⟩] 9)) := PB.start w _ _ _ _ _ _ k j mo wd em ew _ _
  generalize (((w.alloc (.cells #[.int .i64 ((k : Int) + 1), .int .i64 0, .int .i64 j, .int .i64 da, .int .i64 ti, .int .i64 0] 50)).alloc (.cells #[.string ⟨#[74, 97, 110]⟩, .string ⟨#[70, 101, 98]⟩, .string ⟨#[77, 97, 114]⟩, .string ⟨#[65, 112, 114]⟩, .string ⟨#[77, 97, 121]⟩, .string ⟨#[74, 117, 110]⟩, .string ⟨#[74, 117, 108]⟩, .string ⟨#[65, 117, 103]⟩, .string ⟨#[83, 101, 112]⟩, .string ⟨#[79, 99, 116]⟩, .string ⟨#[78, 111, 118]⟩, .string ⟨#[68, 101, 99]⟩] 9)).alloc (.cells #[.string ⟨#[]⟩, .string ⟨#[77, 111, 110]⟩, .string ⟨#[84, 117, 101]⟩, .string ⟨#[87, 101, 100]⟩, .string ⟨#[84, 104, 117]⟩, .string ⟨#[70, 114, 105]⟩, .string ⟨#[83, 97, 116]⟩, .string ⟨#[83, 117, 110]⟩] 9)) = w0 at *
  clear em ew
  obtain ⟨_, q0, q1, q2, q3, q4, q5, _⟩ := KB.bx.six
  go_wp2_with fail
  clear q0 q1 q2 q3 q4 q5
  refine (DI.out _).mono ?_
  rintro e w1 ⟨rfl, k⟩
  replace KB := KB.below k
  clear k
  obtain ⟨_, q0, q1, q2, q3, q4, q5, _⟩ := KB.bx.six
  go_wp2_with fail
  clear q0 q1 q2 q3 q4 q5
  refine (TI.out _).mono ?_
  rintro e w2 ⟨rfl, k⟩
  replace KB := KB.below k
  clear k
  obtain ⟨_, q0, q1, q2, q3, q4, q5, _⟩ := KB.bx.six
  have mc := KB.mc
  have HB := KB.hb
  have sz := HB.size
  go_wp2
  go_ret
  exact ⟨_, _, _, rfl, Ss.lit _ [mo, d, t] _ (by show 0 < 3; decide) (by show 3 ≤ 100; decide), HB.alloc sz _⟩
theorem pr_01 (k j : Nat) (da ti : Int) (hk : k < 12) (_hj : j < 8) (d t mo wd : ByteArray) (em : mon3[k]? = some mo) (ew : wd3[j]? = some wd) (_wz : wd.size ≤ 3) (tz : t.size ≤ 26) (DI : Hid (∀ W, Calls Tryz.prog 92 #[.int .i64 da] W (RetV W (.string d)))) (_dz : d.size ≤ 19) (TI : Hid (∀ W, Calls Tryz.prog 58 #[.int .i64 ti] W (RetV W (.string t)))) (w : World) :
    Calls Tryz.prog 91 #[.agg #[.int .i64 ((k : Int) + 1), .int .i64 0, .int .i64 j, .int .i64 da, .int .i64 ti, .int .i64 1]] w (RetSs w [mo, d, t ++ ⟨#[115]⟩]) := by
  go_enter Tryz.func91, Tryz.ntmps91
  go_upto_region 3 with (fail)
  have KB : PB w (.int .i64 ((k : Int) + 1)) (.int .i64 0) (.int .i64 j) (.int .i64 da) (.int .i64 ti) (.int .i64 1) k j mo wd (((w.alloc (.cells #[.int .i64 ((k : Int) + 1), .int .i64 0, .int .i64 j, .int .i64 da, .int .i64 ti, .int .i64 1] 50)).alloc (.cells #[.string ⟨#[74, 97, 110]⟩, .string ⟨#[70, 101, 98]⟩, .string ⟨#[77, 97, 114]⟩, .string ⟨#[65, 112, 114]⟩, .string ⟨#[77, 97, 121]⟩, .string ⟨#[74, 117, 110]⟩, .string ⟨#[74, 117, 108]⟩, .string ⟨#[65, 117, 103]⟩, .string ⟨#[83, 101, 112]⟩, .string ⟨#[79, 99, 116]⟩, .string ⟨#[78, 111, 118]⟩, .string ⟨#[68, 101, 99]⟩] 9)).alloc (.cells #[.string ⟨#[]⟩, .string ⟨#[77, 111, 110]⟩, .string ⟨#[84, 117, 101]⟩, .string ⟨#[87, 101, 100]⟩, .string ⟨#[84, 104, 117]⟩, .string ⟨#[70, 114, 105]⟩, .string ⟨#[83, 97, 116]⟩, .string ⟨#[83, 117, 110]⟩] 9)) := PB.start w _ _ _ _ _ _ k j mo wd em ew _ _
  generalize (((w.alloc (.cells #[.int .i64 ((k : Int) + 1), .int .i64 0, .int .i64 j, .int .i64 da, .int .i64 ti, .int .i64 1] 50)).alloc (.cells #[.string ⟨#[74, 97, 110]⟩, .string ⟨#[70, 101, 98]⟩, .string ⟨#[77, 97, 114]⟩, .string ⟨#[65, 112, 114]⟩, .string ⟨#[77, 97, 121]⟩, .string ⟨#[74, 117, 110]⟩, .string ⟨#[74, 117, 108]⟩, .string ⟨#[65, 117, 103]⟩, .string ⟨#[83, 101, 112]⟩, .string ⟨#[79, 99, 116]⟩, .string ⟨#[78, 111, 118]⟩, .string ⟨#[68, 101, 99]⟩] 9)).alloc (.cells #[.string ⟨#[]⟩, .string ⟨#[77, 111, 110]⟩, .string ⟨#[84, 117, 101]⟩, .string ⟨#[87, 101, 100]⟩, .string ⟨#[84, 104, 117]⟩, .string ⟨#[70, 114, 105]⟩, .string ⟨#[83, 97, 116]⟩, .string ⟨#[83, 117, 110]⟩] 9)) = w0 at *
  clear em ew
  obtain ⟨_, q0, q1, q2, q3, q4, q5, _⟩ := KB.bx.six
  go_wp2_with fail
  clear q0 q1 q2 q3 q4 q5
  refine (DI.out _).mono ?_
  rintro e w1 ⟨rfl, k⟩
  replace KB := KB.below k
  clear k
  obtain ⟨_, q0, q1, q2, q3, q4, q5, _⟩ := KB.bx.six
  go_wp2_with fail
  clear q0 q1 q2 q3 q4 q5
  refine (TI.out _).mono ?_
  rintro e w2 ⟨rfl, k⟩
  replace KB := KB.below k
  clear k
  obtain ⟨_, q0, q1, q2, q3, q4, q5, _⟩ := KB.bx.six
  have mc := KB.mc
  have HB := KB.hb
  have sz := HB.size
  go_wp2
  go_ret
  exact ⟨_, _, _, rfl, Ss.lit _ [mo, d, t ++ ⟨#[115]⟩] _ (by show 0 < 3; decide) (by show 3 ≤ 100; decide), HB.alloc sz _⟩
theorem pr_02 (k j : Nat) (da ti : Int) (hk : k < 12) (_hj : j < 8) (d t mo wd : ByteArray) (em : mon3[k]? = some mo) (ew : wd3[j]? = some wd) (_wz : wd.size ≤ 3) (tz : t.size ≤ 26) (DI : Hid (∀ W, Calls Tryz.prog 92 #[.int .i64 da] W (RetV W (.string d)))) (_dz : d.size ≤ 19) (TI : Hid (∀ W, Calls Tryz.prog 58 #[.int .i64 ti] W (RetV W (.string t)))) (w : World) :
    Calls Tryz.prog 91 #[.agg #[.int .i64 ((k : Int) + 1), .int .i64 0, .int .i64 j, .int .i64 da, .int .i64 ti, .int .i64 2]] w (RetSs w [mo, d, t ++ ⟨#[117]⟩]) := by
  go_enter Tryz.func91, Tryz.ntmps91
  go_upto_region 3 with (fail)
  have KB : PB w (.int .i64 ((k : Int) + 1)) (.int .i64 0) (.int .i64 j) (.int .i64 da) (.int .i64 ti) (.int .i64 2) k j mo wd (((w.alloc (.cells #[.int .i64 ((k : Int) + 1), .int .i64 0, .int .i64 j, .int .i64 da, .int .i64 ti, .int .i64 2] 50)).alloc (.cells #[.string ⟨#[74, 97, 110]⟩, .string ⟨#[70, 101, 98]⟩, .string ⟨#[77, 97, 114]⟩, .string ⟨#[65, 112, 114]⟩, .string ⟨#[77, 97, 121]⟩, .string ⟨#[74, 117, 110]⟩, .string ⟨#[74, 117, 108]⟩, .string ⟨#[65, 117, 103]⟩, .string ⟨#[83, 101, 112]⟩, .string ⟨#[79, 99, 116]⟩, .string ⟨#[78, 111, 118]⟩, .string ⟨#[68, 101, 99]⟩] 9)).alloc (.cells #[.string ⟨#[]⟩, .string ⟨#[77, 111, 110]⟩, .string ⟨#[84, 117, 101]⟩, .string ⟨#[87, 101, 100]⟩, .string ⟨#[84, 104, 117]⟩, .string ⟨#[70, 114, 105]⟩, .string ⟨#[83, 97, 116]⟩, .string ⟨#[83, 117, 110]⟩] 9)) := PB.start w _ _ _ _ _ _ k j mo wd em ew _ _
  generalize (((w.alloc (.cells #[.int .i64 ((k : Int) + 1), .int .i64 0, .int .i64 j, .int .i64 da, .int .i64 ti, .int .i64 2] 50)).alloc (.cells #[.string ⟨#[74, 97, 110]⟩, .string ⟨#[70, 101, 98]⟩, .string ⟨#[77, 97, 114]⟩, .string ⟨#[65, 112, 114]⟩, .string ⟨#[77, 97, 121]⟩, .string ⟨#[74, 117, 110]⟩, .string ⟨#[74, 117, 108]⟩, .string ⟨#[65, 117, 103]⟩, .string ⟨#[83, 101, 112]⟩, .string ⟨#[79, 99, 116]⟩, .string ⟨#[78, 111, 118]⟩, .string ⟨#[68, 101, 99]⟩] 9)).alloc (.cells #[.string ⟨#[]⟩, .string ⟨#[77, 111, 110]⟩, .string ⟨#[84, 117, 101]⟩, .string ⟨#[87, 101, 100]⟩, .string ⟨#[84, 104, 117]⟩, .string ⟨#[70, 114, 105]⟩, .string ⟨#[83, 97, 116]⟩, .string ⟨#[83, 117, 110]⟩] 9)) = w0 at *
  clear em ew
  obtain ⟨_, q0, q1, q2, q3, q4, q5, _⟩ := KB.bx.six
  go_wp2_with fail
  clear q0 q1 q2 q3 q4 q5
  refine (DI.out _).mono ?_
  rintro e w1 ⟨rfl, k⟩
  replace KB := KB.below k
  clear k
  obtain ⟨_, q0, q1, q2, q3, q4, q5, _⟩ := KB.bx.six
  go_wp2_with fail
  clear q0 q1 q2 q3 q4 q5
  refine (TI.out _).mono ?_
  rintro e w2 ⟨rfl, k⟩
  replace KB := KB.below k
  clear k
  obtain ⟨_, q0, q1, q2, q3, q4, q5, _⟩ := KB.bx.six
  have mc := KB.mc
  have HB := KB.hb
  have sz := HB.size
  go_wp2
  go_ret
  exact ⟨_, _, _, rfl, Ss.lit _ [mo, d, t ++ ⟨#[117]⟩] _ (by show 0 < 3; decide) (by show 3 ≤ 100; decide), HB.alloc sz _⟩
theorem pr_10 (k j : Nat) (da ti : Int) (hk : k < 12) (hj : j < 8) (t mo wd : ByteArray) (em : mon3[k]? = some mo) (ew : wd3[j]? = some wd) (wz : wd.size ≤ 3) (_tz : t.size ≤ 26) (TI : Hid (∀ W, Calls Tryz.prog 58 #[.int .i64 ti] W (RetV W (.string t)))) (w : World) :
    Calls Tryz.prog 91 #[.agg #[.int .i64 ((k : Int) + 1), .int .i64 1, .int .i64 j, .int .i64 da, .int .i64 ti, .int .i64 0]] w (RetSs w [mo, ⟨#[108, 97, 115, 116]⟩ ++ wd, t]) := by
  go_enter Tryz.func91, Tryz.ntmps91
  go_upto_region 3 with (fail)
  have KB : PB w (.int .i64 ((k : Int) + 1)) (.int .i64 1) (.int .i64 j) (.int .i64 da) (.int .i64 ti) (.int .i64 0) k j mo wd (((w.alloc (.cells #[.int .i64 ((k : Int) + 1), .int .i64 1, .int .i64 j, .int .i64 da, .int .i64 ti, .int .i64 0] 50)).alloc (.cells #[.string ⟨#[74, 97, 110]⟩, .string ⟨#[70, 101, 98]⟩, .string ⟨#[77, 97, 114]⟩, .string ⟨#[65, 112, 114]⟩, .string ⟨#[77, 97, 121]⟩, .string ⟨#[74, 117, 110]⟩, .string ⟨#[74, 117, 108]⟩, .string ⟨#[65, 117, 103]⟩, .string ⟨#[83, 101, 112]⟩, .string ⟨#[79, 99, 116]⟩, .string ⟨#[78, 111, 118]⟩, .string ⟨#[68, 101, 99]⟩] 9)).alloc (.cells #[.string ⟨#[]⟩, .string ⟨#[77, 111, 110]⟩, .string ⟨#[84, 117, 101]⟩, .string ⟨#[87, 101, 100]⟩, .string ⟨#[84, 104, 117]⟩, .string ⟨#[70, 114, 105]⟩, .string ⟨#[83, 97, 116]⟩, .string ⟨#[83, 117, 110]⟩] 9)) := PB.start w _ _ _ _ _ _ k j mo wd em ew _ _
  generalize (((w.alloc (.cells #[.int .i64 ((k : Int) + 1), .int .i64 1, .int .i64 j, .int .i64 da, .int .i64 ti, .int .i64 0] 50)).alloc (.cells #[.string ⟨#[74, 97, 110]⟩, .string ⟨#[70, 101, 98]⟩, .string ⟨#[77, 97, 114]⟩, .string ⟨#[65, 112, 114]⟩, .string ⟨#[77, 97, 121]⟩, .string ⟨#[74, 117, 110]⟩, .string ⟨#[74, 117, 108]⟩, .string ⟨#[65, 117, 103]⟩, .string ⟨#[83, 101, 112]⟩, .string ⟨#[79, 99, 116]⟩, .string ⟨#[78, 111, 118]⟩, .string ⟨#[68, 101, 99]⟩] 9)).alloc (.cells #[.string ⟨#[]⟩, .string ⟨#[77, 111, 110]⟩, .string ⟨#[84, 117, 101]⟩, .string ⟨#[87, 101, 100]⟩, .string ⟨#[84, 104, 117]⟩, .string ⟨#[70, 114, 105]⟩, .string ⟨#[83, 97, 116]⟩, .string ⟨#[83, 117, 110]⟩] 9)) = w0 at *
  clear em ew
  obtain ⟨_, q0, q1, q2, q3, q4, q5, _⟩ := KB.bx.six
  go_upto_region 8 with (fail)
  have wc := KB.wc
  go_wp2_with fail
  clear wc
  clear q0 q1 q2 q3 q4 q5
  refine (TI.out _).mono ?_
  rintro e w2 ⟨rfl, k⟩
  replace KB := KB.below k
  clear k
  obtain ⟨_, q0, q1, q2, q3, q4, q5, _⟩ := KB.bx.six
  have mc := KB.mc
  have HB := KB.hb
  have sz := HB.size
  go_wp2
  go_ret
  exact ⟨_, _, _, rfl, Ss.lit _ [mo, ⟨#[108, 97, 115, 116]⟩ ++ wd, t] _ (by show 0 < 3; decide) (by show 3 ≤ 100; decide), HB.alloc sz _⟩
theorem pr_11 (k j : Nat) (da ti : Int) (hk : k < 12) (hj : j < 8) (t mo wd : ByteArray) (em : mon3[k]? = some mo) (ew : wd3[j]? = some wd) (wz : wd.size ≤ 3) (tz : t.size ≤ 26) (TI : Hid (∀ W, Calls Tryz.prog 58 #[.int .i64 ti] W (RetV W (.string t)))) (w : World) :
    Calls Tryz.prog 91 #[.agg #[.int .i64 ((k : Int) + 1), .int .i64 1, .int .i64 j, .int .i64 da, .int .i64 ti, .int .i64 1]] w (RetSs w [mo, ⟨#[108, 97, 115, 116]⟩ ++ wd, t ++ ⟨#[115]⟩]) := by
  go_enter Tryz.func91, Tryz.ntmps91
  go_upto_region 3 with (fail)
  have KB : PB w (.int .i64 ((k : Int) + 1)) (.int .i64 1) (.int .i64 j) (.int .i64 da) (.int .i64 ti) (.int .i64 1) k j mo wd (((w.alloc (.cells #[.int .i64 ((k : Int) + 1), .int .i64 1, .int .i64 j, .int .i64 da, .int .i64 ti, .int .i64 1] 50)).alloc (.cells #[.string ⟨#[74, 97, 110]⟩, .string ⟨#[70, 101, 98]⟩, .string ⟨#[77, 97, 114]⟩, .string ⟨#[65, 112, 114]⟩, .string ⟨#[77, 97, 121]⟩, .string ⟨#[74, 117, 110]⟩, .string ⟨#[74, 117, 108]⟩, .string ⟨#[65, 117, 103]⟩, .string ⟨#[83, 101, 112]⟩, .string ⟨#[79, 99, 116]⟩, .string ⟨#[78, 111, 118]⟩, .string ⟨#[68, 101, 99]⟩] 9)).alloc (.cells #[.string ⟨#[]⟩, .string ⟨#[77, 111, 110]⟩, .string ⟨#[84, 117, 101]⟩, .string ⟨#[87, 101, 100]⟩, .string ⟨#[84, 104, 117]⟩, .string ⟨#[70, 114, 105]⟩, .string ⟨#[83, 97, 116]⟩, .string ⟨#[83, 117, 110]⟩] 9)) := PB.start w _ _ _ _ _ _ k j mo wd em ew _ _
  generalize (((w.alloc (.cells #[.int .i64 ((k : Int) + 1), .int .i64 1, .int .i64 j, .int .i64 da, .int .i64 ti, .int .i64 1] 50)).alloc (.cells #[.string ⟨#[74, 97, 110]⟩, .string ⟨#[70, 101, 98]⟩, .string ⟨#[77, 97, 114]⟩, .string ⟨#[65, 112, 114]⟩, .string ⟨#[77, 97, 121]⟩, .string ⟨#[74, 117, 110]⟩, .string ⟨#[74, 117, 108]⟩, .string ⟨#[65, 117, 103]⟩, .string ⟨#[83, 101, 112]⟩, .string ⟨#[79, 99, 116]⟩, .string ⟨#[78, 111, 118]⟩, .string ⟨#[68, 101, 99]⟩] 9)).alloc (.cells #[.string ⟨#[]⟩, .string ⟨#[77, 111, 110]⟩, .string ⟨#[84, 117, 101]⟩, .string ⟨#[87, 101, 100]⟩, .string ⟨#[84, 104, 117]⟩, .string ⟨#[70, 114, 105]⟩, .string ⟨#[83, 97, 116]⟩, .string ⟨#[83, 117, 110]⟩] 9)) = w0 at *
  clear em ew
  obtain ⟨_, q0, q1, q2, q3, q4, q5, _⟩ := KB.bx.six
  go_upto_region 8 with (fail)
  have wc := KB.wc
  go_wp2_with fail
  clear wc
  clear q0 q1 q2 q3 q4 q5
  refine (TI.out _).mono ?_
  rintro e w2 ⟨rfl, k⟩
  replace KB := KB.below k
  clear k
  obtain ⟨_, q0, q1, q2, q3, q4, q5, _⟩ := KB.bx.six
  have mc := KB.mc
  have HB := KB.hb
  have sz := HB.size
  go_wp2
  go_ret
  exact ⟨_, _, _, rfl, Ss.lit _ [mo, ⟨#[108, 97, 115, 116]⟩ ++ wd, t ++ ⟨#[115]⟩] _ (by show 0 < 3; decide) (by show 3 ≤ 100; decide), HB.alloc sz _⟩
theorem pr_12 (k j : Nat) (da ti : Int) (hk : k < 12) (hj : j < 8) (t mo wd : ByteArray) (em : mon3[k]? = some mo) (ew : wd3[j]? = some wd) (wz : wd.size ≤ 3) (tz : t.size ≤ 26) (TI : Hid (∀ W, Calls Tryz.prog 58 #[.int .i64 ti] W (RetV W (.string t)))) (w : World) :
    Calls Tryz.prog 91 #[.agg #[.int .i64 ((k : Int) + 1), .int .i64 1, .int .i64 j, .int .i64 da, .int .i64 ti, .int .i64 2]] w (RetSs w [mo, ⟨#[108, 97, 115, 116]⟩ ++ wd, t ++ ⟨#[117]⟩]) := by
  go_enter Tryz.func91, Tryz.ntmps91
  go_upto_region 3 with (fail)
  have KB : PB w (.int .i64 ((k : Int) + 1)) (.int .i64 1) (.int .i64 j) (.int .i64 da) (.int .i64 ti) (.int .i64 2) k j mo wd (((w.alloc (.cells #[.int .i64 ((k : Int) + 1), .int .i64 1, .int .i64 j, .int .i64 da, .int .i64 ti, .int .i64 2] 50)).alloc (.cells #[.string ⟨#[74, 97, 110]⟩, .string ⟨#[70, 101, 98]⟩, .string ⟨#[77, 97, 114]⟩, .string ⟨#[65, 112, 114]⟩, .string ⟨#[77, 97, 121]⟩, .string ⟨#[74, 117, 110]⟩, .string ⟨#[74, 117, 108]⟩, .string ⟨#[65, 117, 103]⟩, .string ⟨#[83, 101, 112]⟩, .string ⟨#[79, 99, 116]⟩, .string ⟨#[78, 111, 118]⟩, .string ⟨#[68, 101, 99]⟩] 9)).alloc (.cells #[.string ⟨#[]⟩, .string ⟨#[77, 111, 110]⟩, .string ⟨#[84, 117, 101]⟩, .string ⟨#[87, 101, 100]⟩, .string ⟨#[84, 104, 117]⟩, .string ⟨#[70, 114, 105]⟩, .string ⟨#[83, 97, 116]⟩, .string ⟨#[83, 117, 110]⟩] 9)) := PB.start w _ _ _ _ _ _ k j mo wd em ew _ _
  generalize (((w.alloc (.cells #[.int .i64 ((k : Int) + 1), .int .i64 1, .int .i64 j, .int .i64 da, .int .i64 ti, .int .i64 2] 50)).alloc (.cells #[.string ⟨#[74, 97, 110]⟩, .string ⟨#[70, 101, 98]⟩, .string ⟨#[77, 97, 114]⟩, .string ⟨#[65, 112, 114]⟩, .string ⟨#[77, 97, 121]⟩, .string ⟨#[74, 117, 110]⟩, .string ⟨#[74, 117, 108]⟩, .string ⟨#[65, 117, 103]⟩, .string ⟨#[83, 101, 112]⟩, .string ⟨#[79, 99, 116]⟩, .string ⟨#[78, 111, 118]⟩, .string ⟨#[68, 101, 99]⟩] 9)).alloc (.cells #[.string ⟨#[]⟩, .string ⟨#[77, 111, 110]⟩, .string ⟨#[84, 117, 101]⟩, .string ⟨#[87, 101, 100]⟩, .string ⟨#[84, 104, 117]⟩, .string ⟨#[70, 114, 105]⟩, .string ⟨#[83, 97, 116]⟩, .string ⟨#[83, 117, 110]⟩] 9)) = w0 at *
  clear em ew
  obtain ⟨_, q0, q1, q2, q3, q4, q5, _⟩ := KB.bx.six
  go_upto_region 8 with (fail)
  have wc := KB.wc
  go_wp2_with fail
  clear wc
  clear q0 q1 q2 q3 q4 q5
  refine (TI.out _).mono ?_
  rintro e w2 ⟨rfl, k⟩
  replace KB := KB.below k
  clear k
  obtain ⟨_, q0, q1, q2, q3, q4, q5, _⟩ := KB.bx.six
  have mc := KB.mc
  have HB := KB.hb
  have sz := HB.size
  go_wp2
  go_ret
  exact ⟨_, _, _, rfl, Ss.lit _ [mo, ⟨#[108, 97, 115, 116]⟩ ++ wd, t ++ ⟨#[117]⟩] _ (by show 0 < 3; decide) (by show 3 ≤ 100; decide), HB.alloc sz _⟩
theorem pr_20 (k j : Nat) (da ti : Int) (hk : k < 12) (hj : j < 8) (d t mo wd : ByteArray) (em : mon3[k]? = some mo) (ew : wd3[j]? = some wd) (wz : wd.size ≤ 3) (_tz : t.size ≤ 26) (DI : Hid (∀ W, Calls Tryz.prog 92 #[.int .i64 da] W (RetV W (.string d)))) (dz : d.size ≤ 19) (TI : Hid (∀ W, Calls Tryz.prog 58 #[.int .i64 ti] W (RetV W (.string t)))) (w : World) :
    Calls Tryz.prog 91 #[.agg #[.int .i64 ((k : Int) + 1), .int .i64 2, .int .i64 j, .int .i64 da, .int .i64 ti, .int .i64 0]] w (RetSs w [mo, wd ++ ⟨#[62, 61]⟩ ++ d, t]) := by
  have j8 : (j : Int) < 8 := by omega
  have j0 : (0 : Int) ≤ j := by omega
  have c1 := fun W => run_string_add_sum (P := Tryz.prog) W wd ⟨#[62, 61]⟩ (by show wd.size + 2 ≤ _; omega)
  have c2 := fun W => run_string_add_sum (P := Tryz.prog) W (wd ++ ⟨#[62, 61]⟩) d (by rw [ByteArray.size_append]; show wd.size + 2 + d.size ≤ _; omega)
  go_enter Tryz.func91, Tryz.ntmps91
  go_upto_region 3 with (fail)
  have KB : PB w (.int .i64 ((k : Int) + 1)) (.int .i64 2) (.int .i64 j) (.int .i64 da) (.int .i64 ti) (.int .i64 0) k j mo wd (((w.alloc (.cells #[.int .i64 ((k : Int) + 1), .int .i64 2, .int .i64 j, .int .i64 da, .int .i64 ti, .int .i64 0] 50)).alloc (.cells #[.string ⟨#[74, 97, 110]⟩, .string ⟨#[70, 101, 98]⟩, .string ⟨#[77, 97, 114]⟩, .string ⟨#[65, 112, 114]⟩, .string ⟨#[77, 97, 121]⟩, .string ⟨#[74, 117, 110]⟩, .string ⟨#[74, 117, 108]⟩, .string ⟨#[65, 117, 103]⟩, .string ⟨#[83, 101, 112]⟩, .string ⟨#[79, 99, 116]⟩, .string ⟨#[78, 111, 118]⟩, .string ⟨#[68, 101, 99]⟩] 9)).alloc (.cells #[.string ⟨#[]⟩, .string ⟨#[77, 111, 110]⟩, .string ⟨#[84, 117, 101]⟩, .string ⟨#[87, 101, 100]⟩, .string ⟨#[84, 104, 117]⟩, .string ⟨#[70, 114, 105]⟩, .string ⟨#[83, 97, 116]⟩, .string ⟨#[83, 117, 110]⟩] 9)) := PB.start w _ _ _ _ _ _ k j mo wd em ew _ _
  generalize (((w.alloc (.cells #[.int .i64 ((k : Int) + 1), .int .i64 2, .int .i64 j, .int .i64 da, .int .i64 ti, .int .i64 0] 50)).alloc (.cells #[.string ⟨#[74, 97, 110]⟩, .string ⟨#[70, 101, 98]⟩, .string ⟨#[77, 97, 114]⟩, .string ⟨#[65, 112, 114]⟩, .string ⟨#[77, 97, 121]⟩, .string ⟨#[74, 117, 110]⟩, .string ⟨#[74, 117, 108]⟩, .string ⟨#[65, 117, 103]⟩, .string ⟨#[83, 101, 112]⟩, .string ⟨#[79, 99, 116]⟩, .string ⟨#[78, 111, 118]⟩, .string ⟨#[68, 101, 99]⟩] 9)).alloc (.cells #[.string ⟨#[]⟩, .string ⟨#[77, 111, 110]⟩, .string ⟨#[84, 117, 101]⟩, .string ⟨#[87, 101, 100]⟩, .string ⟨#[84, 104, 117]⟩, .string ⟨#[70, 114, 105]⟩, .string ⟨#[83, 97, 116]⟩, .string ⟨#[83, 117, 110]⟩] 9)) = w0 at *
  clear em ew
  obtain ⟨_, q0, q1, q2, q3, q4, q5, _⟩ := KB.bx.six
  have wc := KB.wc
  go_upto_region 10 with (fail)
  go_region_held3 (fun w' => w'.cell? ⟨w.heap.size, 0, none⟩ = some (.int .i64 ((k : Int) + 1)) ∧ w'.cell? ⟨w.heap.size, 1, none⟩ = some (.int .i64 2) ∧ w'.cell? ⟨w.heap.size, 2, none⟩ = some (.int .i64 j) ∧ w'.cell? ⟨w.heap.size, 3, none⟩ = some (.int .i64 da) ∧ w'.cell? ⟨w.heap.size, 4, none⟩ = some (.int .i64 ti) ∧ w'.cell? ⟨w.heap.size, 5, none⟩ = some (.int .i64 0) ∧ w'.cell? ⟨w.heap.size + 2, j, none⟩ = some (.string wd)) (first | (with_reducible exact ⟨(KB).bx.six.2.1, (KB).bx.six.2.2.1, (KB).bx.six.2.2.2.1, (KB).bx.six.2.2.2.2.1, (KB).bx.six.2.2.2.2.2.1, (KB).bx.six.2.2.2.2.2.2.1, (KB).wc⟩) | (with_reducible exact ⟨(KB.drew).bx.six.2.1, (KB.drew).bx.six.2.2.1, (KB.drew).bx.six.2.2.2.1, (KB.drew).bx.six.2.2.2.2.1, (KB.drew).bx.six.2.2.2.2.2.1, (KB.drew).bx.six.2.2.2.2.2.2.1, (KB.drew).wc⟩) | go_keep)
    (first
      | (go_at_call 92; (with_reducible refine (DI.out _).mono ?_); rintro e W9 ⟨rfl, k⟩
         with_reducible (first | replace KB := KB.below k | replace KB := KB.drew.below k)
         clear k
         obtain ⟨_, k0, k1, k2, k3, k4, k5, _⟩ := KB.bx.six
         have kw := KB.wc))
  all_goals
    skip
    clear q0 q1 q2 q3 q4 q5 wc
    obtain ⟨_, q0, q1, q2, q3, q4, q5, _⟩ := KB.bx.six
    go_wp2_with fail
    clear q0 q1 q2 q3 q4 q5
    refine (TI.out _).mono ?_
    rintro e w2 ⟨rfl, k⟩
    replace KB := KB.below k
    clear k
    obtain ⟨_, q0, q1, q2, q3, q4, q5, _⟩ := KB.bx.six
    have mc := KB.mc
    have HB := KB.hb
    have sz := HB.size
    go_wp2
    go_ret
    exact ⟨_, _, _, rfl, Ss.lit _ [mo, wd ++ ⟨#[62, 61]⟩ ++ d, t] _ (by show 0 < 3; decide) (by show 3 ≤ 100; decide), HB.alloc sz _⟩
theorem pr_21 (k j : Nat) (da ti : Int) (hk : k < 12) (hj : j < 8) (d t mo wd : ByteArray) (em : mon3[k]? = some mo) (ew : wd3[j]? = some wd) (wz : wd.size ≤ 3) (tz : t.size ≤ 26) (DI : Hid (∀ W, Calls Tryz.prog 92 #[.int .i64 da] W (RetV W (.string d)))) (dz : d.size ≤ 19) (TI : Hid (∀ W, Calls Tryz.prog 58 #[.int .i64 ti] W (RetV W (.string t)))) (w : World) :
    Calls Tryz.prog 91 #[.agg #[.int .i64 ((k : Int) + 1), .int .i64 2, .int .i64 j, .int .i64 da, .int .i64 ti, .int .i64 1]] w (RetSs w [mo, wd ++ ⟨#[62, 61]⟩ ++ d, t ++ ⟨#[115]⟩]) := by
  have j8 : (j : Int) < 8 := by omega
  have j0 : (0 : Int) ≤ j := by omega
  have c1 := fun W => run_string_add_sum (P := Tryz.prog) W wd ⟨#[62, 61]⟩ (by show wd.size + 2 ≤ _; omega)
  have c2 := fun W => run_string_add_sum (P := Tryz.prog) W (wd ++ ⟨#[62, 61]⟩) d (by rw [ByteArray.size_append]; show wd.size + 2 + d.size ≤ _; omega)
  go_enter Tryz.func91, Tryz.ntmps91
  go_upto_region 3 with (fail)
  have KB : PB w (.int .i64 ((k : Int) + 1)) (.int .i64 2) (.int .i64 j) (.int .i64 da) (.int .i64 ti) (.int .i64 1) k j mo wd (((w.alloc (.cells #[.int .i64 ((k : Int) + 1), .int .i64 2, .int .i64 j, .int .i64 da, .int .i64 ti, .int .i64 1] 50)).alloc (.cells #[.string ⟨#[74, 97, 110]⟩, .string ⟨#[70, 101, 98]⟩, .string ⟨#[77, 97, 114]⟩, .string ⟨#[65, 112, 114]⟩, .string ⟨#[77, 97, 121]⟩, .string ⟨#[74, 117, 110]⟩, .string ⟨#[74, 117, 108]⟩, .string ⟨#[65, 117, 103]⟩, .string ⟨#[83, 101, 112]⟩, .string ⟨#[79, 99, 116]⟩, .string ⟨#[78, 111, 118]⟩, .string ⟨#[68, 101, 99]⟩] 9)).alloc (.cells #[.string ⟨#[]⟩, .string ⟨#[77, 111, 110]⟩, .string ⟨#[84, 117, 101]⟩, .string ⟨#[87, 101, 100]⟩, .string ⟨#[84, 104, 117]⟩, .string ⟨#[70, 114, 105]⟩, .string ⟨#[83, 97, 116]⟩, .string ⟨#[83, 117, 110]⟩] 9)) := PB.start w _ _ _ _ _ _ k j mo wd em ew _ _
  generalize (((w.alloc (.cells #[.int .i64 ((k : Int) + 1), .int .i64 2, .int .i64 j, .int .i64 da, .int .i64 ti, .int .i64 1] 50)).alloc (.cells #[.string ⟨#[74, 97, 110]⟩, .string ⟨#[70, 101, 98]⟩, .string ⟨#[77, 97, 114]⟩, .string ⟨#[65, 112, 114]⟩, .string ⟨#[77, 97, 121]⟩, .string ⟨#[74, 117, 110]⟩, .string ⟨#[74, 117, 108]⟩, .string ⟨#[65, 117, 103]⟩, .string ⟨#[83, 101, 112]⟩, .string ⟨#[79, 99, 116]⟩, .string ⟨#[78, 111, 118]⟩, .string ⟨#[68, 101, 99]⟩] 9)).alloc (.cells #[.string ⟨#[]⟩, .string ⟨#[77, 111, 110]⟩, .string ⟨#[84, 117, 101]⟩, .string ⟨#[87, 101, 100]⟩, .string ⟨#[84, 104, 117]⟩, .string ⟨#[70, 114, 105]⟩, .string ⟨#[83, 97, 116]⟩, .string ⟨#[83, 117, 110]⟩] 9)) = w0 at *
  clear em ew
  obtain ⟨_, q0, q1, q2, q3, q4, q5, _⟩ := KB.bx.six
  have wc := KB.wc
  go_upto_region 10 with (fail)
  go_region_held3 (fun w' => w'.cell? ⟨w.heap.size, 0, none⟩ = some (.int .i64 ((k : Int) + 1)) ∧ w'.cell? ⟨w.heap.size, 1, none⟩ = some (.int .i64 2) ∧ w'.cell? ⟨w.heap.size, 2, none⟩ = some (.int .i64 j) ∧ w'.cell? ⟨w.heap.size, 3, none⟩ = some (.int .i64 da) ∧ w'.cell? ⟨w.heap.size, 4, none⟩ = some (.int .i64 ti) ∧ w'.cell? ⟨w.heap.size, 5, none⟩ = some (.int .i64 1) ∧ w'.cell? ⟨w.heap.size + 2, j, none⟩ = some (.string wd)) (first | (with_reducible exact ⟨(KB).bx.six.2.1, (KB).bx.six.2.2.1, (KB).bx.six.2.2.2.1, (KB).bx.six.2.2.2.2.1, (KB).bx.six.2.2.2.2.2.1, (KB).bx.six.2.2.2.2.2.2.1, (KB).wc⟩) | (with_reducible exact ⟨(KB.drew).bx.six.2.1, (KB.drew).bx.six.2.2.1, (KB.drew).bx.six.2.2.2.1, (KB.drew).bx.six.2.2.2.2.1, (KB.drew).bx.six.2.2.2.2.2.1, (KB.drew).bx.six.2.2.2.2.2.2.1, (KB.drew).wc⟩) | go_keep)
    (first
      | (go_at_call 92; (with_reducible refine (DI.out _).mono ?_); rintro e W9 ⟨rfl, k⟩
         with_reducible (first | replace KB := KB.below k | replace KB := KB.drew.below k)
         clear k
         obtain ⟨_, k0, k1, k2, k3, k4, k5, _⟩ := KB.bx.six
         have kw := KB.wc))
  all_goals
    skip
    clear q0 q1 q2 q3 q4 q5 wc
    obtain ⟨_, q0, q1, q2, q3, q4, q5, _⟩ := KB.bx.six
    go_wp2_with fail
    clear q0 q1 q2 q3 q4 q5
    refine (TI.out _).mono ?_
    rintro e w2 ⟨rfl, k⟩
    replace KB := KB.below k
    clear k
    obtain ⟨_, q0, q1, q2, q3, q4, q5, _⟩ := KB.bx.six
    have mc := KB.mc
    have HB := KB.hb
    have sz := HB.size
    go_wp2
    go_ret
    exact ⟨_, _, _, rfl, Ss.lit _ [mo, wd ++ ⟨#[62, 61]⟩ ++ d, t ++ ⟨#[115]⟩] _ (by show 0 < 3; decide) (by show 3 ≤ 100; decide), HB.alloc sz _⟩
theorem pr_22 (k j : Nat) (da ti : Int) (hk : k < 12) (hj : j < 8) (d t mo wd : ByteArray) (em : mon3[k]? = some mo) (ew : wd3[j]? = some wd) (wz : wd.size ≤ 3) (tz : t.size ≤ 26) (DI : Hid (∀ W, Calls Tryz.prog 92 #[.int .i64 da] W (RetV W (.string d)))) (dz : d.size ≤ 19) (TI : Hid (∀ W, Calls Tryz.prog 58 #[.int .i64 ti] W (RetV W (.string t)))) (w : World) :
    Calls Tryz.prog 91 #[.agg #[.int .i64 ((k : Int) + 1), .int .i64 2, .int .i64 j, .int .i64 da, .int .i64 ti, .int .i64 2]] w (RetSs w [mo, wd ++ ⟨#[62, 61]⟩ ++ d, t ++ ⟨#[117]⟩]) := by
  have j8 : (j : Int) < 8 := by omega
  have j0 : (0 : Int) ≤ j := by omega
  have c1 := fun W => run_string_add_sum (P := Tryz.prog) W wd ⟨#[62, 61]⟩ (by show wd.size + 2 ≤ _; omega)
  have c2 := fun W => run_string_add_sum (P := Tryz.prog) W (wd ++ ⟨#[62, 61]⟩) d (by rw [ByteArray.size_append]; show wd.size + 2 + d.size ≤ _; omega)
  go_enter Tryz.func91, Tryz.ntmps91
  go_upto_region 3 with (fail)
  have KB : PB w (.int .i64 ((k : Int) + 1)) (.int .i64 2) (.int .i64 j) (.int .i64 da) (.int .i64 ti) (.int .i64 2) k j mo wd (((w.alloc (.cells #[.int .i64 ((k : Int) + 1), .int .i64 2, .int .i64 j, .int .i64 da, .int .i64 ti, .int .i64 2] 50)).alloc (.cells #[.string ⟨#[74, 97, 110]⟩, .string ⟨#[70, 101, 98]⟩, .string ⟨#[77, 97, 114]⟩, .string ⟨#[65, 112, 114]⟩, .string ⟨#[77, 97, 121]⟩, .string ⟨#[74, 117, 110]⟩, .string ⟨#[74, 117, 108]⟩, .string ⟨#[65, 117, 103]⟩, .string ⟨#[83, 101, 112]⟩, .string ⟨#[79, 99, 116]⟩, .string ⟨#[78, 111, 118]⟩, .string ⟨#[68, 101, 99]⟩] 9)).alloc (.cells #[.string ⟨#[]⟩, .string ⟨#[77, 111, 110]⟩, .string ⟨#[84, 117, 101]⟩, .string ⟨#[87, 101, 100]⟩, .string ⟨#[84, 104, 117]⟩, .string ⟨#[70, 114, 105]⟩, .string ⟨#[83, 97, 116]⟩, .string ⟨#[83, 117, 110]⟩] 9)) := PB.start w _ _ _ _ _ _ k j mo wd em ew _ _
  generalize (((w.alloc (.cells #[.int .i64 ((k : Int) + 1), .int .i64 2, .int .i64 j, .int .i64 da, .int .i64 ti, .int .i64 2] 50)).alloc (.cells #[.string ⟨#[74, 97, 110]⟩, .string ⟨#[70, 101, 98]⟩, .string ⟨#[77, 97, 114]⟩, .string ⟨#[65, 112, 114]⟩, .string ⟨#[77, 97, 121]⟩, .string ⟨#[74, 117, 110]⟩, .string ⟨#[74, 117, 108]⟩, .string ⟨#[65, 117, 103]⟩, .string ⟨#[83, 101, 112]⟩, .string ⟨#[79, 99, 116]⟩, .string ⟨#[78, 111, 118]⟩, .string ⟨#[68, 101, 99]⟩] 9)).alloc (.cells #[.string ⟨#[]⟩, .string ⟨#[77, 111, 110]⟩, .string ⟨#[84, 117, 101]⟩, .string ⟨#[87, 101, 100]⟩, .string ⟨#[84, 104, 117]⟩, .string ⟨#[70, 114, 105]⟩, .string ⟨#[83, 97, 116]⟩, .string ⟨#[83, 117, 110]⟩] 9)) = w0 at *
  clear em ew
  obtain ⟨_, q0, q1, q2, q3, q4, q5, _⟩ := KB.bx.six
  have wc := KB.wc
  go_upto_region 10 with (fail)
  go_region_held3 (fun w' => w'.cell? ⟨w.heap.size, 0, none⟩ = some (.int .i64 ((k : Int) + 1)) ∧ w'.cell? ⟨w.heap.size, 1, none⟩ = some (.int .i64 2) ∧ w'.cell? ⟨w.heap.size, 2, none⟩ = some (.int .i64 j) ∧ w'.cell? ⟨w.heap.size, 3, none⟩ = some (.int .i64 da) ∧ w'.cell? ⟨w.heap.size, 4, none⟩ = some (.int .i64 ti) ∧ w'.cell? ⟨w.heap.size, 5, none⟩ = some (.int .i64 2) ∧ w'.cell? ⟨w.heap.size + 2, j, none⟩ = some (.string wd)) (first | (with_reducible exact ⟨(KB).bx.six.2.1, (KB).bx.six.2.2.1, (KB).bx.six.2.2.2.1, (KB).bx.six.2.2.2.2.1, (KB).bx.six.2.2.2.2.2.1, (KB).bx.six.2.2.2.2.2.2.1, (KB).wc⟩) | (with_reducible exact ⟨(KB.drew).bx.six.2.1, (KB.drew).bx.six.2.2.1, (KB.drew).bx.six.2.2.2.1, (KB.drew).bx.six.2.2.2.2.1, (KB.drew).bx.six.2.2.2.2.2.1, (KB.drew).bx.six.2.2.2.2.2.2.1, (KB.drew).wc⟩) | go_keep)
    (first
      | (go_at_call 92; (with_reducible refine (DI.out _).mono ?_); rintro e W9 ⟨rfl, k⟩
         with_reducible (first | replace KB := KB.below k | replace KB := KB.drew.below k)
         clear k
         obtain ⟨_, k0, k1, k2, k3, k4, k5, _⟩ := KB.bx.six
         have kw := KB.wc))
  all_goals
    skip
    clear q0 q1 q2 q3 q4 q5 wc
    obtain ⟨_, q0, q1, q2, q3, q4, q5, _⟩ := KB.bx.six
    go_wp2_with fail
    clear q0 q1 q2 q3 q4 q5
    refine (TI.out _).mono ?_
    rintro e w2 ⟨rfl, k⟩
    replace KB := KB.below k
    clear k
    obtain ⟨_, q0, q1, q2, q3, q4, q5, _⟩ := KB.bx.six
    have mc := KB.mc
    have HB := KB.hb
    have sz := HB.size
    go_wp2
    go_ret
    exact ⟨_, _, _, rfl, Ss.lit _ [mo, wd ++ ⟨#[62, 61]⟩ ++ d, t ++ ⟨#[117]⟩] _ (by show 0 < 3; decide) (by show 3 ≤ 100; decide), HB.alloc sz _⟩
theorem pr_30 (k j : Nat) (da ti : Int) (hk : k < 12) (hj : j < 8) (d t mo wd : ByteArray) (em : mon3[k]? = some mo) (ew : wd3[j]? = some wd) (wz : wd.size ≤ 3) (_tz : t.size ≤ 26) (DI : Hid (∀ W, Calls Tryz.prog 92 #[.int .i64 da] W (RetV W (.string d)))) (dz : d.size ≤ 19) (TI : Hid (∀ W, Calls Tryz.prog 58 #[.int .i64 ti] W (RetV W (.string t)))) (w : World) :
    Calls Tryz.prog 91 #[.agg #[.int .i64 ((k : Int) + 1), .int .i64 3, .int .i64 j, .int .i64 da, .int .i64 ti, .int .i64 0]] w (RetSs w [mo, wd ++ ⟨#[60, 61]⟩ ++ d, t]) := by
  have j8 : (j : Int) < 8 := by omega
  have j0 : (0 : Int) ≤ j := by omega
  have c1 := fun W => run_string_add_sum (P := Tryz.prog) W wd ⟨#[60, 61]⟩ (by show wd.size + 2 ≤ _; omega)
  have c2 := fun W => run_string_add_sum (P := Tryz.prog) W (wd ++ ⟨#[60, 61]⟩) d (by rw [ByteArray.size_append]; show wd.size + 2 + d.size ≤ _; omega)
  go_enter Tryz.func91, Tryz.ntmps91
  go_upto_region 3 with (fail)
  have KB : PB w (.int .i64 ((k : Int) + 1)) (.int .i64 3) (.int .i64 j) (.int .i64 da) (.int .i64 ti) (.int .i64 0) k j mo wd (((w.alloc (.cells #[.int .i64 ((k : Int) + 1), .int .i64 3, .int .i64 j, .int .i64 da, .int .i64 ti, .int .i64 0] 50)).alloc (.cells #[.string ⟨#[74, 97, 110]⟩, .string ⟨#[70, 101, 98]⟩, .string ⟨#[77, 97, 114]⟩, .string ⟨#[65, 112, 114]⟩, .string ⟨#[77, 97, 121]⟩, .string ⟨#[74, 117, 110]⟩, .string ⟨#[74, 117, 108]⟩, .string ⟨#[65, 117, 103]⟩, .string ⟨#[83, 101, 112]⟩, .string ⟨#[79, 99, 116]⟩, .string ⟨#[78, 111, 118]⟩, .string ⟨#[68, 101, 99]⟩] 9)).alloc (.cells #[.string ⟨#[]⟩, .string ⟨#[77, 111, 110]⟩, .string ⟨#[84, 117, 101]⟩, .string ⟨#[87, 101, 100]⟩, .string ⟨#[84, 104, 117]⟩, .string ⟨#[70, 114, 105]⟩, .string ⟨#[83, 97, 116]⟩, .string ⟨#[83, 117, 110]⟩] 9)) := PB.start w _ _ _ _ _ _ k j mo wd em ew _ _
  generalize (((w.alloc (.cells #[.int .i64 ((k : Int) + 1), .int .i64 3, .int .i64 j, .int .i64 da, .int .i64 ti, .int .i64 0] 50)).alloc (.cells #[.string ⟨#[74, 97, 110]⟩, .string ⟨#[70, 101, 98]⟩, .string ⟨#[77, 97, 114]⟩, .string ⟨#[65, 112, 114]⟩, .string ⟨#[77, 97, 121]⟩, .string ⟨#[74, 117, 110]⟩, .string ⟨#[74, 117, 108]⟩, .string ⟨#[65, 117, 103]⟩, .string ⟨#[83, 101, 112]⟩, .string ⟨#[79, 99, 116]⟩, .string ⟨#[78, 111, 118]⟩, .string ⟨#[68, 101, 99]⟩] 9)).alloc (.cells #[.string ⟨#[]⟩, .string ⟨#[77, 111, 110]⟩, .string ⟨#[84, 117, 101]⟩, .string ⟨#[87, 101, 100]⟩, .string ⟨#[84, 104, 117]⟩, .string ⟨#[70, 114, 105]⟩, .string ⟨#[83, 97, 116]⟩, .string ⟨#[83, 117, 110]⟩] 9)) = w0 at *
  clear em ew
  obtain ⟨_, q0, q1, q2, q3, q4, q5, _⟩ := KB.bx.six
  have wc := KB.wc
  go_upto_region 12 with (fail)
  go_region_held3 (fun w' => w'.cell? ⟨w.heap.size, 0, none⟩ = some (.int .i64 ((k : Int) + 1)) ∧ w'.cell? ⟨w.heap.size, 1, none⟩ = some (.int .i64 3) ∧ w'.cell? ⟨w.heap.size, 2, none⟩ = some (.int .i64 j) ∧ w'.cell? ⟨w.heap.size, 3, none⟩ = some (.int .i64 da) ∧ w'.cell? ⟨w.heap.size, 4, none⟩ = some (.int .i64 ti) ∧ w'.cell? ⟨w.heap.size, 5, none⟩ = some (.int .i64 0) ∧ w'.cell? ⟨w.heap.size + 2, j, none⟩ = some (.string wd)) (first | (with_reducible exact ⟨(KB).bx.six.2.1, (KB).bx.six.2.2.1, (KB).bx.six.2.2.2.1, (KB).bx.six.2.2.2.2.1, (KB).bx.six.2.2.2.2.2.1, (KB).bx.six.2.2.2.2.2.2.1, (KB).wc⟩) | (with_reducible exact ⟨(KB.drew).bx.six.2.1, (KB.drew).bx.six.2.2.1, (KB.drew).bx.six.2.2.2.1, (KB.drew).bx.six.2.2.2.2.1, (KB.drew).bx.six.2.2.2.2.2.1, (KB.drew).bx.six.2.2.2.2.2.2.1, (KB.drew).wc⟩) | go_keep)
    (first
      | (go_at_call 92; (with_reducible refine (DI.out _).mono ?_); rintro e W9 ⟨rfl, k⟩
         with_reducible (first | replace KB := KB.below k | replace KB := KB.drew.below k)
         clear k
         obtain ⟨_, k0, k1, k2, k3, k4, k5, _⟩ := KB.bx.six
         have kw := KB.wc))
  all_goals
    skip
    clear q0 q1 q2 q3 q4 q5 wc
    obtain ⟨_, q0, q1, q2, q3, q4, q5, _⟩ := KB.bx.six
    go_wp2_with fail
    clear q0 q1 q2 q3 q4 q5
    refine (TI.out _).mono ?_
    rintro e w2 ⟨rfl, k⟩
    replace KB := KB.below k
    clear k
    obtain ⟨_, q0, q1, q2, q3, q4, q5, _⟩ := KB.bx.six
    have mc := KB.mc
    have HB := KB.hb
    have sz := HB.size
    go_wp2
    go_ret
    exact ⟨_, _, _, rfl, Ss.lit _ [mo, wd ++ ⟨#[60, 61]⟩ ++ d, t] _ (by show 0 < 3; decide) (by show 3 ≤ 100; decide), HB.alloc sz _⟩
theorem pr_31 (k j : Nat) (da ti : Int) (hk : k < 12) (hj : j < 8) (d t mo wd : ByteArray) (em : mon3[k]? = some mo) (ew : wd3[j]? = some wd) (wz : wd.size ≤ 3) (tz : t.size ≤ 26) (DI : Hid (∀ W, Calls Tryz.prog 92 #[.int .i64 da] W (RetV W (.string d)))) (dz : d.size ≤ 19) (TI : Hid (∀ W, Calls Tryz.prog 58 #[.int .i64 ti] W (RetV W (.string t)))) (w : World) :
    Calls Tryz.prog 91 #[.agg #[.int .i64 ((k : Int) + 1), .int .i64 3, .int .i64 j, .int .i64 da, .int .i64 ti, .int .i64 1]] w (RetSs w [mo, wd ++ ⟨#[60, 61]⟩ ++ d, t ++ ⟨#[115]⟩]) := by
  have j8 : (j : Int) < 8 := by omega
  have j0 : (0 : Int) ≤ j := by omega
  have c1 := fun W => run_string_add_sum (P := Tryz.prog) W wd ⟨#[60, 61]⟩ (by show wd.size + 2 ≤ _; omega)
  have c2 := fun W => run_string_add_sum (P := Tryz.prog) W (wd ++ ⟨#[60, 61]⟩) d (by rw [ByteArray.size_append]; show wd.size + 2 + d.size ≤ _; omega)
  go_enter Tryz.func91, Tryz.ntmps91
  go_upto_region 3 with (fail)
  have KB : PB w (.int .i64 ((k : Int) + 1)) (.int .i64 3) (.int .i64 j) (.int .i64 da) (.int .i64 ti) (.int .i64 1) k j mo wd (((w.alloc (.cells #[.int .i64 ((k : Int) + 1), .int .i64 3, .int .i64 j, .int .i64 da, .int .i64 ti, .int .i64 1] 50)).alloc (.cells #[.string ⟨#[74, 97, 110]⟩, .string ⟨#[70, 101, 98]⟩, .string ⟨#[77, 97, 114]⟩, .string ⟨#[65, 112, 114]⟩, .string ⟨#[77, 97, 121]⟩, .string ⟨#[74, 117, 110]⟩, .string ⟨#[74, 117, 108]⟩, .string ⟨#[65, 117, 103]⟩, .string ⟨#[83, 101, 112]⟩, .string ⟨#[79, 99, 116]⟩, .string ⟨#[78, 111, 118]⟩, .string ⟨#[68, 101, 99]⟩] 9)).alloc (.cells #[.string ⟨#[]⟩, .string ⟨#[77, 111, 110]⟩, .string ⟨#[84, 117, 101]⟩, .string ⟨#[87, 101, 100]⟩, .string ⟨#[84, 104, 117]⟩, .string ⟨#[70, 114, 105]⟩, .string ⟨#[83, 97, 116]⟩, .string ⟨#[83, 117, 110]⟩] 9)) := PB.start w _ _ _ _ _ _ k j mo wd em ew _ _
  generalize (((w.alloc (.cells #[.int .i64 ((k : Int) + 1), .int .i64 3, .int .i64 j, .int .i64 da, .int .i64 ti, .int .i64 1] 50)).alloc (.cells #[.string ⟨#[74, 97, 110]⟩, .string ⟨#[70, 101, 98]⟩, .string ⟨#[77, 97, 114]⟩, .string ⟨#[65, 112, 114]⟩, .string ⟨#[77, 97, 121]⟩, .string ⟨#[74, 117, 110]⟩, .string ⟨#[74, 117, 108]⟩, .string ⟨#[65, 117, 103]⟩, .string ⟨#[83, 101, 112]⟩, .string ⟨#[79, 99, 116]⟩, .string ⟨#[78, 111, 118]⟩, .string ⟨#[68, 101, 99]⟩] 9)).alloc (.cells #[.string ⟨#[]⟩, .string ⟨#[77, 111, 110]⟩, .string ⟨#[84, 117, 101]⟩, .string ⟨#[87, 101, 100]⟩, .string ⟨#[84, 104, 117]⟩, .string ⟨#[70, 114, 105]⟩, .string ⟨#[83, 97, 116]⟩, .string ⟨#[83, 117, 110]⟩] 9)) = w0 at *
  clear em ew
  obtain ⟨_, q0, q1, q2, q3, q4, q5, _⟩ := KB.bx.six
  have wc := KB.wc
  go_upto_region 12 with (fail)
  go_region_held3 (fun w' => w'.cell? ⟨w.heap.size, 0, none⟩ = some (.int .i64 ((k : Int) + 1)) ∧ w'.cell? ⟨w.heap.size, 1, none⟩ = some (.int .i64 3) ∧ w'.cell? ⟨w.heap.size, 2, none⟩ = some (.int .i64 j) ∧ w'.cell? ⟨w.heap.size, 3, none⟩ = some (.int .i64 da) ∧ w'.cell? ⟨w.heap.size, 4, none⟩ = some (.int .i64 ti) ∧ w'.cell? ⟨w.heap.size, 5, none⟩ = some (.int .i64 1) ∧ w'.cell? ⟨w.heap.size + 2, j, none⟩ = some (.string wd)) (first | (with_reducible exact ⟨(KB).bx.six.2.1, (KB).bx.six.2.2.1, (KB).bx.six.2.2.2.1, (KB).bx.six.2.2.2.2.1, (KB).bx.six.2.2.2.2.2.1, (KB).bx.six.2.2.2.2.2.2.1, (KB).wc⟩) | (with_reducible exact ⟨(KB.drew).bx.six.2.1, (KB.drew).bx.six.2.2.1, (KB.drew).bx.six.2.2.2.1, (KB.drew).bx.six.2.2.2.2.1, (KB.drew).bx.six.2.2.2.2.2.1, (KB.drew).bx.six.2.2.2.2.2.2.1, (KB.drew).wc⟩) | go_keep)
    (first
      | (go_at_call 92; (with_reducible refine (DI.out _).mono ?_); rintro e W9 ⟨rfl, k⟩
         with_reducible (first | replace KB := KB.below k | replace KB := KB.drew.below k)
         clear k
         obtain ⟨_, k0, k1, k2, k3, k4, k5, _⟩ := KB.bx.six
         have kw := KB.wc))
  all_goals
    skip
    clear q0 q1 q2 q3 q4 q5 wc
    obtain ⟨_, q0, q1, q2, q3, q4, q5, _⟩ := KB.bx.six
    go_wp2_with fail
    clear q0 q1 q2 q3 q4 q5
    refine (TI.out _).mono ?_
    rintro e w2 ⟨rfl, k⟩
    replace KB := KB.below k
    clear k
    obtain ⟨_, q0, q1, q2, q3, q4, q5, _⟩ := KB.bx.six
    have mc := KB.mc
    have HB := KB.hb
    have sz := HB.size
    go_wp2
    go_ret
    exact ⟨_, _, _, rfl, Ss.lit _ [mo, wd ++ ⟨#[60, 61]⟩ ++ d, t ++ ⟨#[115]⟩] _ (by show 0 < 3; decide) (by show 3 ≤ 100; decide), HB.alloc sz _⟩
theorem pr_32 (k j : Nat) (da ti : Int) (hk : k < 12) (hj : j < 8) (d t mo wd : ByteArray) (em : mon3[k]? = some mo) (ew : wd3[j]? = some wd) (wz : wd.size ≤ 3) (tz : t.size ≤ 26) (DI : Hid (∀ W, Calls Tryz.prog 92 #[.int .i64 da] W (RetV W (.string d)))) (dz : d.size ≤ 19) (TI : Hid (∀ W, Calls Tryz.prog 58 #[.int .i64 ti] W (RetV W (.string t)))) (w : World) :
    Calls Tryz.prog 91 #[.agg #[.int .i64 ((k : Int) + 1), .int .i64 3, .int .i64 j, .int .i64 da, .int .i64 ti, .int .i64 2]] w (RetSs w [mo, wd ++ ⟨#[60, 61]⟩ ++ d, t ++ ⟨#[117]⟩]) := by
  have j8 : (j : Int) < 8 := by omega
  have j0 : (0 : Int) ≤ j := by omega
  have c1 := fun W => run_string_add_sum (P := Tryz.prog) W wd ⟨#[60, 61]⟩ (by show wd.size + 2 ≤ _; omega)
  have c2 := fun W => run_string_add_sum (P := Tryz.prog) W (wd ++ ⟨#[60, 61]⟩) d (by rw [ByteArray.size_append]; show wd.size + 2 + d.size ≤ _; omega)
  go_enter Tryz.func91, Tryz.ntmps91
  go_upto_region 3 with (fail)
  have KB : PB w (.int .i64 ((k : Int) + 1)) (.int .i64 3) (.int .i64 j) (.int .i64 da) (.int .i64 ti) (.int .i64 2) k j mo wd (((w.alloc (.cells #[.int .i64 ((k : Int) + 1), .int .i64 3, .int .i64 j, .int .i64 da, .int .i64 ti, .int .i64 2] 50)).alloc (.cells #[.string ⟨#[74, 97, 110]⟩, .string ⟨#[70, 101, 98]⟩, .string ⟨#[77, 97, 114]⟩, .string ⟨#[65, 112, 114]⟩, .string ⟨#[77, 97, 121]⟩, .string ⟨#[74, 117, 110]⟩, .string ⟨#[74, 117, 108]⟩, .string ⟨#[65, 117, 103]⟩, .string ⟨#[83, 101, 112]⟩, .string ⟨#[79, 99, 116]⟩, .string ⟨#[78, 111, 118]⟩, .string ⟨#[68, 101, 99]⟩] 9)).alloc (.cells #[.string ⟨#[]⟩, .string ⟨#[77, 111, 110]⟩, .string ⟨#[84, 117, 101]⟩, .string ⟨#[87, 101, 100]⟩, .string ⟨#[84, 104, 117]⟩, .string ⟨#[70, 114, 105]⟩, .string ⟨#[83, 97, 116]⟩, .string ⟨#[83, 117, 110]⟩] 9)) := PB.start w _ _ _ _ _ _ k j mo wd em ew _ _
  generalize (((w.alloc (.cells #[.int .i64 ((k : Int) + 1), .int .i64 3, .int .i64 j, .int .i64 da, .int .i64 ti, .int .i64 2] 50)).alloc (.cells #[.string ⟨#[74, 97, 110]⟩, .string ⟨#[70, 101, 98]⟩, .string ⟨#[77, 97, 114]⟩, .string ⟨#[65, 112, 114]⟩, .string ⟨#[77, 97, 121]⟩, .string ⟨#[74, 117, 110]⟩, .string ⟨#[74, 117, 108]⟩, .string ⟨#[65, 117, 103]⟩, .string ⟨#[83, 101, 112]⟩, .string ⟨#[79, 99, 116]⟩, .string ⟨#[78, 111, 118]⟩, .string ⟨#[68, 101, 99]⟩] 9)).alloc (.cells #[.string ⟨#[]⟩, .string ⟨#[77, 111, 110]⟩, .string ⟨#[84, 117, 101]⟩, .string ⟨#[87, 101, 100]⟩, .string ⟨#[84, 104, 117]⟩, .string ⟨#[70, 114, 105]⟩, .string ⟨#[83, 97, 116]⟩, .string ⟨#[83, 117, 110]⟩] 9)) = w0 at *
  clear em ew
  obtain ⟨_, q0, q1, q2, q3, q4, q5, _⟩ := KB.bx.six
  have wc := KB.wc
  go_upto_region 12 with (fail)
  go_region_held3 (fun w' => w'.cell? ⟨w.heap.size, 0, none⟩ = some (.int .i64 ((k : Int) + 1)) ∧ w'.cell? ⟨w.heap.size, 1, none⟩ = some (.int .i64 3) ∧ w'.cell? ⟨w.heap.size, 2, none⟩ = some (.int .i64 j) ∧ w'.cell? ⟨w.heap.size, 3, none⟩ = some (.int .i64 da) ∧ w'.cell? ⟨w.heap.size, 4, none⟩ = some (.int .i64 ti) ∧ w'.cell? ⟨w.heap.size, 5, none⟩ = some (.int .i64 2) ∧ w'.cell? ⟨w.heap.size + 2, j, none⟩ = some (.string wd)) (first | (with_reducible exact ⟨(KB).bx.six.2.1, (KB).bx.six.2.2.1, (KB).bx.six.2.2.2.1, (KB).bx.six.2.2.2.2.1, (KB).bx.six.2.2.2.2.2.1, (KB).bx.six.2.2.2.2.2.2.1, (KB).wc⟩) | (with_reducible exact ⟨(KB.drew).bx.six.2.1, (KB.drew).bx.six.2.2.1, (KB.drew).bx.six.2.2.2.1, (KB.drew).bx.six.2.2.2.2.1, (KB.drew).bx.six.2.2.2.2.2.1, (KB.drew).bx.six.2.2.2.2.2.2.1, (KB.drew).wc⟩) | go_keep)
    (first
      | (go_at_call 92; (with_reducible refine (DI.out _).mono ?_); rintro e W9 ⟨rfl, k⟩
         with_reducible (first | replace KB := KB.below k | replace KB := KB.drew.below k)
         clear k
         obtain ⟨_, k0, k1, k2, k3, k4, k5, _⟩ := KB.bx.six
         have kw := KB.wc))
  all_goals
    skip
    clear q0 q1 q2 q3 q4 q5 wc
    obtain ⟨_, q0, q1, q2, q3, q4, q5, _⟩ := KB.bx.six
    go_wp2_with fail
    clear q0 q1 q2 q3 q4 q5
    refine (TI.out _).mono ?_
    rintro e w2 ⟨rfl, k⟩
    replace KB := KB.below k
    clear k
    obtain ⟨_, q0, q1, q2, q3, q4, q5, _⟩ := KB.bx.six
    have mc := KB.mc
    have HB := KB.hb
    have sz := HB.size
    go_wp2
    go_ret
    exact ⟨_, _, _, rfl, Ss.lit _ [mo, wd ++ ⟨#[60, 61]⟩ ++ d, t ++ ⟨#[117]⟩] _ (by show 0 < 3; decide) (by show 3 ≤ 100; decide), HB.alloc sz _⟩
def spDay (x : Sp) : ByteArray :=
  if x.ki = 0 then decB x.da.toNat else if x.ki = 1 then ⟨#[108, 97, 115, 116]⟩ ++ wd3.getD x.wd.toNat ⟨#[]⟩
  else if x.ki = 2 then wd3.getD x.wd.toNat ⟨#[]⟩ ++ ⟨#[62, 61]⟩ ++ decB x.da.toNat else wd3.getD x.wd.toNat ⟨#[]⟩ ++ ⟨#[60, 61]⟩ ++ decB x.da.toNat
def spClk (x : Sp) : ByteArray := if x.re = 0 then timeB x.ti else if x.re = 1 then timeB x.ti ++ ⟨#[115]⟩ else timeB x.ti ++ ⟨#[117]⟩
def spTexts (x : Sp) : List ByteArray := [mon3.getD (x.mo - 1).toNat ⟨#[]⟩, spDay x, spClk x]
theorem timeB_le (n : Int) (n1 : -9223372036854775808 ≤ n) (n2 : n ≤ 9223372036854775807) : (timeB n).size ≤ 26 := by
  have h1 := decB_le (n := n.natAbs / 3600) (by omega)
  have h2 := twB_size (n := n.natAbs / 60 % 60) (by omega)
  have h3 := twB_size (n := n.natAbs % 60) (by omega)
  have s1 : (⟨[58].toArray⟩ : ByteArray).size = 1 := rfl
  have s2 : ((if n < 0 then ⟨[45].toArray⟩ else ⟨[].toArray⟩) : ByteArray).size ≤ 1 := by split <;> decide
  unfold timeB
  split <;> simp only [ByteArray.size_append, s1] <;> omega
theorem mon3_at {k : Nat} (h : k < 12) : mon3[k]? = some (mon3.getD k ⟨#[]⟩) := by
  have h : k < mon3.length := h
  rw [List.getD_eq_getElem?_getD, List.getElem?_eq_getElem h]; rfl
theorem wd3_at {k : Nat} (h : k < 8) : wd3[k]? = some (wd3.getD k ⟨#[]⟩) := by
  have h : k < wd3.length := h
  rw [List.getD_eq_getElem?_getD, List.getElem?_eq_getElem h]; rfl
theorem wd3_size : ∀ k, k < 8 → (wd3.getD k ⟨#[]⟩).size ≤ 3 := by decide
theorem printSR (x : Sp) (h : x.ok) (w : World) : Calls Tryz.prog 91 #[x.val] w (RetSs w (spTexts x)) := by
  obtain ⟨mo, ki, wd, da, ti, re⟩ := x
  unfold Sp.ok at h
  simp only [] at h
  obtain ⟨k, rfl⟩ : ∃ k : Nat, mo = (k : Int) + 1 := ⟨(mo - 1).toNat, by omega⟩
  obtain ⟨j, rfl⟩ : ∃ j : Nat, wd = (j : Int) := ⟨wd.toNat, by omega⟩
  obtain ⟨n, rfl⟩ : ∃ n : Nat, da = (n : Int) := ⟨da.toNat, by omega⟩
  have TI := Lib.hid (fun W => timeR ti (by omega) (by omega) W)
  have tz := timeB_le ti (by omega) (by omega)
  have DI := Lib.hid (fun W => digitsR n (by omega) (by omega) W)
  have dz := decB_le (n := n) (by omega)
  have hk : k < 12 := by omega
  have hj : j < 8 := by omega
  have em := mon3_at hk
  have ew := wd3_at hj
  have wz := wd3_size j hj
  show Calls Tryz.prog _ #[.agg #[.int .i64 ((k : Int) + 1), .int .i64 ki, .int .i64 j, .int .i64 n, .int .i64 ti, .int .i64 re]] w _
  unfold spTexts spDay spClk
  simp only [Int.toNat_natCast]
  rw [show ((k : Int) + 1 - 1).toNat = k by omega]
  obtain rfl | rfl | rfl : re = 0 ∨ re = 1 ∨ re = 2 := by omega
  · obtain rfl | rfl | rfl | rfl : ki = 0 ∨ ki = 1 ∨ ki = 2 ∨ ki = 3 := by omega
    · exact pr_00 k j n ti hk hj _ _ _ _ em ew wz tz DI dz TI w
    · exact pr_10 k j n ti hk hj _ _ _ em ew wz tz TI w
    · exact pr_20 k j n ti hk hj _ _ _ _ em ew wz tz DI dz TI w
    · exact pr_30 k j n ti hk hj _ _ _ _ em ew wz tz DI dz TI w
  · obtain rfl | rfl | rfl | rfl : ki = 0 ∨ ki = 1 ∨ ki = 2 ∨ ki = 3 := by omega
    · exact pr_01 k j n ti hk hj _ _ _ _ em ew wz tz DI dz TI w
    · exact pr_11 k j n ti hk hj _ _ _ em ew wz tz TI w
    · exact pr_21 k j n ti hk hj _ _ _ _ em ew wz tz DI dz TI w
    · exact pr_31 k j n ti hk hj _ _ _ _ em ew wz tz DI dz TI w
  · obtain rfl | rfl | rfl | rfl : ki = 0 ∨ ki = 1 ∨ ki = 2 ∨ ki = 3 := by omega
    · exact pr_02 k j n ti hk hj _ _ _ _ em ew wz tz DI dz TI w
    · exact pr_12 k j n ti hk hj _ _ _ em ew wz tz TI w
    · exact pr_22 k j n ti hk hj _ _ _ _ em ew wz tz DI dz TI w
    · exact pr_32 k j n ti hk hj _ _ _ _ em ew wz tz DI dz TI w
end Go.Proofs.YtnkmlfbnfndfpaaGreatDoor
