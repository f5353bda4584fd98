/- Stage 9's laws: clocks' times. -/
import Derived.Test.YtipohfaapiiopaaDoorUalive
import Derived.Test.YtipohfaapiiopaaDoorUlong
import Derived.Deep.RegionHeld3
import Derived.Outline
namespace Go.Proofs.YtipohfaapiiopaaDoor
open Go.RowKit

theorem num_long {s : ByteArray} {a b : Int} (h : b < s.size) : numRes s a b = -1 := by unfold numRes; rw [if_pos (.inr h)]
set_option maxRecDepth 100000 in
set_option maxHeartbeats 8000000 in
theorem clocks_long {Q : World → Prop} (MO : ∀ (w W : World), Q w → Below w.heap.size w W → Q W) (AL : Hid (∀ W, Q W → Calls Tryd.prog 14 #[] W (RetV W (.bool true)))) (s : ByteArray) (h : 1000 < s.size) (hs : s.size ≤ maxLen) (CK : Hid (∀ W, Q W → Calls Tryd.prog 15 #[.string s] W (fun o w' => o = .returned (.tuple #[.int .i64 0, .int .i64 0, .int .i64 6]) ∧ Below W.heap.size W w'))) (w : World) (L : Q w) : Calls Tryd.prog 4 #[.string s] w (RetV w (.bool true)) := by
  replace hs : s.size ≤ 9223372036854775807 := hs
  have d1 : decide (1000 < (s.size : Int)) = true := decide_eq_true (by omega)
  clear h
  have hb := Below.refl w.heap.size w
  go_enter Tryd.func4, Tryd.ntmps4
  go_wp2_with fail
  refine (CK.out _ L).mono ?_
  rintro e _ ⟨rfl, k⟩
  replace L := MO _ _ L k
  replace hb := below_next hb k
  clear k
  go_wp2_with fail
  refine (AL.out _ L).mono ?_
  rintro e _ ⟨rfl, k⟩
  replace L := MO _ _ L k
  replace hb := below_next hb k
  clear k
  go_wp2
  go_ret
  exact ⟨rfl, hb⟩
set_option maxRecDepth 100000 in
set_option maxHeartbeats 8000000 in
theorem clocks_00 {Q : World → Prop} (MO : ∀ (w W : World), Q w → Below w.heap.size w W → Q W) (AL : Hid (∀ W, Q W → Calls Tryd.prog 14 #[] W (RetV W (.bool true)))) (s : ByteArray) (h : ¬ 1000 < s.size) (CK : Hid (∀ W, Q W → Calls Tryd.prog 15 #[.string s] W (fun o w' => o = .returned (.tuple #[.int .i64 0, .int .i64 0, .int .i64 6]) ∧ Below W.heap.size W w'))) (RC : Hid (∀ W, Calls Tryd.prog 16 #[.string s] W (fun o w' => o = .returned (.tuple #[.int .i64 0, .int .i64 0, .bool false]) ∧ Below W.heap.size W w'))) (OF : Hid (∀ W, Q W → Calls Tryd.prog 17 #[.string s] W (fun o w' => o = .returned (.tuple #[.int .i64 0, .int .i64 6]) ∧ Below W.heap.size W w'))) (RS : Hid (∀ W, Calls Tryd.prog 18 #[.string s] W (fun o w' => o = .returned (.tuple #[.int .i64 0, .bool false]) ∧ Below W.heap.size W w'))) (w : World) (L : Q w) : Calls Tryd.prog 4 #[.string s] w (RetV w (.bool true)) := by
  have d1 : decide (1000 < (s.size : Int)) = false := decide_eq_false (by omega)
  have hs : s.size ≤ 9223372036854775807 := by omega
  clear h
  have hb := Below.refl w.heap.size w
  go_enter Tryd.func4, Tryd.ntmps4
  go_wp2_with fail
  refine (CK.out _ L).mono ?_
  rintro e _ ⟨rfl, k⟩
  replace L := MO _ _ L k
  replace hb := below_next hb k
  clear k
  go_wp2_with fail
  refine (RC.out _).mono ?_
  rintro e _ ⟨rfl, k⟩
  replace L := MO _ _ L k
  replace hb := below_next hb k
  clear k
  go_wp2_with fail
  refine (OF.out _ L).mono ?_
  rintro e _ ⟨rfl, k⟩
  replace L := MO _ _ L k
  replace hb := below_next hb k
  clear k
  go_wp2_with fail
  refine (RS.out _).mono ?_
  rintro e _ ⟨rfl, k⟩
  replace L := MO _ _ L k
  replace hb := below_next hb k
  clear k
  go_wp2_with fail
  refine (AL.out _ L).mono ?_
  rintro e _ ⟨rfl, k⟩
  replace L := MO _ _ L k
  replace hb := below_next hb k
  clear k
  go_wp2
  go_ret
  exact ⟨rfl, hb⟩
set_option maxRecDepth 100000 in
set_option maxHeartbeats 8000000 in
theorem clocks_01 {Q : World → Prop} (MO : ∀ (w W : World), Q w → Below w.heap.size w W → Q W) (AL : Hid (∀ W, Q W → Calls Tryd.prog 14 #[] W (RetV W (.bool true)))) (s : ByteArray) (h : ¬ 1000 < s.size) (v : Int) (v1 : ¬ v ≤ -86400) (v2 : ¬ 86400 ≤ v) (CK : Hid (∀ W, Q W → Calls Tryd.prog 15 #[.string s] W (fun o w' => o = .returned (.tuple #[.int .i64 0, .int .i64 0, .int .i64 6]) ∧ Below W.heap.size W w'))) (RC : Hid (∀ W, Calls Tryd.prog 16 #[.string s] W (fun o w' => o = .returned (.tuple #[.int .i64 0, .int .i64 0, .bool false]) ∧ Below W.heap.size W w'))) (OF : Hid (∀ W, Q W → Calls Tryd.prog 17 #[.string s] W (fun o w' => o = .returned (.tuple #[.int .i64 v, .int .i64 0]) ∧ Below W.heap.size W w'))) (RS : Hid (∀ W, Calls Tryd.prog 18 #[.string s] W (fun o w' => o = .returned (.tuple #[.int .i64 v, .bool true]) ∧ Below W.heap.size W w'))) (w : World) (L : Q w) : Calls Tryd.prog 4 #[.string s] w (RetV w (.bool true)) := by
  have d1 : decide (1000 < (s.size : Int)) = false := decide_eq_false (by omega)
  have hs : s.size ≤ 9223372036854775807 := by omega
  have d2 : decide (v ≤ -86400) = false := decide_eq_false v1
  have d3 : decide (86400 ≤ v) = false := decide_eq_false v2
  clear h v1 v2
  have hb := Below.refl w.heap.size w
  go_enter Tryd.func4, Tryd.ntmps4
  go_wp2_with fail
  refine (CK.out _ L).mono ?_
  rintro e _ ⟨rfl, k⟩
  replace L := MO _ _ L k
  replace hb := below_next hb k
  clear k
  go_wp2_with fail
  refine (RC.out _).mono ?_
  rintro e _ ⟨rfl, k⟩
  replace L := MO _ _ L k
  replace hb := below_next hb k
  clear k
  go_wp2_with fail
  refine (OF.out _ L).mono ?_
  rintro e _ ⟨rfl, k⟩
  replace L := MO _ _ L k
  replace hb := below_next hb k
  clear k
  go_wp2_with fail
  refine (RS.out _).mono ?_
  rintro e _ ⟨rfl, k⟩
  replace L := MO _ _ L k
  replace hb := below_next hb k
  clear k
  go_wp2_with fail
  refine (AL.out _ L).mono ?_
  rintro e _ ⟨rfl, k⟩
  replace L := MO _ _ L k
  replace hb := below_next hb k
  clear k
  go_wp2
  go_ret
  exact ⟨rfl, hb⟩
set_option maxRecDepth 100000 in
set_option maxHeartbeats 8000000 in
theorem clocks_02 {Q : World → Prop} (MO : ∀ (w W : World), Q w → Below w.heap.size w W → Q W) (AL : Hid (∀ W, Q W → Calls Tryd.prog 14 #[] W (RetV W (.bool true)))) (s : ByteArray) (h : ¬ 1000 < s.size) (v : Int) (v1 : v ≤ -86400) (CK : Hid (∀ W, Q W → Calls Tryd.prog 15 #[.string s] W (fun o w' => o = .returned (.tuple #[.int .i64 0, .int .i64 0, .int .i64 6]) ∧ Below W.heap.size W w'))) (RC : Hid (∀ W, Calls Tryd.prog 16 #[.string s] W (fun o w' => o = .returned (.tuple #[.int .i64 0, .int .i64 0, .bool false]) ∧ Below W.heap.size W w'))) (OF : Hid (∀ W, Q W → Calls Tryd.prog 17 #[.string s] W (fun o w' => o = .returned (.tuple #[.int .i64 0, .int .i64 11]) ∧ Below W.heap.size W w'))) (RS : Hid (∀ W, Calls Tryd.prog 18 #[.string s] W (fun o w' => o = .returned (.tuple #[.int .i64 v, .bool true]) ∧ Below W.heap.size W w'))) (w : World) (L : Q w) : Calls Tryd.prog 4 #[.string s] w (RetV w (.bool true)) := by
  have d1 : decide (1000 < (s.size : Int)) = false := decide_eq_false (by omega)
  have hs : s.size ≤ 9223372036854775807 := by omega
  have d2 : decide (v ≤ -86400) = true := decide_eq_true v1
  clear h v1
  have hb := Below.refl w.heap.size w
  go_enter Tryd.func4, Tryd.ntmps4
  go_wp2_with fail
  refine (CK.out _ L).mono ?_
  rintro e _ ⟨rfl, k⟩
  replace L := MO _ _ L k
  replace hb := below_next hb k
  clear k
  go_wp2_with fail
  refine (RC.out _).mono ?_
  rintro e _ ⟨rfl, k⟩
  replace L := MO _ _ L k
  replace hb := below_next hb k
  clear k
  go_wp2_with fail
  refine (OF.out _ L).mono ?_
  rintro e _ ⟨rfl, k⟩
  replace L := MO _ _ L k
  replace hb := below_next hb k
  clear k
  go_wp2_with fail
  refine (RS.out _).mono ?_
  rintro e _ ⟨rfl, k⟩
  replace L := MO _ _ L k
  replace hb := below_next hb k
  clear k
  go_wp2_with fail
  refine (AL.out _ L).mono ?_
  rintro e _ ⟨rfl, k⟩
  replace L := MO _ _ L k
  replace hb := below_next hb k
  clear k
  go_wp2
  go_ret
  exact ⟨rfl, hb⟩
set_option maxRecDepth 100000 in
set_option maxHeartbeats 8000000 in
theorem clocks_03 {Q : World → Prop} (MO : ∀ (w W : World), Q w → Below w.heap.size w W → Q W) (AL : Hid (∀ W, Q W → Calls Tryd.prog 14 #[] W (RetV W (.bool true)))) (s : ByteArray) (h : ¬ 1000 < s.size) (v : Int) (v1 : ¬ v ≤ -86400) (v2 : 86400 ≤ v) (CK : Hid (∀ W, Q W → Calls Tryd.prog 15 #[.string s] W (fun o w' => o = .returned (.tuple #[.int .i64 0, .int .i64 0, .int .i64 6]) ∧ Below W.heap.size W w'))) (RC : Hid (∀ W, Calls Tryd.prog 16 #[.string s] W (fun o w' => o = .returned (.tuple #[.int .i64 0, .int .i64 0, .bool false]) ∧ Below W.heap.size W w'))) (OF : Hid (∀ W, Q W → Calls Tryd.prog 17 #[.string s] W (fun o w' => o = .returned (.tuple #[.int .i64 0, .int .i64 11]) ∧ Below W.heap.size W w'))) (RS : Hid (∀ W, Calls Tryd.prog 18 #[.string s] W (fun o w' => o = .returned (.tuple #[.int .i64 v, .bool true]) ∧ Below W.heap.size W w'))) (w : World) (L : Q w) : Calls Tryd.prog 4 #[.string s] w (RetV w (.bool true)) := by
  have d1 : decide (1000 < (s.size : Int)) = false := decide_eq_false (by omega)
  have hs : s.size ≤ 9223372036854775807 := by omega
  have d2 : decide (v ≤ -86400) = false := decide_eq_false v1
  have d3 : decide (86400 ≤ v) = true := decide_eq_true v2
  clear h v1 v2
  have hb := Below.refl w.heap.size w
  go_enter Tryd.func4, Tryd.ntmps4
  go_wp2_with fail
  refine (CK.out _ L).mono ?_
  rintro e _ ⟨rfl, k⟩
  replace L := MO _ _ L k
  replace hb := below_next hb k
  clear k
  go_wp2_with fail
  refine (RC.out _).mono ?_
  rintro e _ ⟨rfl, k⟩
  replace L := MO _ _ L k
  replace hb := below_next hb k
  clear k
  go_wp2_with fail
  refine (OF.out _ L).mono ?_
  rintro e _ ⟨rfl, k⟩
  replace L := MO _ _ L k
  replace hb := below_next hb k
  clear k
  go_wp2_with fail
  refine (RS.out _).mono ?_
  rintro e _ ⟨rfl, k⟩
  replace L := MO _ _ L k
  replace hb := below_next hb k
  clear k
  go_wp2_with fail
  refine (AL.out _ L).mono ?_
  rintro e _ ⟨rfl, k⟩
  replace L := MO _ _ L k
  replace hb := below_next hb k
  clear k
  go_wp2
  go_ret
  exact ⟨rfl, hb⟩
set_option maxRecDepth 100000 in
set_option maxHeartbeats 8000000 in
theorem clocks_10 {Q : World → Prop} (MO : ∀ (w W : World), Q w → Below w.heap.size w W → Q W) (AL : Hid (∀ W, Q W → Calls Tryd.prog 14 #[] W (RetV W (.bool true)))) (s : ByteArray) (h : ¬ 1000 < s.size) (a b : Int) (CK : Hid (∀ W, Q W → Calls Tryd.prog 15 #[.string s] W (fun o w' => o = .returned (.tuple #[.int .i64 a, .int .i64 b, .int .i64 0]) ∧ Below W.heap.size W w'))) (RC : Hid (∀ W, Calls Tryd.prog 16 #[.string s] W (fun o w' => o = .returned (.tuple #[.int .i64 a, .int .i64 b, .bool true]) ∧ Below W.heap.size W w'))) (OF : Hid (∀ W, Q W → Calls Tryd.prog 17 #[.string s] W (fun o w' => o = .returned (.tuple #[.int .i64 0, .int .i64 6]) ∧ Below W.heap.size W w'))) (RS : Hid (∀ W, Calls Tryd.prog 18 #[.string s] W (fun o w' => o = .returned (.tuple #[.int .i64 0, .bool false]) ∧ Below W.heap.size W w'))) (w : World) (L : Q w) : Calls Tryd.prog 4 #[.string s] w (RetV w (.bool true)) := by
  have d1 : decide (1000 < (s.size : Int)) = false := decide_eq_false (by omega)
  have hs : s.size ≤ 9223372036854775807 := by omega
  clear h
  have hb := Below.refl w.heap.size w
  go_enter Tryd.func4, Tryd.ntmps4
  go_wp2_with fail
  refine (CK.out _ L).mono ?_
  rintro e _ ⟨rfl, k⟩
  replace L := MO _ _ L k
  replace hb := below_next hb k
  clear k
  go_wp2_with fail
  refine (RC.out _).mono ?_
  rintro e _ ⟨rfl, k⟩
  replace L := MO _ _ L k
  replace hb := below_next hb k
  clear k
  go_wp2_with fail
  refine (OF.out _ L).mono ?_
  rintro e _ ⟨rfl, k⟩
  replace L := MO _ _ L k
  replace hb := below_next hb k
  clear k
  go_wp2_with fail
  refine (RS.out _).mono ?_
  rintro e _ ⟨rfl, k⟩
  replace L := MO _ _ L k
  replace hb := below_next hb k
  clear k
  go_wp2_with fail
  refine (AL.out _ L).mono ?_
  rintro e _ ⟨rfl, k⟩
  replace L := MO _ _ L k
  replace hb := below_next hb k
  clear k
  go_wp2
  go_ret
  exact ⟨rfl, hb⟩
set_option maxRecDepth 100000 in
set_option maxHeartbeats 8000000 in
theorem clocks_11 {Q : World → Prop} (MO : ∀ (w W : World), Q w → Below w.heap.size w W → Q W) (AL : Hid (∀ W, Q W → Calls Tryd.prog 14 #[] W (RetV W (.bool true)))) (s : ByteArray) (h : ¬ 1000 < s.size) (a b : Int) (v : Int) (v1 : ¬ v ≤ -86400) (v2 : ¬ 86400 ≤ v) (CK : Hid (∀ W, Q W → Calls Tryd.prog 15 #[.string s] W (fun o w' => o = .returned (.tuple #[.int .i64 a, .int .i64 b, .int .i64 0]) ∧ Below W.heap.size W w'))) (RC : Hid (∀ W, Calls Tryd.prog 16 #[.string s] W (fun o w' => o = .returned (.tuple #[.int .i64 a, .int .i64 b, .bool true]) ∧ Below W.heap.size W w'))) (OF : Hid (∀ W, Q W → Calls Tryd.prog 17 #[.string s] W (fun o w' => o = .returned (.tuple #[.int .i64 v, .int .i64 0]) ∧ Below W.heap.size W w'))) (RS : Hid (∀ W, Calls Tryd.prog 18 #[.string s] W (fun o w' => o = .returned (.tuple #[.int .i64 v, .bool true]) ∧ Below W.heap.size W w'))) (w : World) (L : Q w) : Calls Tryd.prog 4 #[.string s] w (RetV w (.bool true)) := by
  have d1 : decide (1000 < (s.size : Int)) = false := decide_eq_false (by omega)
  have hs : s.size ≤ 9223372036854775807 := by omega
  have d2 : decide (v ≤ -86400) = false := decide_eq_false v1
  have d3 : decide (86400 ≤ v) = false := decide_eq_false v2
  clear h v1 v2
  have hb := Below.refl w.heap.size w
  go_enter Tryd.func4, Tryd.ntmps4
  go_wp2_with fail
  refine (CK.out _ L).mono ?_
  rintro e _ ⟨rfl, k⟩
  replace L := MO _ _ L k
  replace hb := below_next hb k
  clear k
  go_wp2_with fail
  refine (RC.out _).mono ?_
  rintro e _ ⟨rfl, k⟩
  replace L := MO _ _ L k
  replace hb := below_next hb k
  clear k
  go_wp2_with fail
  refine (OF.out _ L).mono ?_
  rintro e _ ⟨rfl, k⟩
  replace L := MO _ _ L k
  replace hb := below_next hb k
  clear k
  go_wp2_with fail
  refine (RS.out _).mono ?_
  rintro e _ ⟨rfl, k⟩
  replace L := MO _ _ L k
  replace hb := below_next hb k
  clear k
  go_wp2_with fail
  refine (AL.out _ L).mono ?_
  rintro e _ ⟨rfl, k⟩
  replace L := MO _ _ L k
  replace hb := below_next hb k
  clear k
  go_wp2
  go_ret
  exact ⟨rfl, hb⟩
set_option maxRecDepth 100000 in
set_option maxHeartbeats 8000000 in
theorem clocks_12 {Q : World → Prop} (MO : ∀ (w W : World), Q w → Below w.heap.size w W → Q W) (AL : Hid (∀ W, Q W → Calls Tryd.prog 14 #[] W (RetV W (.bool true)))) (s : ByteArray) (h : ¬ 1000 < s.size) (a b : Int) (v : Int) (v1 : v ≤ -86400) (CK : Hid (∀ W, Q W → Calls Tryd.prog 15 #[.string s] W (fun o w' => o = .returned (.tuple #[.int .i64 a, .int .i64 b, .int .i64 0]) ∧ Below W.heap.size W w'))) (RC : Hid (∀ W, Calls Tryd.prog 16 #[.string s] W (fun o w' => o = .returned (.tuple #[.int .i64 a, .int .i64 b, .bool true]) ∧ Below W.heap.size W w'))) (OF : Hid (∀ W, Q W → Calls Tryd.prog 17 #[.string s] W (fun o w' => o = .returned (.tuple #[.int .i64 0, .int .i64 11]) ∧ Below W.heap.size W w'))) (RS : Hid (∀ W, Calls Tryd.prog 18 #[.string s] W (fun o w' => o = .returned (.tuple #[.int .i64 v, .bool true]) ∧ Below W.heap.size W w'))) (w : World) (L : Q w) : Calls Tryd.prog 4 #[.string s] w (RetV w (.bool true)) := by
  have d1 : decide (1000 < (s.size : Int)) = false := decide_eq_false (by omega)
  have hs : s.size ≤ 9223372036854775807 := by omega
  have d2 : decide (v ≤ -86400) = true := decide_eq_true v1
  clear h v1
  have hb := Below.refl w.heap.size w
  go_enter Tryd.func4, Tryd.ntmps4
  go_wp2_with fail
  refine (CK.out _ L).mono ?_
  rintro e _ ⟨rfl, k⟩
  replace L := MO _ _ L k
  replace hb := below_next hb k
  clear k
  go_wp2_with fail
  refine (RC.out _).mono ?_
  rintro e _ ⟨rfl, k⟩
  replace L := MO _ _ L k
  replace hb := below_next hb k
  clear k
  go_wp2_with fail
  refine (OF.out _ L).mono ?_
  rintro e _ ⟨rfl, k⟩
  replace L := MO _ _ L k
  replace hb := below_next hb k
  clear k
  go_wp2_with fail
  refine (RS.out _).mono ?_
  rintro e _ ⟨rfl, k⟩
  replace L := MO _ _ L k
  replace hb := below_next hb k
  clear k
  go_wp2_with fail
  refine (AL.out _ L).mono ?_
  rintro e _ ⟨rfl, k⟩
  replace L := MO _ _ L k
  replace hb := below_next hb k
  clear k
  go_wp2
  go_ret
  exact ⟨rfl, hb⟩
set_option maxRecDepth 100000 in
set_option maxHeartbeats 8000000 in
theorem clocks_13 {Q : World → Prop} (MO : ∀ (w W : World), Q w → Below w.heap.size w W → Q W) (AL : Hid (∀ W, Q W → Calls Tryd.prog 14 #[] W (RetV W (.bool true)))) (s : ByteArray) (h : ¬ 1000 < s.size) (a b : Int) (v : Int) (v1 : ¬ v ≤ -86400) (v2 : 86400 ≤ v) (CK : Hid (∀ W, Q W → Calls Tryd.prog 15 #[.string s] W (fun o w' => o = .returned (.tuple #[.int .i64 a, .int .i64 b, .int .i64 0]) ∧ Below W.heap.size W w'))) (RC : Hid (∀ W, Calls Tryd.prog 16 #[.string s] W (fun o w' => o = .returned (.tuple #[.int .i64 a, .int .i64 b, .bool true]) ∧ Below W.heap.size W w'))) (OF : Hid (∀ W, Q W → Calls Tryd.prog 17 #[.string s] W (fun o w' => o = .returned (.tuple #[.int .i64 0, .int .i64 11]) ∧ Below W.heap.size W w'))) (RS : Hid (∀ W, Calls Tryd.prog 18 #[.string s] W (fun o w' => o = .returned (.tuple #[.int .i64 v, .bool true]) ∧ Below W.heap.size W w'))) (w : World) (L : Q w) : Calls Tryd.prog 4 #[.string s] w (RetV w (.bool true)) := by
  have d1 : decide (1000 < (s.size : Int)) = false := decide_eq_false (by omega)
  have hs : s.size ≤ 9223372036854775807 := by omega
  have d2 : decide (v ≤ -86400) = false := decide_eq_false v1
  have d3 : decide (86400 ≤ v) = true := decide_eq_true v2
  clear h v1 v2
  have hb := Below.refl w.heap.size w
  go_enter Tryd.func4, Tryd.ntmps4
  go_wp2_with fail
  refine (CK.out _ L).mono ?_
  rintro e _ ⟨rfl, k⟩
  replace L := MO _ _ L k
  replace hb := below_next hb k
  clear k
  go_wp2_with fail
  refine (RC.out _).mono ?_
  rintro e _ ⟨rfl, k⟩
  replace L := MO _ _ L k
  replace hb := below_next hb k
  clear k
  go_wp2_with fail
  refine (OF.out _ L).mono ?_
  rintro e _ ⟨rfl, k⟩
  replace L := MO _ _ L k
  replace hb := below_next hb k
  clear k
  go_wp2_with fail
  refine (RS.out _).mono ?_
  rintro e _ ⟨rfl, k⟩
  replace L := MO _ _ L k
  replace hb := below_next hb k
  clear k
  go_wp2_with fail
  refine (AL.out _ L).mono ?_
  rintro e _ ⟨rfl, k⟩
  replace L := MO _ _ L k
  replace hb := below_next hb k
  clear k
  go_wp2
  go_ret
  exact ⟨rfl, hb⟩
theorem clocksL {full : Prop} {Q : World → Prop} (C : MomentP full Q) (s : ByteArray) (hs : s.size ≤ 140737488355328) (w : World) (L : Q w) : Calls Tryd.prog 4 #[.string s] w (RetV w (.bool true)) := by
  have AL := Lib.hid (alive9 C)
  have CK := C.clock s hs
  by_cases h : 1000 < s.size
  · have e : ckRes s = (0, 0, 6) := by unfold ckRes; rw [clock_long (by omega)]
    rw [e] at CK
    exact clocks_long C.mono AL s h (by unfold maxLen; omega) (Lib.hid CK) w L
  have OF := C.offset s (by omega)
  have RC := clockR s (by omega)
  have RS := spanR s (by omega)
  unfold ckRes at CK
  unfold ofRes at OF
  cases ec : clockRes s with
  | none =>
    rw [ec] at CK RC
    cases es : spanRes s with
    | none => rw [es] at OF RS; exact clocks_00 C.mono AL s h (Lib.hid CK) (Lib.hid RC) (Lib.hid OF) (Lib.hid RS) w L
    | some v =>
      rw [es] at OF RS
      dsimp only at OF
      by_cases v1 : v ≤ -86400
      · rw [if_pos (.inl v1)] at OF; exact clocks_02 C.mono AL s h v v1 (Lib.hid CK) (Lib.hid RC) (Lib.hid OF) (Lib.hid RS) w L
      · by_cases v2 : 86400 ≤ v
        · rw [if_pos (.inr v2)] at OF; exact clocks_03 C.mono AL s h v v1 v2 (Lib.hid CK) (Lib.hid RC) (Lib.hid OF) (Lib.hid RS) w L
        · rw [if_neg (by omega)] at OF; exact clocks_01 C.mono AL s h v v1 v2 (Lib.hid CK) (Lib.hid RC) (Lib.hid OF) (Lib.hid RS) w L
  | some x =>
    rw [ec] at CK RC
    obtain ⟨a, b⟩ := x
    cases es : spanRes s with
    | none => rw [es] at OF RS; exact clocks_10 C.mono AL s h a b (Lib.hid CK) (Lib.hid RC) (Lib.hid OF) (Lib.hid RS) w L
    | some v =>
      rw [es] at OF RS
      dsimp only at OF
      by_cases v1 : v ≤ -86400
      · rw [if_pos (.inl v1)] at OF; exact clocks_12 C.mono AL s h a b v v1 (Lib.hid CK) (Lib.hid RC) (Lib.hid OF) (Lib.hid RS) w L
      · by_cases v2 : 86400 ≤ v
        · rw [if_pos (.inr v2)] at OF; exact clocks_13 C.mono AL s h a b v v1 v2 (Lib.hid CK) (Lib.hid RC) (Lib.hid OF) (Lib.hid RS) w L
        · rw [if_neg (by omega)] at OF; exact clocks_11 C.mono AL s h a b v v1 v2 (Lib.hid CK) (Lib.hid RC) (Lib.hid OF) (Lib.hid RS) w L
end Go.Proofs.YtipohfaapiiopaaDoor
