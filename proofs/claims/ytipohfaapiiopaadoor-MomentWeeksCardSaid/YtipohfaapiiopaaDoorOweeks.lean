/- Stage 9's laws: where the days of spots lie. -/
import Derived.Test.YtipohfaapiiopaaDoorUalive
import Derived.Test.YtipohfaapiiopaaDoorGe
import Derived.Deep.RegionHeld3
import Derived.Outline
import Derived.BigQuiet
namespace Go.Proofs.YtipohfaapiiopaaDoor
open Go.RowKit

/-- a premise on memory that calls keep -/
structure KQ (Q : World → Prop) (w : World) : Prop where
  q : Q w
  mo : ∀ (w W : World), Q w → Below w.heap.size w W → Q W
theorem first_ok {y m : Int} (y1 : 1 ≤ y) (y2 : y ≤ 270000) (h : 1 ≤ m ∧ m ≤ 12) : okD y m 1 ∧ -800000 ≤ numD y m 1 ∧ numD y m 1 ≤ 99000000 := by
  have l := lenM_range (y := y) h.1 h.2
  have dk : dayOk y m 1 := ⟨h.1, h.2, by omega, by omega⟩
  have a := num_year dk
  have b := jan_le (a := 1) (b := y) y1
  have c := jan_le (a := y + 1) (b := 270001) (by omega)
  have j1 : jan 1 = -719162 := by decide
  have j2 : jan 270001 = 97896313 := by decide
  exact ⟨⟨dk, by omega, by omega⟩, by omega, by omega⟩
theorem onDay_near {z : Sp} (h : z.ok) {y : Int} (a : -800000 ≤ numD y z.mo 1 ∧ numD y z.mo 1 ≤ 99000000) (l : lenM y z.mo ≤ 31) : -900000 ≤ onDay z y ∧ onDay z y ≤ 99001000 := by
  have h8 := @downTo_is (numD y z.mo 1 + lenM y z.mo - 1) z.wd
  have h9 := @downTo_is (numD y z.mo 1 + z.da - 1) z.wd
  have h10 := @upTo_is (numD y z.mo 1 + z.da - 1) z.wd
  have l0 := (lenM_le y z.mo).1
  unfold Sp.ok at h
  unfold onDay
  split
  · omega
  · split
    · omega
    · split <;> omega
theorem KQ.mono {Q : World → Prop} {w W : World} (h : KQ Q w) (k : Below w.heap.size w W) : KQ Q W := ⟨h.mo _ _ h.q k, h.mo⟩
set_option maxRecDepth 100000 in
set_option maxHeartbeats 8000000 in
theorem weeks_r {Q : World → Prop} (mo ki wd da ti re y : Int)  (RI : Hid (∀ W, KQ Q W → Calls Tryd.prog 22 #[.agg #[.int .i64 (mo), .int .i64 (ki), .int .i64 (wd), .int .i64 (da), .int .i64 (ti), .int .i64 (re)]] W (fun o w' => o = .returned (.bool false) ∧ Below W.heap.size W w'))) (AL : Hid (∀ W, KQ Q W → Calls Tryd.prog 14 #[] W (fun o w' => o = .returned (.bool true) ∧ Below W.heap.size W w'))) (w : World) (L : KQ Q w) :
    Calls Tryd.prog 9 #[.agg #[.int .i64 (mo), .int .i64 (ki), .int .i64 (wd), .int .i64 (da), .int .i64 (ti), .int .i64 (re)], .int .i64 y] w (RetV w (.bool true)) := by
  go_enter Tryd.func9, Tryd.ntmps9
  go_upto_region 1 with (fail)
  have KB := ((BK.nil w).more6 (.int .i64 (mo)) (.int .i64 (ki)) (.int .i64 (wd)) (.int .i64 (da)) (.int .i64 (ti)) (.int .i64 (re)) 36)
  generalize (w.alloc (.cells #[.int .i64 (mo), .int .i64 (ki), .int .i64 (wd), .int .i64 (da), .int .i64 (ti), .int .i64 (re)] 36)) = w0 at *
  obtain ⟨_, q0a, q0b, q0c, q0d, q0e, q0f, _⟩ := (KB.head).six
  go_wp2_with fail
  clear q0a q0b q0c q0d q0e q0f
  refine (RI.out _ (L.mono KB.hb)).mono ?_
  rintro e w1 ⟨rfl, k⟩
  replace KB := KB.below k
  clear k
  obtain ⟨_, q0a, q0b, q0c, q0d, q0e, q0f, _⟩ := (KB.head).six
  go_wp2_with fail
  clear q0a q0b q0c q0d q0e q0f
  refine (AL.out _ (L.mono KB.hb)).mono ?_
  rintro e w2 ⟨rfl, k⟩
  replace KB := KB.below k
  clear k
  have HB := KB.hb
  go_wp2
  go_ret
  exact ⟨rfl, HB⟩
set_option maxRecDepth 100000 in
set_option maxHeartbeats 8000000 in
theorem weeks_0 {Q : World → Prop} (mo wd da ti re y : Int)  (RI : Hid (∀ W, KQ Q W → Calls Tryd.prog 22 #[.agg #[.int .i64 (mo), .int .i64 (0), .int .i64 (wd), .int .i64 (da), .int .i64 (ti), .int .i64 (re)]] W (fun o w' => o = .returned (.bool true) ∧ Below W.heap.size W w'))) (AL : Hid (∀ W, KQ Q W → Calls Tryd.prog 14 #[] W (fun o w' => o = .returned (.bool true) ∧ Below W.heap.size W w'))) (w : World) (L : KQ Q w) :
    Calls Tryd.prog 9 #[.agg #[.int .i64 (mo), .int .i64 (0), .int .i64 (wd), .int .i64 (da), .int .i64 (ti), .int .i64 (re)], .int .i64 y] w (RetV w (.bool true)) := by
  go_enter Tryd.func9, Tryd.ntmps9
  go_upto_region 1 with (fail)
  have KB := ((BK.nil w).more6 (.int .i64 (mo)) (.int .i64 (0)) (.int .i64 (wd)) (.int .i64 (da)) (.int .i64 (ti)) (.int .i64 (re)) 36)
  generalize (w.alloc (.cells #[.int .i64 (mo), .int .i64 (0), .int .i64 (wd), .int .i64 (da), .int .i64 (ti), .int .i64 (re)] 36)) = w0 at *
  obtain ⟨_, q0a, q0b, q0c, q0d, q0e, q0f, _⟩ := (KB.head).six
  go_wp2_with fail
  clear q0a q0b q0c q0d q0e q0f
  refine (RI.out _ (L.mono KB.hb)).mono ?_
  rintro e w1 ⟨rfl, k⟩
  replace KB := KB.below k
  clear k
  obtain ⟨_, q0a, q0b, q0c, q0d, q0e, q0f, _⟩ := (KB.head).six
  go_wp2_with fail
  clear q0a q0b q0c q0d q0e q0f
  refine (AL.out _ (L.mono KB.hb)).mono ?_
  rintro e w2 ⟨rfl, k⟩
  replace KB := KB.below k
  clear k
  have HB := KB.hb
  go_wp2
  go_ret
  exact ⟨rfl, HB⟩
set_option maxRecDepth 100000 in
set_option maxHeartbeats 8000000 in
theorem weeks_y1 {Q : World → Prop} (mo ki wd da ti re y : Int) (k0 : (ki == 0) = false) (_y1 : y < 1) (RI : Hid (∀ W, KQ Q W → Calls Tryd.prog 22 #[.agg #[.int .i64 (mo), .int .i64 (ki), .int .i64 (wd), .int .i64 (da), .int .i64 (ti), .int .i64 (re)]] W (fun o w' => o = .returned (.bool true) ∧ Below W.heap.size W w'))) (AL : Hid (∀ W, KQ Q W → Calls Tryd.prog 14 #[] W (fun o w' => o = .returned (.bool true) ∧ Below W.heap.size W w'))) (w : World) (L : KQ Q w) :
    Calls Tryd.prog 9 #[.agg #[.int .i64 (mo), .int .i64 (ki), .int .i64 (wd), .int .i64 (da), .int .i64 (ti), .int .i64 (re)], .int .i64 y] w (RetV w (.bool true)) := by
  go_enter Tryd.func9, Tryd.ntmps9
  go_upto_region 1 with (fail)
  have KB := ((BK.nil w).more6 (.int .i64 (mo)) (.int .i64 (ki)) (.int .i64 (wd)) (.int .i64 (da)) (.int .i64 (ti)) (.int .i64 (re)) 36)
  generalize (w.alloc (.cells #[.int .i64 (mo), .int .i64 (ki), .int .i64 (wd), .int .i64 (da), .int .i64 (ti), .int .i64 (re)] 36)) = w0 at *
  obtain ⟨_, q0a, q0b, q0c, q0d, q0e, q0f, _⟩ := (KB.head).six
  go_wp2_with fail
  clear q0a q0b q0c q0d q0e q0f
  refine (RI.out _ (L.mono KB.hb)).mono ?_
  rintro e w1 ⟨rfl, k⟩
  replace KB := KB.below k
  clear k
  have d1 : decide (y < 1) = true := decide_eq_true (by omega)
  obtain ⟨_, q0a, q0b, q0c, q0d, q0e, q0f, _⟩ := (KB.head).six
  go_wp2_with fail
  clear q0a q0b q0c q0d q0e q0f
  refine (AL.out _ (L.mono KB.hb)).mono ?_
  rintro e w2 ⟨rfl, k⟩
  replace KB := KB.below k
  clear k
  have HB := KB.hb
  go_wp2
  go_ret
  exact ⟨rfl, HB⟩
set_option maxRecDepth 100000 in
set_option maxHeartbeats 8000000 in
theorem weeks_y2 {Q : World → Prop} (mo ki wd da ti re y : Int) (k0 : (ki == 0) = false) (_y1 : 1 ≤ y) (_y2 : 270000 < y) (RI : Hid (∀ W, KQ Q W → Calls Tryd.prog 22 #[.agg #[.int .i64 (mo), .int .i64 (ki), .int .i64 (wd), .int .i64 (da), .int .i64 (ti), .int .i64 (re)]] W (fun o w' => o = .returned (.bool true) ∧ Below W.heap.size W w'))) (AL : Hid (∀ W, KQ Q W → Calls Tryd.prog 14 #[] W (fun o w' => o = .returned (.bool true) ∧ Below W.heap.size W w'))) (w : World) (L : KQ Q w) :
    Calls Tryd.prog 9 #[.agg #[.int .i64 (mo), .int .i64 (ki), .int .i64 (wd), .int .i64 (da), .int .i64 (ti), .int .i64 (re)], .int .i64 y] w (RetV w (.bool true)) := by
  go_enter Tryd.func9, Tryd.ntmps9
  go_upto_region 1 with (fail)
  have KB := ((BK.nil w).more6 (.int .i64 (mo)) (.int .i64 (ki)) (.int .i64 (wd)) (.int .i64 (da)) (.int .i64 (ti)) (.int .i64 (re)) 36)
  generalize (w.alloc (.cells #[.int .i64 (mo), .int .i64 (ki), .int .i64 (wd), .int .i64 (da), .int .i64 (ti), .int .i64 (re)] 36)) = w0 at *
  obtain ⟨_, q0a, q0b, q0c, q0d, q0e, q0f, _⟩ := (KB.head).six
  go_wp2_with fail
  clear q0a q0b q0c q0d q0e q0f
  refine (RI.out _ (L.mono KB.hb)).mono ?_
  rintro e w1 ⟨rfl, k⟩
  replace KB := KB.below k
  clear k
  have d1 : decide (y < 1) = false := decide_eq_false (by omega)
  have d2 : decide (270000 < y) = true := decide_eq_true (by omega)
  obtain ⟨_, q0a, q0b, q0c, q0d, q0e, q0f, _⟩ := (KB.head).six
  go_wp2_with fail
  clear q0a q0b q0c q0d q0e q0f
  refine (AL.out _ (L.mono KB.hb)).mono ?_
  rintro e w2 ⟨rfl, k⟩
  replace KB := KB.below k
  clear k
  have HB := KB.hb
  go_wp2
  go_ret
  exact ⟨rfl, HB⟩
set_option maxRecDepth 100000 in
set_option maxHeartbeats 8000000 in
theorem weeks_1 {Q : World → Prop} (mo wd da ti re y n y' d' ml : Int) (_y1 : 1 ≤ y) (_y2 : y ≤ 270000) (hd : ml - 7 < d') (l1 : 28 ≤ ml ∧ ml ≤ 31) (RI : Hid (∀ W, KQ Q W → Calls Tryd.prog 22 #[.agg #[.int .i64 (mo), .int .i64 (1), .int .i64 (wd), .int .i64 (da), .int .i64 (ti), .int .i64 (re)]] W (fun o w' => o = .returned (.bool true) ∧ Below W.heap.size W w'))) (ON : Hid (∀ W, KQ Q W → Calls Tryd.prog 28 #[.agg #[.int .i64 (mo), .int .i64 (1), .int .i64 (wd), .int .i64 (da), .int .i64 (ti), .int .i64 (re)], .int .i64 y] W (fun o w' => o = .returned (.tuple #[.int .i64 (n), .bool true]) ∧ Below W.heap.size W w'))) (OF : Hid (∀ W, KQ Q W → Calls Tryd.prog 32 #[.int .i64 (n)] W (fun o w' => o = .returned (.tuple #[.agg #[.int .i64 (y'), .int .i64 (mo), .int .i64 (d')], .bool true]) ∧ Below W.heap.size W w'))) (WD : Hid (∀ W, KQ Q W → Calls Tryd.prog 33 #[.agg #[.int .i64 (y'), .int .i64 (mo), .int .i64 (d')]] W (fun o w' => o = .returned (.int .i64 (wd)) ∧ Below W.heap.size W w'))) (ML : Hid (∀ W, KQ Q W → Calls Tryd.prog 34 #[.int .i64 (y), .int .i64 (mo)] W (fun o w' => o = .returned (.int .i64 (ml)) ∧ W = w'))) (OX : Hid (∀ W, KQ Q W → Calls Tryd.prog 28 #[.agg #[.int .i64 (mo), .int .i64 (3), .int .i64 (wd), .int .i64 (ml), .int .i64 (ti), .int .i64 (re)], .int .i64 y] W (fun o w' => o = .returned (.tuple #[.int .i64 (n), .bool true]) ∧ Below W.heap.size W w'))) (AL : Hid (∀ W, KQ Q W → Calls Tryd.prog 14 #[] W (fun o w' => o = .returned (.bool true) ∧ Below W.heap.size W w'))) (w : World) (L : KQ Q w) :
    Calls Tryd.prog 9 #[.agg #[.int .i64 (mo), .int .i64 (1), .int .i64 (wd), .int .i64 (da), .int .i64 (ti), .int .i64 (re)], .int .i64 y] w (RetV w (.bool true)) := by
  go_enter Tryd.func9, Tryd.ntmps9
  go_upto_region 1 with (fail)
  have KB := ((BK.nil w).more6 (.int .i64 (mo)) (.int .i64 (1)) (.int .i64 (wd)) (.int .i64 (da)) (.int .i64 (ti)) (.int .i64 (re)) 36)
  generalize (w.alloc (.cells #[.int .i64 (mo), .int .i64 (1), .int .i64 (wd), .int .i64 (da), .int .i64 (ti), .int .i64 (re)] 36)) = w0 at *
  obtain ⟨_, q0a, q0b, q0c, q0d, q0e, q0f, _⟩ := (KB.head).six
  go_wp2_with fail
  clear q0a q0b q0c q0d q0e q0f
  refine (RI.out _ (L.mono KB.hb)).mono ?_
  rintro e w1 ⟨rfl, k⟩
  replace KB := KB.below k
  clear k
  have d1 : decide (y < 1) = false := decide_eq_false (by omega)
  have d2 : decide (270000 < y) = false := decide_eq_false (by omega)
  obtain ⟨_, q0a, q0b, q0c, q0d, q0e, q0f, _⟩ := (KB.head).six
  go_wp2_with fail
  clear q0a q0b q0c q0d q0e q0f
  refine (ON.out _ (L.mono KB.hb)).mono ?_
  rintro e w2 ⟨rfl, k⟩
  replace KB := KB.below k
  clear k
  go_wp2_with fail
  refine (OF.out _ (L.mono KB.hb)).mono ?_
  rintro e w3 ⟨rfl, k⟩
  replace KB := KB.below k
  clear k
  go_upto_region 5 with (fail)
  have ig0 : w3.heap.size ≠ w.heap.size := Nat.ne_of_gt (KB.head).lt
  have og0 := Ne.symm ig0
  have ggg : w.heap.size ≤ w3.heap.size := KB.hb.size
  replace KB := KB.more3 (.int .i64 (y')) (.int .i64 (mo)) (.int .i64 (d')) 53
  generalize w3.alloc (.cells #[.int .i64 (y'), .int .i64 (mo), .int .i64 (d')] 53) = w4 at *
  generalize w3.heap.size = g at *
  go_cut [55] (fun v wx => v = .bool false ∧ BK w [(g, [.int .i64 (y'), .int .i64 (mo), .int .i64 (d')]), (w.heap.size, [.int .i64 (mo), .int .i64 (1), .int .i64 (wd), .int .i64 (da), .int .i64 (ti), .int .i64 (re)])] wx)
  case first =>
    obtain ⟨_, j0a, j0b, j0c, _⟩ := (KB.head).three
    obtain ⟨_, j1a, j1b, j1c, j1d, j1e, j1f, _⟩ := (KB.tail.head).six
    go_region_held3 (fun w' => w'.cell? ⟨g, 0, none⟩ = some (.int .i64 (y')) ∧ w'.cell? ⟨g, 1, none⟩ = some (.int .i64 (mo)) ∧ w'.cell? ⟨g, 2, none⟩ = some (.int .i64 (d')) ∧ w'.cell? ⟨w.heap.size, 0, none⟩ = some (.int .i64 (mo)) ∧ w'.cell? ⟨w.heap.size, 1, none⟩ = some (.int .i64 (1)) ∧ w'.cell? ⟨w.heap.size, 2, none⟩ = some (.int .i64 (wd)) ∧ w'.cell? ⟨w.heap.size, 3, none⟩ = some (.int .i64 (da)) ∧ w'.cell? ⟨w.heap.size, 4, none⟩ = some (.int .i64 (ti)) ∧ w'.cell? ⟨w.heap.size, 5, none⟩ = some (.int .i64 (re))) (first | (with_reducible exact ⟨(KB.head).three.2.1, (KB.head).three.2.2.1, (KB.head).three.2.2.2.1, (KB.tail.head).six.2.1, (KB.tail.head).six.2.2.1, (KB.tail.head).six.2.2.2.1, (KB.tail.head).six.2.2.2.2.1, (KB.tail.head).six.2.2.2.2.2.1, (KB.tail.head).six.2.2.2.2.2.2.1⟩) | (with_reducible exact ⟨(KB.drew.head).three.2.1, (KB.drew.head).three.2.2.1, (KB.drew.head).three.2.2.2.1, (KB.drew.tail.head).six.2.1, (KB.drew.tail.head).six.2.2.1, (KB.drew.tail.head).six.2.2.2.1, (KB.drew.tail.head).six.2.2.2.2.1, (KB.drew.tail.head).six.2.2.2.2.2.1, (KB.drew.tail.head).six.2.2.2.2.2.2.1⟩) | go_keep)
      (first
        | (go_at_call 33; (with_reducible refine (WD.out _ (by with_reducible first | exact L.mono KB.hb | exact L.mono KB.drew.hb)).mono ?_); rintro e W9 ⟨rfl, k⟩
           with_reducible (first | replace KB := KB.below k | replace KB := KB.drew.below k)
           clear k
           obtain ⟨_, k0a, k0b, k0c, _⟩ := (KB.head).three
           obtain ⟨_, k1a, k1b, k1c, k1d, k1e, k1f, _⟩ := (KB.tail.head).six))
    all_goals
      go_wp2_with fail
      go_meet
      with_reducible first | exact ⟨rfl, KB⟩ | exact ⟨rfl, KB.drew⟩
  case rest =>
  obtain ⟨rfl, KN⟩ := hcut
  clear KB
  have KB := KN
  clear KN
  obtain ⟨_, q0a, q0b, q0c, q0d, q0e, q0f, _⟩ := (KB.tail.head).six
  go_upto_region 8 with (fail)
  clear q0a q0b q0c q0d q0e q0f
  have ih0 : wc.heap.size ≠ g := Nat.ne_of_gt (KB.head).lt
  have oh0 := Ne.symm ih0
  have ih1 : wc.heap.size ≠ w.heap.size := Nat.ne_of_gt (KB.tail.head).lt
  have oh1 := Ne.symm ih1
  have ggh : w.heap.size ≤ wc.heap.size := KB.hb.size
  replace KB := KB.more6 (.int .i64 (mo)) (.int .i64 (1)) (.int .i64 (wd)) (.int .i64 (da)) (.int .i64 (ti)) (.int .i64 (re)) 36
  generalize wc.alloc (.cells #[.int .i64 (mo), .int .i64 (1), .int .i64 (wd), .int .i64 (da), .int .i64 (ti), .int .i64 (re)] 36) = w5 at *
  generalize wc.heap.size = h at *
  obtain ⟨_, j0, j1, j2, j3, j4, j5, jf0, jf1, jf2, jf3, jf4, jf5⟩ := (KB.head).six
  go_upto_region 9 with (fail)
  clear j0 jf0 j1 jf1 j2 jf2 j3 jf3 j4 jf4 j5 jf5
  have KN : BK w [(h, [.int .i64 (mo), .int .i64 3, .int .i64 (wd), .int .i64 (da), .int .i64 (ti), .int .i64 (re)]), (g, [.int .i64 (y'), .int .i64 (mo), .int .i64 (d')]), (w.heap.size, [.int .i64 (mo), .int .i64 (1), .int .i64 (wd), .int .i64 (da), .int .i64 (ti), .int .i64 (re)])] (w5.setCell ⟨h, 1, none⟩ (.int .i64 3)) := KB.one 1 (.int .i64 3) (KB.head.at 1 _) (by omega) (by intro x hx; simp only [List.mem_cons, List.not_mem_nil, or_false] at hx; rcases hx with rfl | rfl <;> first | assumption | omega)
  clear KB
  generalize w5.setCell ⟨h, 1, none⟩ (.int .i64 3) = w6 at *
  have KB := KN
  clear KN
  obtain ⟨_, q0a, q0b, q0c, q0d, q0e, q0f, _⟩ := (KB.tail.tail.head).six
  go_wp2_with fail
  clear q0a q0b q0c q0d q0e q0f
  refine (ML.out _ (L.mono KB.hb)).mono ?_
  rintro e _w ⟨rfl, rfl⟩
  obtain ⟨_, j0, j1, j2, j3, j4, j5, jf0, jf1, jf2, jf3, jf4, jf5⟩ := (KB.head).six
  go_upto_region 10 with (fail)
  clear j0 jf0 j1 jf1 j2 jf2 j3 jf3 j4 jf4 j5 jf5
  have KN : BK w [(h, [.int .i64 (mo), .int .i64 3, .int .i64 (wd), .int .i64 (ml), .int .i64 (ti), .int .i64 (re)]), (g, [.int .i64 (y'), .int .i64 (mo), .int .i64 (d')]), (w.heap.size, [.int .i64 (mo), .int .i64 (1), .int .i64 (wd), .int .i64 (da), .int .i64 (ti), .int .i64 (re)])] (w6.setCell ⟨h, 3, none⟩ (.int .i64 (ml))) := KB.one 3 (.int .i64 (ml)) (KB.head.at 3 _) (by omega) (by intro x hx; simp only [List.mem_cons, List.not_mem_nil, or_false] at hx; rcases hx with rfl | rfl <;> first | assumption | omega)
  clear KB
  generalize w6.setCell ⟨h, 3, none⟩ (.int .i64 (ml)) = w7 at *
  have KB := KN
  clear KN
  obtain ⟨_, q0a, q0b, q0c, q0d, q0e, q0f, _⟩ := (KB.head).six
  obtain ⟨_, q1a, q1b, q1c, q1d, q1e, q1f, _⟩ := (KB.tail.tail.head).six
  go_wp2_with fail
  clear q0a q0b q0c q0d q0e q0f q1a q1b q1c q1d q1e q1f
  refine (OX.out _ (L.mono KB.hb)).mono ?_
  rintro e w8 ⟨rfl, k⟩
  replace KB := KB.below k
  clear k
  have d3 : decide (ml - 7 < d') = true := decide_eq_true (by omega)
  obtain ⟨_, q0a, q0b, q0c, q0d, q0e, q0f, _⟩ := (KB.head).six
  obtain ⟨_, q1a, q1b, q1c, _⟩ := (KB.tail.head).three
  obtain ⟨_, q2a, q2b, q2c, q2d, q2e, q2f, _⟩ := (KB.tail.tail.head).six
  go_wp2_with fail
  clear q0a q0b q0c q0d q0e q0f q1a q1b q1c q2a q2b q2c q2d q2e q2f
  refine (AL.out _ (L.mono KB.hb)).mono ?_
  rintro e w9 ⟨rfl, k⟩
  replace KB := KB.below k
  clear k
  obtain ⟨_, q0a, q0b, q0c, q0d, q0e, q0f, _⟩ := (KB.head).six
  obtain ⟨_, q1a, q1b, q1c, _⟩ := (KB.tail.head).three
  obtain ⟨_, q2a, q2b, q2c, q2d, q2e, q2f, _⟩ := (KB.tail.tail.head).six
  have HB := KB.hb
  go_wp2
  go_ret
  exact ⟨rfl, HB⟩
set_option maxRecDepth 100000 in
set_option maxHeartbeats 8000000 in
theorem weeks_2 {Q : World → Prop} (mo wd da ti re y n y' m' d' ml m0 : Int) (_y1 : 1 ≤ y) (_y2 : y ≤ 270000) (m1 : -200000000 ≤ m0 ∧ m0 ≤ 200000000) (h1 : m0 ≤ n ∧ n < m0 + 7) (RI : Hid (∀ W, KQ Q W → Calls Tryd.prog 22 #[.agg #[.int .i64 (mo), .int .i64 (2), .int .i64 (wd), .int .i64 (da), .int .i64 (ti), .int .i64 (re)]] W (fun o w' => o = .returned (.bool true) ∧ Below W.heap.size W w'))) (ON : Hid (∀ W, KQ Q W → Calls Tryd.prog 28 #[.agg #[.int .i64 (mo), .int .i64 (2), .int .i64 (wd), .int .i64 (da), .int .i64 (ti), .int .i64 (re)], .int .i64 y] W (fun o w' => o = .returned (.tuple #[.int .i64 (n), .bool true]) ∧ Below W.heap.size W w'))) (OF : Hid (∀ W, KQ Q W → Calls Tryd.prog 32 #[.int .i64 (n)] W (fun o w' => o = .returned (.tuple #[.agg #[.int .i64 (y'), .int .i64 (m'), .int .i64 (d')], .bool true]) ∧ Below W.heap.size W w'))) (WD : Hid (∀ W, KQ Q W → Calls Tryd.prog 33 #[.agg #[.int .i64 (y'), .int .i64 (m'), .int .i64 (d')]] W (fun o w' => o = .returned (.int .i64 (wd)) ∧ Below W.heap.size W w'))) (ML : Hid (∀ W, KQ Q W → Calls Tryd.prog 34 #[.int .i64 (y), .int .i64 (mo)] W (fun o w' => o = .returned (.int .i64 (ml)) ∧ W = w'))) (OY : Hid (∀ W, KQ Q W → Calls Tryd.prog 28 #[.agg #[.int .i64 (mo), .int .i64 (0), .int .i64 (0), .int .i64 (da), .int .i64 (0), .int .i64 (0)], .int .i64 y] W (fun o w' => o = .returned (.tuple #[.int .i64 (m0), .bool true]) ∧ Below W.heap.size W w'))) (AL : Hid (∀ W, KQ Q W → Calls Tryd.prog 14 #[] W (fun o w' => o = .returned (.bool true) ∧ Below W.heap.size W w'))) (w : World) (L : KQ Q w) :
    Calls Tryd.prog 9 #[.agg #[.int .i64 (mo), .int .i64 (2), .int .i64 (wd), .int .i64 (da), .int .i64 (ti), .int .i64 (re)], .int .i64 y] w (RetV w (.bool true)) := by
  go_enter Tryd.func9, Tryd.ntmps9
  go_upto_region 1 with (fail)
  have KB := ((BK.nil w).more6 (.int .i64 (mo)) (.int .i64 (2)) (.int .i64 (wd)) (.int .i64 (da)) (.int .i64 (ti)) (.int .i64 (re)) 36)
  generalize (w.alloc (.cells #[.int .i64 (mo), .int .i64 (2), .int .i64 (wd), .int .i64 (da), .int .i64 (ti), .int .i64 (re)] 36)) = w0 at *
  obtain ⟨_, q0a, q0b, q0c, q0d, q0e, q0f, _⟩ := (KB.head).six
  go_wp2_with fail
  clear q0a q0b q0c q0d q0e q0f
  refine (RI.out _ (L.mono KB.hb)).mono ?_
  rintro e w1 ⟨rfl, k⟩
  replace KB := KB.below k
  clear k
  have d1 : decide (y < 1) = false := decide_eq_false (by omega)
  have d2 : decide (270000 < y) = false := decide_eq_false (by omega)
  obtain ⟨_, q0a, q0b, q0c, q0d, q0e, q0f, _⟩ := (KB.head).six
  go_wp2_with fail
  clear q0a q0b q0c q0d q0e q0f
  refine (ON.out _ (L.mono KB.hb)).mono ?_
  rintro e w2 ⟨rfl, k⟩
  replace KB := KB.below k
  clear k
  go_wp2_with fail
  refine (OF.out _ (L.mono KB.hb)).mono ?_
  rintro e w3 ⟨rfl, k⟩
  replace KB := KB.below k
  clear k
  go_upto_region 5 with (fail)
  have ig0 : w3.heap.size ≠ w.heap.size := Nat.ne_of_gt (KB.head).lt
  have og0 := Ne.symm ig0
  have ggg : w.heap.size ≤ w3.heap.size := KB.hb.size
  replace KB := KB.more3 (.int .i64 (y')) (.int .i64 (m')) (.int .i64 (d')) 53
  generalize w3.alloc (.cells #[.int .i64 (y'), .int .i64 (m'), .int .i64 (d')] 53) = w4 at *
  generalize w3.heap.size = g at *
  go_cut [55] (fun v wx => v = .bool false ∧ BK w [(g, [.int .i64 (y'), .int .i64 (m'), .int .i64 (d')]), (w.heap.size, [.int .i64 (mo), .int .i64 (2), .int .i64 (wd), .int .i64 (da), .int .i64 (ti), .int .i64 (re)])] wx)
  case first =>
    obtain ⟨_, j0a, j0b, j0c, _⟩ := (KB.head).three
    obtain ⟨_, j1a, j1b, j1c, j1d, j1e, j1f, _⟩ := (KB.tail.head).six
    go_region_held3 (fun w' => w'.cell? ⟨g, 0, none⟩ = some (.int .i64 (y')) ∧ w'.cell? ⟨g, 1, none⟩ = some (.int .i64 (m')) ∧ w'.cell? ⟨g, 2, none⟩ = some (.int .i64 (d')) ∧ w'.cell? ⟨w.heap.size, 0, none⟩ = some (.int .i64 (mo)) ∧ w'.cell? ⟨w.heap.size, 1, none⟩ = some (.int .i64 (2)) ∧ w'.cell? ⟨w.heap.size, 2, none⟩ = some (.int .i64 (wd)) ∧ w'.cell? ⟨w.heap.size, 3, none⟩ = some (.int .i64 (da)) ∧ w'.cell? ⟨w.heap.size, 4, none⟩ = some (.int .i64 (ti)) ∧ w'.cell? ⟨w.heap.size, 5, none⟩ = some (.int .i64 (re))) (first | (with_reducible exact ⟨(KB.head).three.2.1, (KB.head).three.2.2.1, (KB.head).three.2.2.2.1, (KB.tail.head).six.2.1, (KB.tail.head).six.2.2.1, (KB.tail.head).six.2.2.2.1, (KB.tail.head).six.2.2.2.2.1, (KB.tail.head).six.2.2.2.2.2.1, (KB.tail.head).six.2.2.2.2.2.2.1⟩) | (with_reducible exact ⟨(KB.drew.head).three.2.1, (KB.drew.head).three.2.2.1, (KB.drew.head).three.2.2.2.1, (KB.drew.tail.head).six.2.1, (KB.drew.tail.head).six.2.2.1, (KB.drew.tail.head).six.2.2.2.1, (KB.drew.tail.head).six.2.2.2.2.1, (KB.drew.tail.head).six.2.2.2.2.2.1, (KB.drew.tail.head).six.2.2.2.2.2.2.1⟩) | go_keep)
      (first
        | (go_at_call 33; (with_reducible refine (WD.out _ (by with_reducible first | exact L.mono KB.hb | exact L.mono KB.drew.hb)).mono ?_); rintro e W9 ⟨rfl, k⟩
           with_reducible (first | replace KB := KB.below k | replace KB := KB.drew.below k)
           clear k
           obtain ⟨_, k0a, k0b, k0c, _⟩ := (KB.head).three
           obtain ⟨_, k1a, k1b, k1c, k1d, k1e, k1f, _⟩ := (KB.tail.head).six))
    all_goals
      go_wp2_with fail
      go_meet
      with_reducible first | exact ⟨rfl, KB⟩ | exact ⟨rfl, KB.drew⟩
  case rest =>
  obtain ⟨rfl, KN⟩ := hcut
  clear KB
  have KB := KN
  clear KN
  obtain ⟨_, q0a, q0b, q0c, q0d, q0e, q0f, _⟩ := (KB.tail.head).six
  go_upto_region 8 with (fail)
  clear q0a q0b q0c q0d q0e q0f
  have ih0 : wc.heap.size ≠ g := Nat.ne_of_gt (KB.head).lt
  have oh0 := Ne.symm ih0
  have ih1 : wc.heap.size ≠ w.heap.size := Nat.ne_of_gt (KB.tail.head).lt
  have oh1 := Ne.symm ih1
  have ggh : w.heap.size ≤ wc.heap.size := KB.hb.size
  replace KB := KB.more6 (.int .i64 (mo)) (.int .i64 (2)) (.int .i64 (wd)) (.int .i64 (da)) (.int .i64 (ti)) (.int .i64 (re)) 36
  generalize wc.alloc (.cells #[.int .i64 (mo), .int .i64 (2), .int .i64 (wd), .int .i64 (da), .int .i64 (ti), .int .i64 (re)] 36) = w5 at *
  generalize wc.heap.size = h at *
  obtain ⟨_, j0, j1, j2, j3, j4, j5, jf0, jf1, jf2, jf3, jf4, jf5⟩ := (KB.head).six
  go_upto_region 9 with (fail)
  clear j0 jf0 j1 jf1 j2 jf2 j3 jf3 j4 jf4 j5 jf5
  have KN : BK w [(h, [.int .i64 (mo), .int .i64 3, .int .i64 (wd), .int .i64 (da), .int .i64 (ti), .int .i64 (re)]), (g, [.int .i64 (y'), .int .i64 (m'), .int .i64 (d')]), (w.heap.size, [.int .i64 (mo), .int .i64 (2), .int .i64 (wd), .int .i64 (da), .int .i64 (ti), .int .i64 (re)])] (w5.setCell ⟨h, 1, none⟩ (.int .i64 3)) := KB.one 1 (.int .i64 3) (KB.head.at 1 _) (by omega) (by intro x hx; simp only [List.mem_cons, List.not_mem_nil, or_false] at hx; rcases hx with rfl | rfl <;> first | assumption | omega)
  clear KB
  generalize w5.setCell ⟨h, 1, none⟩ (.int .i64 3) = w6 at *
  have KB := KN
  clear KN
  obtain ⟨_, q0a, q0b, q0c, q0d, q0e, q0f, _⟩ := (KB.tail.tail.head).six
  go_wp2_with fail
  clear q0a q0b q0c q0d q0e q0f
  refine (ML.out _ (L.mono KB.hb)).mono ?_
  rintro e _w ⟨rfl, rfl⟩
  obtain ⟨_, j0, j1, j2, j3, j4, j5, jf0, jf1, jf2, jf3, jf4, jf5⟩ := (KB.head).six
  go_upto_region 10 with (fail)
  clear j0 jf0 j1 jf1 j2 jf2 j3 jf3 j4 jf4 j5 jf5
  have KN : BK w [(h, [.int .i64 (mo), .int .i64 3, .int .i64 (wd), .int .i64 (ml), .int .i64 (ti), .int .i64 (re)]), (g, [.int .i64 (y'), .int .i64 (m'), .int .i64 (d')]), (w.heap.size, [.int .i64 (mo), .int .i64 (2), .int .i64 (wd), .int .i64 (da), .int .i64 (ti), .int .i64 (re)])] (w6.setCell ⟨h, 3, none⟩ (.int .i64 (ml))) := KB.one 3 (.int .i64 (ml)) (KB.head.at 3 _) (by omega) (by intro x hx; simp only [List.mem_cons, List.not_mem_nil, or_false] at hx; rcases hx with rfl | rfl <;> first | assumption | omega)
  clear KB
  generalize w6.setCell ⟨h, 3, none⟩ (.int .i64 (ml)) = w7 at *
  have KB := KN
  clear KN
  obtain ⟨_, q0a, q0b, q0c, q0d, q0e, q0f, _⟩ := (KB.tail.tail.head).six
  go_upto_region 14 with (fail)
  clear q0a q0b q0c q0d q0e q0f
  have ir0 : w7.heap.size ≠ h := Nat.ne_of_gt (KB.head).lt
  have or0 := Ne.symm ir0
  have ir1 : w7.heap.size ≠ g := Nat.ne_of_gt (KB.tail.head).lt
  have or1 := Ne.symm ir1
  have ir2 : w7.heap.size ≠ w.heap.size := Nat.ne_of_gt (KB.tail.tail.head).lt
  have or2 := Ne.symm ir2
  have ggr : w.heap.size ≤ w7.heap.size := KB.hb.size
  replace KB := KB.more6 (.int .i64 (mo)) (.int .i64 (0)) (.int .i64 (0)) (.int .i64 (da)) (.int .i64 (0)) (.int .i64 (0)) 36
  generalize w7.alloc (.cells #[.int .i64 (mo), .int .i64 (0), .int .i64 (0), .int .i64 (da), .int .i64 (0), .int .i64 (0)] 36) = w8 at *
  generalize w7.heap.size = r at *
  obtain ⟨_, q0a, q0b, q0c, q0d, q0e, q0f, _⟩ := (KB.head).six
  go_wp2_with fail
  clear q0a q0b q0c q0d q0e q0f
  refine (OY.out _ (L.mono KB.hb)).mono ?_
  rintro e w9 ⟨rfl, k⟩
  replace KB := KB.below k
  clear k
  have d3 : decide (m0 ≤ n) = true := decide_eq_true (by omega)
  have d4 : decide (n < m0 + 7) = true := decide_eq_true (by omega)
  obtain ⟨_, q0a, q0b, q0c, q0d, q0e, q0f, _⟩ := (KB.tail.tail.tail.head).six
  go_wp2_with fail
  clear q0a q0b q0c q0d q0e q0f
  refine (AL.out _ (L.mono KB.hb)).mono ?_
  rintro e w10 ⟨rfl, k⟩
  replace KB := KB.below k
  clear k
  obtain ⟨_, q0a, q0b, q0c, q0d, q0e, q0f, _⟩ := (KB.tail.tail.tail.head).six
  have HB := KB.hb
  go_wp2
  go_ret
  exact ⟨rfl, HB⟩
set_option maxRecDepth 100000 in
set_option maxHeartbeats 8000000 in
theorem weeks_3 {Q : World → Prop} (mo wd da ti re y n y' m' d' ml m0 : Int) (_y1 : 1 ≤ y) (_y2 : y ≤ 270000) (m1 : -200000000 ≤ m0 ∧ m0 ≤ 200000000) (h1 : n ≤ m0 ∧ m0 - 7 < n) (RI : Hid (∀ W, KQ Q W → Calls Tryd.prog 22 #[.agg #[.int .i64 (mo), .int .i64 (3), .int .i64 (wd), .int .i64 (da), .int .i64 (ti), .int .i64 (re)]] W (fun o w' => o = .returned (.bool true) ∧ Below W.heap.size W w'))) (ON : Hid (∀ W, KQ Q W → Calls Tryd.prog 28 #[.agg #[.int .i64 (mo), .int .i64 (3), .int .i64 (wd), .int .i64 (da), .int .i64 (ti), .int .i64 (re)], .int .i64 y] W (fun o w' => o = .returned (.tuple #[.int .i64 (n), .bool true]) ∧ Below W.heap.size W w'))) (OF : Hid (∀ W, KQ Q W → Calls Tryd.prog 32 #[.int .i64 (n)] W (fun o w' => o = .returned (.tuple #[.agg #[.int .i64 (y'), .int .i64 (m'), .int .i64 (d')], .bool true]) ∧ Below W.heap.size W w'))) (WD : Hid (∀ W, KQ Q W → Calls Tryd.prog 33 #[.agg #[.int .i64 (y'), .int .i64 (m'), .int .i64 (d')]] W (fun o w' => o = .returned (.int .i64 (wd)) ∧ Below W.heap.size W w'))) (ML : Hid (∀ W, KQ Q W → Calls Tryd.prog 34 #[.int .i64 (y), .int .i64 (mo)] W (fun o w' => o = .returned (.int .i64 (ml)) ∧ W = w'))) (OY : Hid (∀ W, KQ Q W → Calls Tryd.prog 28 #[.agg #[.int .i64 (mo), .int .i64 (0), .int .i64 (0), .int .i64 (da), .int .i64 (0), .int .i64 (0)], .int .i64 y] W (fun o w' => o = .returned (.tuple #[.int .i64 (m0), .bool true]) ∧ Below W.heap.size W w'))) (AL : Hid (∀ W, KQ Q W → Calls Tryd.prog 14 #[] W (fun o w' => o = .returned (.bool true) ∧ Below W.heap.size W w'))) (w : World) (L : KQ Q w) :
    Calls Tryd.prog 9 #[.agg #[.int .i64 (mo), .int .i64 (3), .int .i64 (wd), .int .i64 (da), .int .i64 (ti), .int .i64 (re)], .int .i64 y] w (RetV w (.bool true)) := by
  go_enter Tryd.func9, Tryd.ntmps9
  go_upto_region 1 with (fail)
  have KB := ((BK.nil w).more6 (.int .i64 (mo)) (.int .i64 (3)) (.int .i64 (wd)) (.int .i64 (da)) (.int .i64 (ti)) (.int .i64 (re)) 36)
  generalize (w.alloc (.cells #[.int .i64 (mo), .int .i64 (3), .int .i64 (wd), .int .i64 (da), .int .i64 (ti), .int .i64 (re)] 36)) = w0 at *
  obtain ⟨_, q0a, q0b, q0c, q0d, q0e, q0f, _⟩ := (KB.head).six
  go_wp2_with fail
  clear q0a q0b q0c q0d q0e q0f
  refine (RI.out _ (L.mono KB.hb)).mono ?_
  rintro e w1 ⟨rfl, k⟩
  replace KB := KB.below k
  clear k
  have d1 : decide (y < 1) = false := decide_eq_false (by omega)
  have d2 : decide (270000 < y) = false := decide_eq_false (by omega)
  obtain ⟨_, q0a, q0b, q0c, q0d, q0e, q0f, _⟩ := (KB.head).six
  go_wp2_with fail
  clear q0a q0b q0c q0d q0e q0f
  refine (ON.out _ (L.mono KB.hb)).mono ?_
  rintro e w2 ⟨rfl, k⟩
  replace KB := KB.below k
  clear k
  go_wp2_with fail
  refine (OF.out _ (L.mono KB.hb)).mono ?_
  rintro e w3 ⟨rfl, k⟩
  replace KB := KB.below k
  clear k
  go_upto_region 5 with (fail)
  have ig0 : w3.heap.size ≠ w.heap.size := Nat.ne_of_gt (KB.head).lt
  have og0 := Ne.symm ig0
  have ggg : w.heap.size ≤ w3.heap.size := KB.hb.size
  replace KB := KB.more3 (.int .i64 (y')) (.int .i64 (m')) (.int .i64 (d')) 53
  generalize w3.alloc (.cells #[.int .i64 (y'), .int .i64 (m'), .int .i64 (d')] 53) = w4 at *
  generalize w3.heap.size = g at *
  go_cut [55] (fun v wx => v = .bool false ∧ BK w [(g, [.int .i64 (y'), .int .i64 (m'), .int .i64 (d')]), (w.heap.size, [.int .i64 (mo), .int .i64 (3), .int .i64 (wd), .int .i64 (da), .int .i64 (ti), .int .i64 (re)])] wx)
  case first =>
    obtain ⟨_, j0a, j0b, j0c, _⟩ := (KB.head).three
    obtain ⟨_, j1a, j1b, j1c, j1d, j1e, j1f, _⟩ := (KB.tail.head).six
    go_region_held3 (fun w' => w'.cell? ⟨g, 0, none⟩ = some (.int .i64 (y')) ∧ w'.cell? ⟨g, 1, none⟩ = some (.int .i64 (m')) ∧ w'.cell? ⟨g, 2, none⟩ = some (.int .i64 (d')) ∧ w'.cell? ⟨w.heap.size, 0, none⟩ = some (.int .i64 (mo)) ∧ w'.cell? ⟨w.heap.size, 1, none⟩ = some (.int .i64 (3)) ∧ w'.cell? ⟨w.heap.size, 2, none⟩ = some (.int .i64 (wd)) ∧ w'.cell? ⟨w.heap.size, 3, none⟩ = some (.int .i64 (da)) ∧ w'.cell? ⟨w.heap.size, 4, none⟩ = some (.int .i64 (ti)) ∧ w'.cell? ⟨w.heap.size, 5, none⟩ = some (.int .i64 (re))) (first | (with_reducible exact ⟨(KB.head).three.2.1, (KB.head).three.2.2.1, (KB.head).three.2.2.2.1, (KB.tail.head).six.2.1, (KB.tail.head).six.2.2.1, (KB.tail.head).six.2.2.2.1, (KB.tail.head).six.2.2.2.2.1, (KB.tail.head).six.2.2.2.2.2.1, (KB.tail.head).six.2.2.2.2.2.2.1⟩) | (with_reducible exact ⟨(KB.drew.head).three.2.1, (KB.drew.head).three.2.2.1, (KB.drew.head).three.2.2.2.1, (KB.drew.tail.head).six.2.1, (KB.drew.tail.head).six.2.2.1, (KB.drew.tail.head).six.2.2.2.1, (KB.drew.tail.head).six.2.2.2.2.1, (KB.drew.tail.head).six.2.2.2.2.2.1, (KB.drew.tail.head).six.2.2.2.2.2.2.1⟩) | go_keep)
      (first
        | (go_at_call 33; (with_reducible refine (WD.out _ (by with_reducible first | exact L.mono KB.hb | exact L.mono KB.drew.hb)).mono ?_); rintro e W9 ⟨rfl, k⟩
           with_reducible (first | replace KB := KB.below k | replace KB := KB.drew.below k)
           clear k
           obtain ⟨_, k0a, k0b, k0c, _⟩ := (KB.head).three
           obtain ⟨_, k1a, k1b, k1c, k1d, k1e, k1f, _⟩ := (KB.tail.head).six))
    all_goals
      go_wp2_with fail
      go_meet
      with_reducible first | exact ⟨rfl, KB⟩ | exact ⟨rfl, KB.drew⟩
  case rest =>
  obtain ⟨rfl, KN⟩ := hcut
  clear KB
  have KB := KN
  clear KN
  obtain ⟨_, q0a, q0b, q0c, q0d, q0e, q0f, _⟩ := (KB.tail.head).six
  go_upto_region 8 with (fail)
  clear q0a q0b q0c q0d q0e q0f
  have ih0 : wc.heap.size ≠ g := Nat.ne_of_gt (KB.head).lt
  have oh0 := Ne.symm ih0
  have ih1 : wc.heap.size ≠ w.heap.size := Nat.ne_of_gt (KB.tail.head).lt
  have oh1 := Ne.symm ih1
  have ggh : w.heap.size ≤ wc.heap.size := KB.hb.size
  replace KB := KB.more6 (.int .i64 (mo)) (.int .i64 (3)) (.int .i64 (wd)) (.int .i64 (da)) (.int .i64 (ti)) (.int .i64 (re)) 36
  generalize wc.alloc (.cells #[.int .i64 (mo), .int .i64 (3), .int .i64 (wd), .int .i64 (da), .int .i64 (ti), .int .i64 (re)] 36) = w5 at *
  generalize wc.heap.size = h at *
  obtain ⟨_, j0, j1, j2, j3, j4, j5, jf0, jf1, jf2, jf3, jf4, jf5⟩ := (KB.head).six
  go_upto_region 9 with (fail)
  clear j0 jf0 j1 jf1 j2 jf2 j3 jf3 j4 jf4 j5 jf5
  have KN : BK w [(h, [.int .i64 (mo), .int .i64 3, .int .i64 (wd), .int .i64 (da), .int .i64 (ti), .int .i64 (re)]), (g, [.int .i64 (y'), .int .i64 (m'), .int .i64 (d')]), (w.heap.size, [.int .i64 (mo), .int .i64 (3), .int .i64 (wd), .int .i64 (da), .int .i64 (ti), .int .i64 (re)])] (w5.setCell ⟨h, 1, none⟩ (.int .i64 3)) := KB.one 1 (.int .i64 3) (KB.head.at 1 _) (by omega) (by intro x hx; simp only [List.mem_cons, List.not_mem_nil, or_false] at hx; rcases hx with rfl | rfl <;> first | assumption | omega)
  clear KB
  generalize w5.setCell ⟨h, 1, none⟩ (.int .i64 3) = w6 at *
  have KB := KN
  clear KN
  obtain ⟨_, q0a, q0b, q0c, q0d, q0e, q0f, _⟩ := (KB.tail.tail.head).six
  go_wp2_with fail
  clear q0a q0b q0c q0d q0e q0f
  refine (ML.out _ (L.mono KB.hb)).mono ?_
  rintro e _w ⟨rfl, rfl⟩
  obtain ⟨_, j0, j1, j2, j3, j4, j5, jf0, jf1, jf2, jf3, jf4, jf5⟩ := (KB.head).six
  go_upto_region 10 with (fail)
  clear j0 jf0 j1 jf1 j2 jf2 j3 jf3 j4 jf4 j5 jf5
  have KN : BK w [(h, [.int .i64 (mo), .int .i64 3, .int .i64 (wd), .int .i64 (ml), .int .i64 (ti), .int .i64 (re)]), (g, [.int .i64 (y'), .int .i64 (m'), .int .i64 (d')]), (w.heap.size, [.int .i64 (mo), .int .i64 (3), .int .i64 (wd), .int .i64 (da), .int .i64 (ti), .int .i64 (re)])] (w6.setCell ⟨h, 3, none⟩ (.int .i64 (ml))) := KB.one 3 (.int .i64 (ml)) (KB.head.at 3 _) (by omega) (by intro x hx; simp only [List.mem_cons, List.not_mem_nil, or_false] at hx; rcases hx with rfl | rfl <;> first | assumption | omega)
  clear KB
  generalize w6.setCell ⟨h, 3, none⟩ (.int .i64 (ml)) = w7 at *
  have KB := KN
  clear KN
  obtain ⟨_, q0a, q0b, q0c, q0d, q0e, q0f, _⟩ := (KB.tail.tail.head).six
  go_upto_region 14 with (fail)
  clear q0a q0b q0c q0d q0e q0f
  have ir0 : w7.heap.size ≠ h := Nat.ne_of_gt (KB.head).lt
  have or0 := Ne.symm ir0
  have ir1 : w7.heap.size ≠ g := Nat.ne_of_gt (KB.tail.head).lt
  have or1 := Ne.symm ir1
  have ir2 : w7.heap.size ≠ w.heap.size := Nat.ne_of_gt (KB.tail.tail.head).lt
  have or2 := Ne.symm ir2
  have ggr : w.heap.size ≤ w7.heap.size := KB.hb.size
  replace KB := KB.more6 (.int .i64 (mo)) (.int .i64 (0)) (.int .i64 (0)) (.int .i64 (da)) (.int .i64 (0)) (.int .i64 (0)) 36
  generalize w7.alloc (.cells #[.int .i64 (mo), .int .i64 (0), .int .i64 (0), .int .i64 (da), .int .i64 (0), .int .i64 (0)] 36) = w8 at *
  generalize w7.heap.size = r at *
  obtain ⟨_, q0a, q0b, q0c, q0d, q0e, q0f, _⟩ := (KB.head).six
  go_wp2_with fail
  clear q0a q0b q0c q0d q0e q0f
  refine (OY.out _ (L.mono KB.hb)).mono ?_
  rintro e w9 ⟨rfl, k⟩
  replace KB := KB.below k
  clear k
  have d3 : decide (n ≤ m0) = true := decide_eq_true (by omega)
  have d4 : decide (m0 - 7 < n) = true := decide_eq_true (by omega)
  obtain ⟨_, q0a, q0b, q0c, q0d, q0e, q0f, _⟩ := (KB.tail.tail.tail.head).six
  go_wp2_with fail
  clear q0a q0b q0c q0d q0e q0f
  refine (AL.out _ (L.mono KB.hb)).mono ?_
  rintro e w10 ⟨rfl, k⟩
  replace KB := KB.below k
  clear k
  obtain ⟨_, q0a, q0b, q0c, q0d, q0e, q0f, _⟩ := (KB.tail.tail.tail.head).six
  have HB := KB.hb
  go_wp2
  go_ret
  exact ⟨rfl, HB⟩
theorem weeksL {full : Prop} {Q : World → Prop} (C : MomentP full Q) (LE : ∀ W, Q W → Lens W) (x : Sp) (y : Int) (hx : x.in64) (hy : In64 y) (w : World) (L : Q w) :
    Calls Tryd.prog 9 #[x.val, .int .i64 y] w (RetV w (.bool true)) := by
  have AL : Hid (∀ W, KQ Q W → Calls Tryd.prog 14 #[] W (RetV W (.bool true))) := Lib.hid fun W l => alive9 C W l.q
  have RI := fun W (l : KQ Q W) => C.right x hx W l.q
  have L : KQ Q w := ⟨L, C.mono⟩
  by_cases h : x.ok
  case neg =>
    rw [decide_eq_false h] at RI
    exact weeks_r x.mo x.ki x.wd x.da x.ti x.re y (Lib.hid RI) AL w L
  rw [decide_eq_true h] at RI
  by_cases k0 : x.ki = 0
  · obtain ⟨mo, ki, wd, da, ti, re⟩ := x
    dsimp only at k0
    subst k0
    exact weeks_0 mo wd da ti re y (Lib.hid RI) AL w L
  have k0' : (x.ki == 0) = false := beq_eq_false_iff_ne.2 k0
  by_cases y1 : y < 1
  · exact weeks_y1 x.mo x.ki x.wd x.da x.ti x.re y k0' y1 (Lib.hid RI) AL w L
  by_cases y2 : 270000 < y
  · exact weeks_y2 x.mo x.ki x.wd x.da x.ti x.re y k0' (by omega) y2 (Lib.hid RI) AL w L
  have hok := h
  unfold Sp.ok at h
  have first := first_ok (y := y) (m := x.mo) (by omega) (by omega) h.1
  have lr := lenM_range (y := y) h.1.1 h.1.2
  have fits : ∀ z : Sp, z.mo = x.mo → z.ok → onOk z y ∧ onN z y = onDay z y ∧ -200000000 ≤ onDay z y ∧ onDay z y ≤ 100000000 := fun z e hz => by
    have hm := onDay_near hz (y := y) (by rw [e]; omega) (by rw [e]; exact lr.2)
    have k : onOk z y := ⟨hz, by omega, by rw [e]; exact first.1, by omega⟩
    refine ⟨k, by unfold onN; rw [if_pos k], by omega, by omega⟩
  have on : ∀ z : Sp, z.mo = x.mo → z.ok → Hid (∀ W, KQ Q W → Calls Tryd.prog 28 #[z.val, .int .i64 y] W (fun o w' => o = .returned (.tuple #[.int .i64 (onDay z y), .bool true]) ∧ Below W.heap.size W w')) := fun z e hz => Lib.hid fun W l => by
    obtain ⟨f1, f2, _⟩ := fits z e hz
    have c := C.on z y (Sp.ok.in64 hz) hy W l.q
    rw [f2, decide_eq_true f1] at c
    exact c
  have ML : Hid (∀ W, KQ Q W → Calls Tryd.prog 34 #[.int .i64 y, .int .i64 x.mo] W (fun o w' => o = .returned (.int .i64 (lenM y x.mo)) ∧ W = w')) := Lib.hid fun W l => mlenP y x.mo W (LE W l.q)
  obtain ⟨f1, _, f3, f4⟩ := fits x rfl hok
  have f5 := onDay_in f1
  have of : ∀ y' m' d', dayOk y' m' d' → numD y' m' d' = onDay x y → Hid (∀ W, KQ Q W → Calls Tryd.prog 32 #[.int .i64 (onDay x y)] W (fun o w' => o = .returned (.tuple #[.agg #[.int .i64 y', .int .i64 m', .int .i64 d'], .bool true]) ∧ Below W.heap.size W w')) := fun y' m' d' h1 h2 => Lib.hid fun W l => ofP_yes _ y' m' d' ⟨h1, by omega, by omega⟩ h2 W (LE W l.q)
  have wk : wday (onDay x y) = x.wd → ∀ y' m' d', dayOk y' m' d' → numD y' m' d' = onDay x y → Hid (∀ W, KQ Q W → Calls Tryd.prog 33 #[.agg #[.int .i64 y', .int .i64 m', .int .i64 d']] W (fun o w' => o = .returned (.int .i64 x.wd) ∧ Below W.heap.size W w')) := fun e y' m' d' h1 h2 => Lib.hid fun W l => by
    have c := weekdayP y' m' d' W (LE W l.q)
    rw [show wdv y' m' d' = x.wd by unfold wdv; rw [if_pos ⟨h1, by omega, by omega⟩, h2, e]] at c
    exact c
  obtain ⟨mo, ki, wd, da, ti, re⟩ := x
  dsimp only at *
  obtain ⟨w1, w2⟩ : 1 ≤ wd ∧ wd ≤ 7 := h.2.2.2.2.2.1 k0
  have dn := fun n => @downTo_is n wd ⟨w1, w2⟩
  have up := fun n => @upTo_is n wd ⟨w1, w2⟩
  obtain rfl | rfl | rfl : ki = 1 ∨ ki = 2 ∨ ki = 3 := by omega
  · obtain rfl : da = 0 := h.2.2.2.2.2.2.1 rfl
    have hn : onDay ⟨mo, 1, wd, 0, ti, re⟩ y = downTo (numD y mo 1 + lenM y mo - 1) wd := rfl
    have hn3 : onDay ⟨mo, 3, wd, lenM y mo, ti, re⟩ y = downTo (numD y mo 1 + lenM y mo - 1) wd := rfl
    have d := dn (numD y mo 1 + lenM y mo - 1)
    have OX := on ⟨mo, 3, wd, lenM y mo, ti, re⟩ rfl (by unfold Sp.ok; dsimp only; omega)
    rw [hn3] at OX
    have ON := on _ rfl hok
    rw [hn] at ON of wk
    generalize downTo (numD y mo 1 + lenM y mo - 1) wd = n at *
    have e : numD y mo (n - numD y mo 1 + 1) = n := by unfold numD; omega
    have ok : dayOk y mo (n - numD y mo 1 + 1) := ⟨h.1.1, h.1.2, by omega, by omega⟩
    exact weeks_1 mo wd 0 ti re y n y (n - numD y mo 1 + 1) (lenM y mo) (by omega) (by omega) (by omega) lr (Lib.hid RI) ON (of y mo _ ok e) (wk (by unfold wday; omega) y mo _ ok e) ML OX AL w L
  · have hn : onDay ⟨mo, 2, wd, da, ti, re⟩ y = upTo (numD y mo 1 + da - 1) wd := rfl
    have hn3 : onDay ⟨mo, 0, 0, da, 0, 0⟩ y = numD y mo 1 + da - 1 := rfl
    have d := up (numD y mo 1 + da - 1)
    have OY := on ⟨mo, 0, 0, da, 0, 0⟩ rfl (by unfold Sp.ok; dsimp only; omega)
    rw [hn3] at OY
    have ON := on _ rfl hok
    rw [hn] at ON of wk
    have jb := first.2
    generalize upTo (numD y mo 1 + da - 1) wd = n at *
    obtain ⟨y', m', d', ok, e⟩ := day_of n
    exact weeks_2 mo wd da ti re y n y' m' d' (lenM y mo) (numD y mo 1 + da - 1) (by omega) (by omega) (by omega) (by omega) (Lib.hid RI) ON (of y' m' d' ok e) (wk (by unfold wday; omega) y' m' d' ok e) ML OY AL w L
  · have hn : onDay ⟨mo, 3, wd, da, ti, re⟩ y = downTo (numD y mo 1 + da - 1) wd := rfl
    have hn3 : onDay ⟨mo, 0, 0, da, 0, 0⟩ y = numD y mo 1 + da - 1 := rfl
    have d := dn (numD y mo 1 + da - 1)
    have OY := on ⟨mo, 0, 0, da, 0, 0⟩ rfl (by unfold Sp.ok; dsimp only; omega)
    rw [hn3] at OY
    have ON := on _ rfl hok
    rw [hn] at ON of wk
    have jb := first.2
    generalize downTo (numD y mo 1 + da - 1) wd = n at *
    obtain ⟨y', m', d', ok, e⟩ := day_of n
    exact weeks_3 mo wd da ti re y n y' m' d' (lenM y mo) (numD y mo 1 + da - 1) (by omega) (by omega) (by omega) (by omega) (Lib.hid RI) ON (of y' m' d' ok e) (wk (by unfold wday; omega) y' m' d' ok e) ML OY AL w L
end Go.Proofs.YtipohfaapiiopaaDoor
