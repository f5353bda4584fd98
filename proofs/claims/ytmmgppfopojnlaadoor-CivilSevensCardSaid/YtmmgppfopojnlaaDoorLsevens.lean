/- The walk of CivilSevens: at any date it returns true; what was there is as it was. -/
import Derived.Test.YtmmgppfopojnlaaDoorEalive
import Derived.Deep.RegionHeld3
namespace Go.Proofs.YtmmgppfopojnlaaDoor
open Go.RowKit

set_option maxRecDepth 100000 in
set_option maxHeartbeats 8000000 in
theorem sevens_no (y m d x0 x1 x2 e t0 t1 t2 f : Int) (he : (e != 0) = true) (A7 : Hid (∀ W, Lens W → Calls Tryd.prog 28 #[.agg #[.int .i64 y, .int .i64 m, .int .i64 d], .int .i64 7] W (fun o w' => o = .returned (.tuple #[.agg #[.int .i64 x0, .int .i64 x1, .int .i64 x2], .int .i64 e]) ∧ Below W.heap.size W w'))) (A1 : Hid (∀ W, Lens W → Calls Tryd.prog 28 #[.agg #[.int .i64 y, .int .i64 m, .int .i64 d], .int .i64 1] W (fun o w' => o = .returned (.tuple #[.agg #[.int .i64 t0, .int .i64 t1, .int .i64 t2], .int .i64 f]) ∧ Below W.heap.size W w'))) (AL : Hid (∀ W, Lens W → Calls Tryd.prog 14 #[] W (fun o w' => o = .returned (.bool true) ∧ Below W.heap.size W w'))) (w : World) (L : Lens w) :
    Calls Tryd.prog 9 #[.agg #[.int .i64 y, .int .i64 m, .int .i64 d]] w (RetV w (.bool true)) := by
  go_enter Tryd.func9, Tryd.ntmps9
  go_wp2_with fail
  have KB := ((BK.nil w).more3 (.int .i64 y) (.int .i64 m) (.int .i64 d) 23)
  generalize (w.alloc (.cells #[.int .i64 y, .int .i64 m, .int .i64 d] 23)) = w0 at *
  refine (A7.out _ (L.mono KB.hb)).mono ?_
  rintro e w1 ⟨rfl, k⟩
  replace KB := KB.below k
  clear k
  go_upto_region 2 with (fail)
  have hlg := KB.head.lt
  replace KB := KB.more3 (.int .i64 (x0)) (.int .i64 (x1)) (.int .i64 (x2)) 23
  generalize w1.alloc (.cells #[.int .i64 (x0), .int .i64 (x1), .int .i64 (x2)] 23) = w2 at *
  have ig0 : w1.heap.size ≠ w.heap.size := by omega
  have og0 := Ne.symm ig0
  generalize w1.heap.size = g at *
  obtain ⟨_, a0, a1, a2, _⟩ := (KB.tail.head).three
  go_wp2_with fail
  clear a0 a1 a2
  refine (A1.out _ (L.mono KB.hb)).mono ?_
  rintro e w3 ⟨rfl, k⟩
  replace KB := KB.below k
  clear k
  go_upto_region 3 with (fail)
  have hlh := KB.head.lt
  replace KB := KB.more3 (.int .i64 (t0)) (.int .i64 (t1)) (.int .i64 (t2)) 23
  generalize w3.alloc (.cells #[.int .i64 (t0), .int .i64 (t1), .int .i64 (t2)] 23) = w4 at *
  have ih0 : w3.heap.size ≠ g := by omega
  have oh0 := Ne.symm ih0
  have ih1 : w3.heap.size ≠ w.heap.size := by omega
  have oh1 := Ne.symm ih1
  generalize w3.heap.size = h at *
  go_wp2_with fail
  refine (AL.out _ (L.mono KB.hb)).mono ?_
  rintro e w5 ⟨rfl, k⟩
  replace KB := KB.below k
  clear k
  have HB := KB.hb
  go_wp2
  go_ret
  exact ⟨rfl, HB⟩
set_option maxRecDepth 100000 in
set_option maxHeartbeats 8000000 in
theorem sevens_al (y m d x0 x1 x2 t0 t1 t2 yy k wd q : Int) (_w1 : 1 ≤ wd) (_w7 : wd ≤ 7) (hq : wd % 7 = q) (_k1 : 1 ≤ k) (_k2 : k ≤ 53) (_y1 : -280000 ≤ yy) (_y2 : yy ≤ 280000) (_kv : k + 1 ≤ 53) (_wl : wd < 7) (A7 : Hid (∀ W, Lens W → Calls Tryd.prog 28 #[.agg #[.int .i64 y, .int .i64 m, .int .i64 d], .int .i64 7] W (fun o w' => o = .returned (.tuple #[.agg #[.int .i64 x0, .int .i64 x1, .int .i64 x2], .int .i64 0]) ∧ Below W.heap.size W w'))) (A1 : Hid (∀ W, Lens W → Calls Tryd.prog 28 #[.agg #[.int .i64 y, .int .i64 m, .int .i64 d], .int .i64 1] W (fun o w' => o = .returned (.tuple #[.agg #[.int .i64 t0, .int .i64 t1, .int .i64 t2], .int .i64 0]) ∧ Below W.heap.size W w'))) (W0 : Hid (∀ W, Lens W → Calls Tryd.prog 20 #[.agg #[.int .i64 y, .int .i64 m, .int .i64 d]] W (fun o w' => o = .returned (.tuple #[.int .i64 yy, .int .i64 k]) ∧ Below W.heap.size W w'))) (W7 : Hid (∀ W, Lens W → Calls Tryd.prog 20 #[.agg #[.int .i64 x0, .int .i64 x1, .int .i64 x2]] W (fun o w' => o = .returned (.tuple #[.int .i64 (yy), .int .i64 (k + 1)]) ∧ Below W.heap.size W w'))) (W1 : Hid (∀ W, Lens W → Calls Tryd.prog 20 #[.agg #[.int .i64 t0, .int .i64 t1, .int .i64 t2]] W (fun o w' => o = .returned (.tuple #[.int .i64 (yy), .int .i64 (k)]) ∧ Below W.heap.size W w'))) (D0 : Hid (∀ W, Lens W → Calls Tryd.prog 22 #[.agg #[.int .i64 y, .int .i64 m, .int .i64 d]] W (fun o w' => o = .returned (.int .i64 wd) ∧ Below W.heap.size W w'))) (D7 : Hid (∀ W, Lens W → Calls Tryd.prog 22 #[.agg #[.int .i64 x0, .int .i64 x1, .int .i64 x2]] W (fun o w' => o = .returned (.int .i64 wd) ∧ Below W.heap.size W w'))) (D1 : Hid (∀ W, Lens W → Calls Tryd.prog 22 #[.agg #[.int .i64 t0, .int .i64 t1, .int .i64 t2]] W (fun o w' => o = .returned (.int .i64 (q + 1)) ∧ Below W.heap.size W w'))) (AL : Hid (∀ W, Lens W → Calls Tryd.prog 14 #[] W (fun o w' => o = .returned (.bool true) ∧ Below W.heap.size W w'))) (w : World) (L : Lens w) :
    Calls Tryd.prog 9 #[.agg #[.int .i64 y, .int .i64 m, .int .i64 d]] w (RetV w (.bool true)) := by
  have q0 : 0 ≤ q := by omega
  have q6 : q ≤ 6 := by omega
  have T7 : wd.tmod 7 = q := by rw [Int.tmod_eq_emod_of_nonneg (by omega)]; exact hq
  have S1 : IntKind.i64.wrap q = q := IntWalk.i64_in _ (by omega)
  have S2 : IntKind.i64.wrap (q + 1) = q + 1 := IntWalk.i64_in _ (by omega)
  have G7 : decide (wd < 7) = true := decide_eq_true _wl
  have TH := Lib.hid T7
  have SH := Lib.hid (And.intro S1 S2)
  clear T7 S1 S2 hq
  have e1 : (yy + 1 == yy) = false := by rw [beq_eq_false_iff_ne]; omega
  have e2 : (yy + 1 != yy) = true := by rw [bne_iff_ne]; omega
  have e3 : (k + 1 == k) = false := by rw [beq_eq_false_iff_ne]; omega
  have e4 : decide (k < 1) = false := decide_eq_false (by omega)
  have e5 : decide (53 < k + 1) = false := decide_eq_false (by omega)
  have e6 : decide (k < 52) = decide (k < 52) := rfl
  clear e6
  go_enter Tryd.func9, Tryd.ntmps9
  go_wp2_with fail
  have KB := ((BK.nil w).more3 (.int .i64 y) (.int .i64 m) (.int .i64 d) 23)
  generalize (w.alloc (.cells #[.int .i64 y, .int .i64 m, .int .i64 d] 23)) = w0 at *
  refine (A7.out _ (L.mono KB.hb)).mono ?_
  rintro e w1 ⟨rfl, k⟩
  replace KB := KB.below k
  clear k
  go_upto_region 2 with (fail)
  have hlg := KB.head.lt
  replace KB := KB.more3 (.int .i64 (x0)) (.int .i64 (x1)) (.int .i64 (x2)) 23
  generalize w1.alloc (.cells #[.int .i64 (x0), .int .i64 (x1), .int .i64 (x2)] 23) = w2 at *
  have ig0 : w1.heap.size ≠ w.heap.size := by omega
  have og0 := Ne.symm ig0
  generalize w1.heap.size = g at *
  obtain ⟨_, a0, a1, a2, _⟩ := (KB.tail.head).three
  go_wp2_with fail
  clear a0 a1 a2
  refine (A1.out _ (L.mono KB.hb)).mono ?_
  rintro e w3 ⟨rfl, k⟩
  replace KB := KB.below k
  clear k
  go_upto_region 3 with (fail)
  have hlh := KB.head.lt
  replace KB := KB.more3 (.int .i64 (t0)) (.int .i64 (t1)) (.int .i64 (t2)) 23
  generalize w3.alloc (.cells #[.int .i64 (t0), .int .i64 (t1), .int .i64 (t2)] 23) = w4 at *
  have ih0 : w3.heap.size ≠ g := by omega
  have oh0 := Ne.symm ih0
  have ih1 : w3.heap.size ≠ w.heap.size := by omega
  have oh1 := Ne.symm ih1
  generalize w3.heap.size = h at *
  obtain ⟨_, a0, a1, a2, _⟩ := (KB.tail.tail.head).three
  go_wp2_with fail
  clear a0 a1 a2
  refine (W0.out _ (L.mono KB.hb)).mono ?_
  rintro e w5 ⟨rfl, k⟩
  replace KB := KB.below k
  clear k
  obtain ⟨_, b0, b1, b2, _⟩ := (KB.tail.head).three
  go_wp2_with fail
  clear b0 b1 b2
  refine (W7.out _ (L.mono KB.hb)).mono ?_
  rintro e w6 ⟨rfl, k⟩
  replace KB := KB.below k
  clear k
  obtain ⟨_, c0, c1, c2, _⟩ := (KB.head).three
  go_upto_region 9 with (fail)
  go_wp2_with fail
  clear c0 c1 c2
  refine (W1.out _ (L.mono KB.hb)).mono ?_
  rintro e w7 ⟨rfl, k⟩
  replace KB := KB.below k
  clear k
  go_upto_region 11 with (fail)
  have T7 := TH.out
  obtain ⟨S1, S2⟩ := SH.out
  clear TH SH
  obtain ⟨_, ja0, jb0, jc0, _⟩ := (KB.head).three
  obtain ⟨_, ja1, jb1, jc1, _⟩ := (KB.tail.head).three
  obtain ⟨_, ja2, jb2, jc2, _⟩ := (KB.tail.tail.head).three
  go_region_held3 (fun w' => w'.cell? ⟨h, 0, none⟩ = some (.int .i64 (t0)) ∧ w'.cell? ⟨h, 1, none⟩ = some (.int .i64 (t1)) ∧ w'.cell? ⟨h, 2, none⟩ = some (.int .i64 (t2)) ∧ w'.cell? ⟨g, 0, none⟩ = some (.int .i64 (x0)) ∧ w'.cell? ⟨g, 1, none⟩ = some (.int .i64 (x1)) ∧ w'.cell? ⟨g, 2, none⟩ = some (.int .i64 (x2)) ∧ w'.cell? ⟨w.heap.size, 0, none⟩ = some (.int .i64 (y)) ∧ w'.cell? ⟨w.heap.size, 1, none⟩ = some (.int .i64 (m)) ∧ w'.cell? ⟨w.heap.size, 2, none⟩ = some (.int .i64 (d))) (first | (with_reducible exact ⟨(KB.head).three.2.1, (KB.head).three.2.2.1, (KB.head).three.2.2.2.1, (KB.tail.head).three.2.1, (KB.tail.head).three.2.2.1, (KB.tail.head).three.2.2.2.1, (KB.tail.tail.head).three.2.1, (KB.tail.tail.head).three.2.2.1, (KB.tail.tail.head).three.2.2.2.1⟩) | (with_reducible exact ⟨(KB.drew.head).three.2.1, (KB.drew.head).three.2.2.1, (KB.drew.head).three.2.2.2.1, (KB.drew.tail.head).three.2.1, (KB.drew.tail.head).three.2.2.1, (KB.drew.tail.head).three.2.2.2.1, (KB.drew.tail.tail.head).three.2.1, (KB.drew.tail.tail.head).three.2.2.1, (KB.drew.tail.tail.head).three.2.2.2.1⟩) | go_keep)
    (first
      | (go_at_call 14; (with_reducible refine (AL.out _ (by with_reducible first | exact L.mono KB.hb | exact L.mono KB.drew.hb)).mono ?_); rintro e W9 ⟨rfl, k⟩
         with_reducible (first | replace KB := KB.below k | replace KB := KB.drew.below k)
         clear k
         obtain ⟨_, ka0, kb0, kc0, _⟩ := (KB.head).three
         obtain ⟨_, ka1, kb1, kc1, _⟩ := (KB.tail.head).three
         obtain ⟨_, ka2, kb2, kc2, _⟩ := (KB.tail.tail.head).three)
      | (go_at_call 22; (with_reducible refine (D0.out _ (by with_reducible first | exact L.mono KB.hb | exact L.mono KB.drew.hb)).mono ?_); rintro e W9 ⟨rfl, k⟩
         with_reducible (first | replace KB := KB.below k | replace KB := KB.drew.below k)
         clear k
         obtain ⟨_, ka0, kb0, kc0, _⟩ := (KB.head).three
         obtain ⟨_, ka1, kb1, kc1, _⟩ := (KB.tail.head).three
         obtain ⟨_, ka2, kb2, kc2, _⟩ := (KB.tail.tail.head).three)
      | (go_at_call 22; (with_reducible refine (D7.out _ (by with_reducible first | exact L.mono KB.hb | exact L.mono KB.drew.hb)).mono ?_); rintro e W9 ⟨rfl, k⟩
         with_reducible (first | replace KB := KB.below k | replace KB := KB.drew.below k)
         clear k
         obtain ⟨_, ka0, kb0, kc0, _⟩ := (KB.head).three
         obtain ⟨_, ka1, kb1, kc1, _⟩ := (KB.tail.head).three
         obtain ⟨_, ka2, kb2, kc2, _⟩ := (KB.tail.tail.head).three)
      | (go_at_call 22; (with_reducible refine (D1.out _ (by with_reducible first | exact L.mono KB.hb | exact L.mono KB.drew.hb)).mono ?_); rintro e W9 ⟨rfl, k⟩
         with_reducible (first | replace KB := KB.below k | replace KB := KB.drew.below k)
         clear k
         obtain ⟨_, ka0, kb0, kc0, _⟩ := (KB.head).three
         obtain ⟨_, ka1, kb1, kc1, _⟩ := (KB.tail.head).three
         obtain ⟨_, ka2, kb2, kc2, _⟩ := (KB.tail.tail.head).three))
  all_goals
    go_wp2
    go_ret
    exact ⟨rfl, by first | exact KB.hb | exact KB.drew.hb⟩
set_option maxRecDepth 100000 in
set_option maxHeartbeats 8000000 in
theorem sevens_as (y m d x0 x1 x2 t0 t1 t2 yy k wd q : Int) (_w1 : 1 ≤ wd) (_w7 : wd ≤ 7) (hq : wd % 7 = q) (_k1 : 1 ≤ k) (_k2 : k ≤ 53) (_y1 : -280000 ≤ yy) (_y2 : yy ≤ 280000) (_kv : k + 1 ≤ 53) (_wl : ¬ wd < 7) (A7 : Hid (∀ W, Lens W → Calls Tryd.prog 28 #[.agg #[.int .i64 y, .int .i64 m, .int .i64 d], .int .i64 7] W (fun o w' => o = .returned (.tuple #[.agg #[.int .i64 x0, .int .i64 x1, .int .i64 x2], .int .i64 0]) ∧ Below W.heap.size W w'))) (A1 : Hid (∀ W, Lens W → Calls Tryd.prog 28 #[.agg #[.int .i64 y, .int .i64 m, .int .i64 d], .int .i64 1] W (fun o w' => o = .returned (.tuple #[.agg #[.int .i64 t0, .int .i64 t1, .int .i64 t2], .int .i64 0]) ∧ Below W.heap.size W w'))) (W0 : Hid (∀ W, Lens W → Calls Tryd.prog 20 #[.agg #[.int .i64 y, .int .i64 m, .int .i64 d]] W (fun o w' => o = .returned (.tuple #[.int .i64 yy, .int .i64 k]) ∧ Below W.heap.size W w'))) (W7 : Hid (∀ W, Lens W → Calls Tryd.prog 20 #[.agg #[.int .i64 x0, .int .i64 x1, .int .i64 x2]] W (fun o w' => o = .returned (.tuple #[.int .i64 (yy), .int .i64 (k + 1)]) ∧ Below W.heap.size W w'))) (W1 : Hid (∀ W, Lens W → Calls Tryd.prog 20 #[.agg #[.int .i64 t0, .int .i64 t1, .int .i64 t2]] W (fun o w' => o = .returned (.tuple #[.int .i64 (yy), .int .i64 (k + 1)]) ∧ Below W.heap.size W w'))) (D0 : Hid (∀ W, Lens W → Calls Tryd.prog 22 #[.agg #[.int .i64 y, .int .i64 m, .int .i64 d]] W (fun o w' => o = .returned (.int .i64 wd) ∧ Below W.heap.size W w'))) (D7 : Hid (∀ W, Lens W → Calls Tryd.prog 22 #[.agg #[.int .i64 x0, .int .i64 x1, .int .i64 x2]] W (fun o w' => o = .returned (.int .i64 wd) ∧ Below W.heap.size W w'))) (D1 : Hid (∀ W, Lens W → Calls Tryd.prog 22 #[.agg #[.int .i64 t0, .int .i64 t1, .int .i64 t2]] W (fun o w' => o = .returned (.int .i64 (q + 1)) ∧ Below W.heap.size W w'))) (AL : Hid (∀ W, Lens W → Calls Tryd.prog 14 #[] W (fun o w' => o = .returned (.bool true) ∧ Below W.heap.size W w'))) (w : World) (L : Lens w) :
    Calls Tryd.prog 9 #[.agg #[.int .i64 y, .int .i64 m, .int .i64 d]] w (RetV w (.bool true)) := by
  have q0 : 0 ≤ q := by omega
  have q6 : q ≤ 6 := by omega
  have T7 : wd.tmod 7 = q := by rw [Int.tmod_eq_emod_of_nonneg (by omega)]; exact hq
  have S1 : IntKind.i64.wrap q = q := IntWalk.i64_in _ (by omega)
  have S2 : IntKind.i64.wrap (q + 1) = q + 1 := IntWalk.i64_in _ (by omega)
  have G7 : decide (wd < 7) = false := decide_eq_false _wl
  have TH := Lib.hid T7
  have SH := Lib.hid (And.intro S1 S2)
  clear T7 S1 S2 hq
  have e1 : (yy + 1 == yy) = false := by rw [beq_eq_false_iff_ne]; omega
  have e2 : (yy + 1 != yy) = true := by rw [bne_iff_ne]; omega
  have e3 : (k + 1 == k) = false := by rw [beq_eq_false_iff_ne]; omega
  have e4 : decide (k < 1) = false := decide_eq_false (by omega)
  have e5 : decide (53 < k + 1) = false := decide_eq_false (by omega)
  have e6 : decide (k < 52) = decide (k < 52) := rfl
  clear e6
  go_enter Tryd.func9, Tryd.ntmps9
  go_wp2_with fail
  have KB := ((BK.nil w).more3 (.int .i64 y) (.int .i64 m) (.int .i64 d) 23)
  generalize (w.alloc (.cells #[.int .i64 y, .int .i64 m, .int .i64 d] 23)) = w0 at *
  refine (A7.out _ (L.mono KB.hb)).mono ?_
  rintro e w1 ⟨rfl, k⟩
  replace KB := KB.below k
  clear k
  go_upto_region 2 with (fail)
  have hlg := KB.head.lt
  replace KB := KB.more3 (.int .i64 (x0)) (.int .i64 (x1)) (.int .i64 (x2)) 23
  generalize w1.alloc (.cells #[.int .i64 (x0), .int .i64 (x1), .int .i64 (x2)] 23) = w2 at *
  have ig0 : w1.heap.size ≠ w.heap.size := by omega
  have og0 := Ne.symm ig0
  generalize w1.heap.size = g at *
  obtain ⟨_, a0, a1, a2, _⟩ := (KB.tail.head).three
  go_wp2_with fail
  clear a0 a1 a2
  refine (A1.out _ (L.mono KB.hb)).mono ?_
  rintro e w3 ⟨rfl, k⟩
  replace KB := KB.below k
  clear k
  go_upto_region 3 with (fail)
  have hlh := KB.head.lt
  replace KB := KB.more3 (.int .i64 (t0)) (.int .i64 (t1)) (.int .i64 (t2)) 23
  generalize w3.alloc (.cells #[.int .i64 (t0), .int .i64 (t1), .int .i64 (t2)] 23) = w4 at *
  have ih0 : w3.heap.size ≠ g := by omega
  have oh0 := Ne.symm ih0
  have ih1 : w3.heap.size ≠ w.heap.size := by omega
  have oh1 := Ne.symm ih1
  generalize w3.heap.size = h at *
  obtain ⟨_, a0, a1, a2, _⟩ := (KB.tail.tail.head).three
  go_wp2_with fail
  clear a0 a1 a2
  refine (W0.out _ (L.mono KB.hb)).mono ?_
  rintro e w5 ⟨rfl, k⟩
  replace KB := KB.below k
  clear k
  obtain ⟨_, b0, b1, b2, _⟩ := (KB.tail.head).three
  go_wp2_with fail
  clear b0 b1 b2
  refine (W7.out _ (L.mono KB.hb)).mono ?_
  rintro e w6 ⟨rfl, k⟩
  replace KB := KB.below k
  clear k
  obtain ⟨_, c0, c1, c2, _⟩ := (KB.head).three
  go_upto_region 9 with (fail)
  go_wp2_with fail
  clear c0 c1 c2
  refine (W1.out _ (L.mono KB.hb)).mono ?_
  rintro e w7 ⟨rfl, k⟩
  replace KB := KB.below k
  clear k
  go_upto_region 11 with (fail)
  have T7 := TH.out
  obtain ⟨S1, S2⟩ := SH.out
  clear TH SH
  obtain ⟨_, ja0, jb0, jc0, _⟩ := (KB.head).three
  obtain ⟨_, ja1, jb1, jc1, _⟩ := (KB.tail.head).three
  obtain ⟨_, ja2, jb2, jc2, _⟩ := (KB.tail.tail.head).three
  go_region_held3 (fun w' => w'.cell? ⟨h, 0, none⟩ = some (.int .i64 (t0)) ∧ w'.cell? ⟨h, 1, none⟩ = some (.int .i64 (t1)) ∧ w'.cell? ⟨h, 2, none⟩ = some (.int .i64 (t2)) ∧ w'.cell? ⟨g, 0, none⟩ = some (.int .i64 (x0)) ∧ w'.cell? ⟨g, 1, none⟩ = some (.int .i64 (x1)) ∧ w'.cell? ⟨g, 2, none⟩ = some (.int .i64 (x2)) ∧ w'.cell? ⟨w.heap.size, 0, none⟩ = some (.int .i64 (y)) ∧ w'.cell? ⟨w.heap.size, 1, none⟩ = some (.int .i64 (m)) ∧ w'.cell? ⟨w.heap.size, 2, none⟩ = some (.int .i64 (d))) (first | (with_reducible exact ⟨(KB.head).three.2.1, (KB.head).three.2.2.1, (KB.head).three.2.2.2.1, (KB.tail.head).three.2.1, (KB.tail.head).three.2.2.1, (KB.tail.head).three.2.2.2.1, (KB.tail.tail.head).three.2.1, (KB.tail.tail.head).three.2.2.1, (KB.tail.tail.head).three.2.2.2.1⟩) | (with_reducible exact ⟨(KB.drew.head).three.2.1, (KB.drew.head).three.2.2.1, (KB.drew.head).three.2.2.2.1, (KB.drew.tail.head).three.2.1, (KB.drew.tail.head).three.2.2.1, (KB.drew.tail.head).three.2.2.2.1, (KB.drew.tail.tail.head).three.2.1, (KB.drew.tail.tail.head).three.2.2.1, (KB.drew.tail.tail.head).three.2.2.2.1⟩) | go_keep)
    (first
      | (go_at_call 14; (with_reducible refine (AL.out _ (by with_reducible first | exact L.mono KB.hb | exact L.mono KB.drew.hb)).mono ?_); rintro e W9 ⟨rfl, k⟩
         with_reducible (first | replace KB := KB.below k | replace KB := KB.drew.below k)
         clear k
         obtain ⟨_, ka0, kb0, kc0, _⟩ := (KB.head).three
         obtain ⟨_, ka1, kb1, kc1, _⟩ := (KB.tail.head).three
         obtain ⟨_, ka2, kb2, kc2, _⟩ := (KB.tail.tail.head).three)
      | (go_at_call 22; (with_reducible refine (D0.out _ (by with_reducible first | exact L.mono KB.hb | exact L.mono KB.drew.hb)).mono ?_); rintro e W9 ⟨rfl, k⟩
         with_reducible (first | replace KB := KB.below k | replace KB := KB.drew.below k)
         clear k
         obtain ⟨_, ka0, kb0, kc0, _⟩ := (KB.head).three
         obtain ⟨_, ka1, kb1, kc1, _⟩ := (KB.tail.head).three
         obtain ⟨_, ka2, kb2, kc2, _⟩ := (KB.tail.tail.head).three)
      | (go_at_call 22; (with_reducible refine (D7.out _ (by with_reducible first | exact L.mono KB.hb | exact L.mono KB.drew.hb)).mono ?_); rintro e W9 ⟨rfl, k⟩
         with_reducible (first | replace KB := KB.below k | replace KB := KB.drew.below k)
         clear k
         obtain ⟨_, ka0, kb0, kc0, _⟩ := (KB.head).three
         obtain ⟨_, ka1, kb1, kc1, _⟩ := (KB.tail.head).three
         obtain ⟨_, ka2, kb2, kc2, _⟩ := (KB.tail.tail.head).three)
      | (go_at_call 22; (with_reducible refine (D1.out _ (by with_reducible first | exact L.mono KB.hb | exact L.mono KB.drew.hb)).mono ?_); rintro e W9 ⟨rfl, k⟩
         with_reducible (first | replace KB := KB.below k | replace KB := KB.drew.below k)
         clear k
         obtain ⟨_, ka0, kb0, kc0, _⟩ := (KB.head).three
         obtain ⟨_, ka1, kb1, kc1, _⟩ := (KB.tail.head).three
         obtain ⟨_, ka2, kb2, kc2, _⟩ := (KB.tail.tail.head).three))
  all_goals
    go_wp2
    go_ret
    exact ⟨rfl, by first | exact KB.hb | exact KB.drew.hb⟩
set_option maxRecDepth 100000 in
set_option maxHeartbeats 8000000 in
theorem sevens_bl (y m d x0 x1 x2 t0 t1 t2 yy k wd q : Int) (_w1 : 1 ≤ wd) (_w7 : wd ≤ 7) (hq : wd % 7 = q) (_k1 : 1 ≤ k) (_k2 : k ≤ 53) (_y1 : -280000 ≤ yy) (_y2 : yy ≤ 280000) (_k52 : 52 ≤ k) (_wl : wd < 7) (A7 : Hid (∀ W, Lens W → Calls Tryd.prog 28 #[.agg #[.int .i64 y, .int .i64 m, .int .i64 d], .int .i64 7] W (fun o w' => o = .returned (.tuple #[.agg #[.int .i64 x0, .int .i64 x1, .int .i64 x2], .int .i64 0]) ∧ Below W.heap.size W w'))) (A1 : Hid (∀ W, Lens W → Calls Tryd.prog 28 #[.agg #[.int .i64 y, .int .i64 m, .int .i64 d], .int .i64 1] W (fun o w' => o = .returned (.tuple #[.agg #[.int .i64 t0, .int .i64 t1, .int .i64 t2], .int .i64 0]) ∧ Below W.heap.size W w'))) (W0 : Hid (∀ W, Lens W → Calls Tryd.prog 20 #[.agg #[.int .i64 y, .int .i64 m, .int .i64 d]] W (fun o w' => o = .returned (.tuple #[.int .i64 yy, .int .i64 k]) ∧ Below W.heap.size W w'))) (W7 : Hid (∀ W, Lens W → Calls Tryd.prog 20 #[.agg #[.int .i64 x0, .int .i64 x1, .int .i64 x2]] W (fun o w' => o = .returned (.tuple #[.int .i64 (yy + 1), .int .i64 (1)]) ∧ Below W.heap.size W w'))) (W1 : Hid (∀ W, Lens W → Calls Tryd.prog 20 #[.agg #[.int .i64 t0, .int .i64 t1, .int .i64 t2]] W (fun o w' => o = .returned (.tuple #[.int .i64 (yy), .int .i64 (k)]) ∧ Below W.heap.size W w'))) (D0 : Hid (∀ W, Lens W → Calls Tryd.prog 22 #[.agg #[.int .i64 y, .int .i64 m, .int .i64 d]] W (fun o w' => o = .returned (.int .i64 wd) ∧ Below W.heap.size W w'))) (D7 : Hid (∀ W, Lens W → Calls Tryd.prog 22 #[.agg #[.int .i64 x0, .int .i64 x1, .int .i64 x2]] W (fun o w' => o = .returned (.int .i64 wd) ∧ Below W.heap.size W w'))) (D1 : Hid (∀ W, Lens W → Calls Tryd.prog 22 #[.agg #[.int .i64 t0, .int .i64 t1, .int .i64 t2]] W (fun o w' => o = .returned (.int .i64 (q + 1)) ∧ Below W.heap.size W w'))) (AL : Hid (∀ W, Lens W → Calls Tryd.prog 14 #[] W (fun o w' => o = .returned (.bool true) ∧ Below W.heap.size W w'))) (w : World) (L : Lens w) :
    Calls Tryd.prog 9 #[.agg #[.int .i64 y, .int .i64 m, .int .i64 d]] w (RetV w (.bool true)) := by
  have q0 : 0 ≤ q := by omega
  have q6 : q ≤ 6 := by omega
  have T7 : wd.tmod 7 = q := by rw [Int.tmod_eq_emod_of_nonneg (by omega)]; exact hq
  have S1 : IntKind.i64.wrap q = q := IntWalk.i64_in _ (by omega)
  have S2 : IntKind.i64.wrap (q + 1) = q + 1 := IntWalk.i64_in _ (by omega)
  have G7 : decide (wd < 7) = true := decide_eq_true _wl
  have TH := Lib.hid T7
  have SH := Lib.hid (And.intro S1 S2)
  clear T7 S1 S2 hq
  have e1 : (yy + 1 == yy) = false := by rw [beq_eq_false_iff_ne]; omega
  have e2 : (yy + 1 != yy) = true := by rw [bne_iff_ne]; omega
  have e3 : (k + 1 == k) = false := by rw [beq_eq_false_iff_ne]; omega
  have e4 : decide (k < 1) = false := decide_eq_false (by omega)
  have e5 : decide (53 < 1) = false := decide_eq_false (by omega)
  have e6 : decide (k < 52) = false := decide_eq_false (by omega)
  go_enter Tryd.func9, Tryd.ntmps9
  go_wp2_with fail
  have KB := ((BK.nil w).more3 (.int .i64 y) (.int .i64 m) (.int .i64 d) 23)
  generalize (w.alloc (.cells #[.int .i64 y, .int .i64 m, .int .i64 d] 23)) = w0 at *
  refine (A7.out _ (L.mono KB.hb)).mono ?_
  rintro e w1 ⟨rfl, k⟩
  replace KB := KB.below k
  clear k
  go_upto_region 2 with (fail)
  have hlg := KB.head.lt
  replace KB := KB.more3 (.int .i64 (x0)) (.int .i64 (x1)) (.int .i64 (x2)) 23
  generalize w1.alloc (.cells #[.int .i64 (x0), .int .i64 (x1), .int .i64 (x2)] 23) = w2 at *
  have ig0 : w1.heap.size ≠ w.heap.size := by omega
  have og0 := Ne.symm ig0
  generalize w1.heap.size = g at *
  obtain ⟨_, a0, a1, a2, _⟩ := (KB.tail.head).three
  go_wp2_with fail
  clear a0 a1 a2
  refine (A1.out _ (L.mono KB.hb)).mono ?_
  rintro e w3 ⟨rfl, k⟩
  replace KB := KB.below k
  clear k
  go_upto_region 3 with (fail)
  have hlh := KB.head.lt
  replace KB := KB.more3 (.int .i64 (t0)) (.int .i64 (t1)) (.int .i64 (t2)) 23
  generalize w3.alloc (.cells #[.int .i64 (t0), .int .i64 (t1), .int .i64 (t2)] 23) = w4 at *
  have ih0 : w3.heap.size ≠ g := by omega
  have oh0 := Ne.symm ih0
  have ih1 : w3.heap.size ≠ w.heap.size := by omega
  have oh1 := Ne.symm ih1
  generalize w3.heap.size = h at *
  obtain ⟨_, a0, a1, a2, _⟩ := (KB.tail.tail.head).three
  go_wp2_with fail
  clear a0 a1 a2
  refine (W0.out _ (L.mono KB.hb)).mono ?_
  rintro e w5 ⟨rfl, k⟩
  replace KB := KB.below k
  clear k
  obtain ⟨_, b0, b1, b2, _⟩ := (KB.tail.head).three
  go_wp2_with fail
  clear b0 b1 b2
  refine (W7.out _ (L.mono KB.hb)).mono ?_
  rintro e w6 ⟨rfl, k⟩
  replace KB := KB.below k
  clear k
  obtain ⟨_, c0, c1, c2, _⟩ := (KB.head).three
  go_upto_region 9 with (fail)
  go_wp2_with fail
  clear c0 c1 c2
  refine (W1.out _ (L.mono KB.hb)).mono ?_
  rintro e w7 ⟨rfl, k⟩
  replace KB := KB.below k
  clear k
  go_upto_region 11 with (fail)
  have T7 := TH.out
  obtain ⟨S1, S2⟩ := SH.out
  clear TH SH
  obtain ⟨_, ja0, jb0, jc0, _⟩ := (KB.head).three
  obtain ⟨_, ja1, jb1, jc1, _⟩ := (KB.tail.head).three
  obtain ⟨_, ja2, jb2, jc2, _⟩ := (KB.tail.tail.head).three
  go_region_held3 (fun w' => w'.cell? ⟨h, 0, none⟩ = some (.int .i64 (t0)) ∧ w'.cell? ⟨h, 1, none⟩ = some (.int .i64 (t1)) ∧ w'.cell? ⟨h, 2, none⟩ = some (.int .i64 (t2)) ∧ w'.cell? ⟨g, 0, none⟩ = some (.int .i64 (x0)) ∧ w'.cell? ⟨g, 1, none⟩ = some (.int .i64 (x1)) ∧ w'.cell? ⟨g, 2, none⟩ = some (.int .i64 (x2)) ∧ w'.cell? ⟨w.heap.size, 0, none⟩ = some (.int .i64 (y)) ∧ w'.cell? ⟨w.heap.size, 1, none⟩ = some (.int .i64 (m)) ∧ w'.cell? ⟨w.heap.size, 2, none⟩ = some (.int .i64 (d))) (first | (with_reducible exact ⟨(KB.head).three.2.1, (KB.head).three.2.2.1, (KB.head).three.2.2.2.1, (KB.tail.head).three.2.1, (KB.tail.head).three.2.2.1, (KB.tail.head).three.2.2.2.1, (KB.tail.tail.head).three.2.1, (KB.tail.tail.head).three.2.2.1, (KB.tail.tail.head).three.2.2.2.1⟩) | (with_reducible exact ⟨(KB.drew.head).three.2.1, (KB.drew.head).three.2.2.1, (KB.drew.head).three.2.2.2.1, (KB.drew.tail.head).three.2.1, (KB.drew.tail.head).three.2.2.1, (KB.drew.tail.head).three.2.2.2.1, (KB.drew.tail.tail.head).three.2.1, (KB.drew.tail.tail.head).three.2.2.1, (KB.drew.tail.tail.head).three.2.2.2.1⟩) | go_keep)
    (first
      | (go_at_call 14; (with_reducible refine (AL.out _ (by with_reducible first | exact L.mono KB.hb | exact L.mono KB.drew.hb)).mono ?_); rintro e W9 ⟨rfl, k⟩
         with_reducible (first | replace KB := KB.below k | replace KB := KB.drew.below k)
         clear k
         obtain ⟨_, ka0, kb0, kc0, _⟩ := (KB.head).three
         obtain ⟨_, ka1, kb1, kc1, _⟩ := (KB.tail.head).three
         obtain ⟨_, ka2, kb2, kc2, _⟩ := (KB.tail.tail.head).three)
      | (go_at_call 22; (with_reducible refine (D0.out _ (by with_reducible first | exact L.mono KB.hb | exact L.mono KB.drew.hb)).mono ?_); rintro e W9 ⟨rfl, k⟩
         with_reducible (first | replace KB := KB.below k | replace KB := KB.drew.below k)
         clear k
         obtain ⟨_, ka0, kb0, kc0, _⟩ := (KB.head).three
         obtain ⟨_, ka1, kb1, kc1, _⟩ := (KB.tail.head).three
         obtain ⟨_, ka2, kb2, kc2, _⟩ := (KB.tail.tail.head).three)
      | (go_at_call 22; (with_reducible refine (D7.out _ (by with_reducible first | exact L.mono KB.hb | exact L.mono KB.drew.hb)).mono ?_); rintro e W9 ⟨rfl, k⟩
         with_reducible (first | replace KB := KB.below k | replace KB := KB.drew.below k)
         clear k
         obtain ⟨_, ka0, kb0, kc0, _⟩ := (KB.head).three
         obtain ⟨_, ka1, kb1, kc1, _⟩ := (KB.tail.head).three
         obtain ⟨_, ka2, kb2, kc2, _⟩ := (KB.tail.tail.head).three)
      | (go_at_call 22; (with_reducible refine (D1.out _ (by with_reducible first | exact L.mono KB.hb | exact L.mono KB.drew.hb)).mono ?_); rintro e W9 ⟨rfl, k⟩
         with_reducible (first | replace KB := KB.below k | replace KB := KB.drew.below k)
         clear k
         obtain ⟨_, ka0, kb0, kc0, _⟩ := (KB.head).three
         obtain ⟨_, ka1, kb1, kc1, _⟩ := (KB.tail.head).three
         obtain ⟨_, ka2, kb2, kc2, _⟩ := (KB.tail.tail.head).three))
  all_goals
    go_wp2
    go_ret
    exact ⟨rfl, by first | exact KB.hb | exact KB.drew.hb⟩
set_option maxRecDepth 100000 in
set_option maxHeartbeats 8000000 in
theorem sevens_bs (y m d x0 x1 x2 t0 t1 t2 yy k wd q : Int) (_w1 : 1 ≤ wd) (_w7 : wd ≤ 7) (hq : wd % 7 = q) (_k1 : 1 ≤ k) (_k2 : k ≤ 53) (_y1 : -280000 ≤ yy) (_y2 : yy ≤ 280000) (_k52 : 52 ≤ k) (_wl : ¬ wd < 7) (A7 : Hid (∀ W, Lens W → Calls Tryd.prog 28 #[.agg #[.int .i64 y, .int .i64 m, .int .i64 d], .int .i64 7] W (fun o w' => o = .returned (.tuple #[.agg #[.int .i64 x0, .int .i64 x1, .int .i64 x2], .int .i64 0]) ∧ Below W.heap.size W w'))) (A1 : Hid (∀ W, Lens W → Calls Tryd.prog 28 #[.agg #[.int .i64 y, .int .i64 m, .int .i64 d], .int .i64 1] W (fun o w' => o = .returned (.tuple #[.agg #[.int .i64 t0, .int .i64 t1, .int .i64 t2], .int .i64 0]) ∧ Below W.heap.size W w'))) (W0 : Hid (∀ W, Lens W → Calls Tryd.prog 20 #[.agg #[.int .i64 y, .int .i64 m, .int .i64 d]] W (fun o w' => o = .returned (.tuple #[.int .i64 yy, .int .i64 k]) ∧ Below W.heap.size W w'))) (W7 : Hid (∀ W, Lens W → Calls Tryd.prog 20 #[.agg #[.int .i64 x0, .int .i64 x1, .int .i64 x2]] W (fun o w' => o = .returned (.tuple #[.int .i64 (yy + 1), .int .i64 (1)]) ∧ Below W.heap.size W w'))) (W1 : Hid (∀ W, Lens W → Calls Tryd.prog 20 #[.agg #[.int .i64 t0, .int .i64 t1, .int .i64 t2]] W (fun o w' => o = .returned (.tuple #[.int .i64 (yy + 1), .int .i64 (1)]) ∧ Below W.heap.size W w'))) (D0 : Hid (∀ W, Lens W → Calls Tryd.prog 22 #[.agg #[.int .i64 y, .int .i64 m, .int .i64 d]] W (fun o w' => o = .returned (.int .i64 wd) ∧ Below W.heap.size W w'))) (D7 : Hid (∀ W, Lens W → Calls Tryd.prog 22 #[.agg #[.int .i64 x0, .int .i64 x1, .int .i64 x2]] W (fun o w' => o = .returned (.int .i64 wd) ∧ Below W.heap.size W w'))) (D1 : Hid (∀ W, Lens W → Calls Tryd.prog 22 #[.agg #[.int .i64 t0, .int .i64 t1, .int .i64 t2]] W (fun o w' => o = .returned (.int .i64 (q + 1)) ∧ Below W.heap.size W w'))) (AL : Hid (∀ W, Lens W → Calls Tryd.prog 14 #[] W (fun o w' => o = .returned (.bool true) ∧ Below W.heap.size W w'))) (w : World) (L : Lens w) :
    Calls Tryd.prog 9 #[.agg #[.int .i64 y, .int .i64 m, .int .i64 d]] w (RetV w (.bool true)) := by
  have q0 : 0 ≤ q := by omega
  have q6 : q ≤ 6 := by omega
  have T7 : wd.tmod 7 = q := by rw [Int.tmod_eq_emod_of_nonneg (by omega)]; exact hq
  have S1 : IntKind.i64.wrap q = q := IntWalk.i64_in _ (by omega)
  have S2 : IntKind.i64.wrap (q + 1) = q + 1 := IntWalk.i64_in _ (by omega)
  have G7 : decide (wd < 7) = false := decide_eq_false _wl
  have TH := Lib.hid T7
  have SH := Lib.hid (And.intro S1 S2)
  clear T7 S1 S2 hq
  have e1 : (yy + 1 == yy) = false := by rw [beq_eq_false_iff_ne]; omega
  have e2 : (yy + 1 != yy) = true := by rw [bne_iff_ne]; omega
  have e3 : (k + 1 == k) = false := by rw [beq_eq_false_iff_ne]; omega
  have e4 : decide (k < 1) = false := decide_eq_false (by omega)
  have e5 : decide (53 < 1) = false := decide_eq_false (by omega)
  have e6 : decide (k < 52) = false := decide_eq_false (by omega)
  go_enter Tryd.func9, Tryd.ntmps9
  go_wp2_with fail
  have KB := ((BK.nil w).more3 (.int .i64 y) (.int .i64 m) (.int .i64 d) 23)
  generalize (w.alloc (.cells #[.int .i64 y, .int .i64 m, .int .i64 d] 23)) = w0 at *
  refine (A7.out _ (L.mono KB.hb)).mono ?_
  rintro e w1 ⟨rfl, k⟩
  replace KB := KB.below k
  clear k
  go_upto_region 2 with (fail)
  have hlg := KB.head.lt
  replace KB := KB.more3 (.int .i64 (x0)) (.int .i64 (x1)) (.int .i64 (x2)) 23
  generalize w1.alloc (.cells #[.int .i64 (x0), .int .i64 (x1), .int .i64 (x2)] 23) = w2 at *
  have ig0 : w1.heap.size ≠ w.heap.size := by omega
  have og0 := Ne.symm ig0
  generalize w1.heap.size = g at *
  obtain ⟨_, a0, a1, a2, _⟩ := (KB.tail.head).three
  go_wp2_with fail
  clear a0 a1 a2
  refine (A1.out _ (L.mono KB.hb)).mono ?_
  rintro e w3 ⟨rfl, k⟩
  replace KB := KB.below k
  clear k
  go_upto_region 3 with (fail)
  have hlh := KB.head.lt
  replace KB := KB.more3 (.int .i64 (t0)) (.int .i64 (t1)) (.int .i64 (t2)) 23
  generalize w3.alloc (.cells #[.int .i64 (t0), .int .i64 (t1), .int .i64 (t2)] 23) = w4 at *
  have ih0 : w3.heap.size ≠ g := by omega
  have oh0 := Ne.symm ih0
  have ih1 : w3.heap.size ≠ w.heap.size := by omega
  have oh1 := Ne.symm ih1
  generalize w3.heap.size = h at *
  obtain ⟨_, a0, a1, a2, _⟩ := (KB.tail.tail.head).three
  go_wp2_with fail
  clear a0 a1 a2
  refine (W0.out _ (L.mono KB.hb)).mono ?_
  rintro e w5 ⟨rfl, k⟩
  replace KB := KB.below k
  clear k
  obtain ⟨_, b0, b1, b2, _⟩ := (KB.tail.head).three
  go_wp2_with fail
  clear b0 b1 b2
  refine (W7.out _ (L.mono KB.hb)).mono ?_
  rintro e w6 ⟨rfl, k⟩
  replace KB := KB.below k
  clear k
  obtain ⟨_, c0, c1, c2, _⟩ := (KB.head).three
  go_upto_region 9 with (fail)
  go_wp2_with fail
  clear c0 c1 c2
  refine (W1.out _ (L.mono KB.hb)).mono ?_
  rintro e w7 ⟨rfl, k⟩
  replace KB := KB.below k
  clear k
  go_upto_region 11 with (fail)
  have T7 := TH.out
  obtain ⟨S1, S2⟩ := SH.out
  clear TH SH
  obtain ⟨_, ja0, jb0, jc0, _⟩ := (KB.head).three
  obtain ⟨_, ja1, jb1, jc1, _⟩ := (KB.tail.head).three
  obtain ⟨_, ja2, jb2, jc2, _⟩ := (KB.tail.tail.head).three
  go_region_held3 (fun w' => w'.cell? ⟨h, 0, none⟩ = some (.int .i64 (t0)) ∧ w'.cell? ⟨h, 1, none⟩ = some (.int .i64 (t1)) ∧ w'.cell? ⟨h, 2, none⟩ = some (.int .i64 (t2)) ∧ w'.cell? ⟨g, 0, none⟩ = some (.int .i64 (x0)) ∧ w'.cell? ⟨g, 1, none⟩ = some (.int .i64 (x1)) ∧ w'.cell? ⟨g, 2, none⟩ = some (.int .i64 (x2)) ∧ w'.cell? ⟨w.heap.size, 0, none⟩ = some (.int .i64 (y)) ∧ w'.cell? ⟨w.heap.size, 1, none⟩ = some (.int .i64 (m)) ∧ w'.cell? ⟨w.heap.size, 2, none⟩ = some (.int .i64 (d))) (first | (with_reducible exact ⟨(KB.head).three.2.1, (KB.head).three.2.2.1, (KB.head).three.2.2.2.1, (KB.tail.head).three.2.1, (KB.tail.head).three.2.2.1, (KB.tail.head).three.2.2.2.1, (KB.tail.tail.head).three.2.1, (KB.tail.tail.head).three.2.2.1, (KB.tail.tail.head).three.2.2.2.1⟩) | (with_reducible exact ⟨(KB.drew.head).three.2.1, (KB.drew.head).three.2.2.1, (KB.drew.head).three.2.2.2.1, (KB.drew.tail.head).three.2.1, (KB.drew.tail.head).three.2.2.1, (KB.drew.tail.head).three.2.2.2.1, (KB.drew.tail.tail.head).three.2.1, (KB.drew.tail.tail.head).three.2.2.1, (KB.drew.tail.tail.head).three.2.2.2.1⟩) | go_keep)
    (first
      | (go_at_call 14; (with_reducible refine (AL.out _ (by with_reducible first | exact L.mono KB.hb | exact L.mono KB.drew.hb)).mono ?_); rintro e W9 ⟨rfl, k⟩
         with_reducible (first | replace KB := KB.below k | replace KB := KB.drew.below k)
         clear k
         obtain ⟨_, ka0, kb0, kc0, _⟩ := (KB.head).three
         obtain ⟨_, ka1, kb1, kc1, _⟩ := (KB.tail.head).three
         obtain ⟨_, ka2, kb2, kc2, _⟩ := (KB.tail.tail.head).three)
      | (go_at_call 22; (with_reducible refine (D0.out _ (by with_reducible first | exact L.mono KB.hb | exact L.mono KB.drew.hb)).mono ?_); rintro e W9 ⟨rfl, k⟩
         with_reducible (first | replace KB := KB.below k | replace KB := KB.drew.below k)
         clear k
         obtain ⟨_, ka0, kb0, kc0, _⟩ := (KB.head).three
         obtain ⟨_, ka1, kb1, kc1, _⟩ := (KB.tail.head).three
         obtain ⟨_, ka2, kb2, kc2, _⟩ := (KB.tail.tail.head).three)
      | (go_at_call 22; (with_reducible refine (D7.out _ (by with_reducible first | exact L.mono KB.hb | exact L.mono KB.drew.hb)).mono ?_); rintro e W9 ⟨rfl, k⟩
         with_reducible (first | replace KB := KB.below k | replace KB := KB.drew.below k)
         clear k
         obtain ⟨_, ka0, kb0, kc0, _⟩ := (KB.head).three
         obtain ⟨_, ka1, kb1, kc1, _⟩ := (KB.tail.head).three
         obtain ⟨_, ka2, kb2, kc2, _⟩ := (KB.tail.tail.head).three)
      | (go_at_call 22; (with_reducible refine (D1.out _ (by with_reducible first | exact L.mono KB.hb | exact L.mono KB.drew.hb)).mono ?_); rintro e W9 ⟨rfl, k⟩
         with_reducible (first | replace KB := KB.below k | replace KB := KB.drew.below k)
         clear k
         obtain ⟨_, ka0, kb0, kc0, _⟩ := (KB.head).three
         obtain ⟨_, ka1, kb1, kc1, _⟩ := (KB.tail.head).three
         obtain ⟨_, ka2, kb2, kc2, _⟩ := (KB.tail.tail.head).three))
  all_goals
    go_wp2
    go_ret
    exact ⟨rfl, by first | exact KB.hb | exact KB.drew.hb⟩
/-- the week seven days on -/
theorem wk_next {t yy zz : Int} (a1 : jan yy ≤ t) (a2 : t < jan (yy + 1)) (b1 : jan zz ≤ t + 7) (b2 : t + 7 < jan (zz + 1)) :
    1 ≤ wk t yy ∧ wk t yy ≤ 53 ∧ (zz = yy ∧ wk (t + 7) zz = wk t yy + 1 ∧ wk t yy + 1 ≤ 53 ∨ zz = yy + 1 ∧ wk (t + 7) zz = 1 ∧ 52 ≤ wk t yy) := by
  have s := jan_succ yy
  have l := lenY_range yy
  have s1 := jan_succ (yy + 1)
  have l1 := lenY_range (yy + 1)
  unfold wk
  refine ⟨by omega, by omega, ?_⟩
  by_cases h : t + 7 < jan (yy + 1)
  · have e : zz = yy := year_uniq b1 b2 (by omega) h
    subst e
    exact .inl ⟨rfl, by omega, by omega⟩
  · have e : zz = yy + 1 := year_uniq b1 b2 (by omega) (by omega)
    subst e
    exact .inr ⟨rfl, by omega, by omega⟩
theorem thu_next (n : Int) : (wday n < 7 → thu (n + 1) = thu n) ∧ (¬ wday n < 7 → thu (n + 1) = thu n + 7) := by unfold thu wday; omega
theorem civilSevens_walk (y m d : Int) (_ : In64 y) (_ : In64 m) (_ : In64 d) (w : World) (L : Lens w) : Calls Tryd.prog 9 #[.agg #[.int .i64 y, .int .i64 m, .int .i64 d]] w (RetV w (.bool true)) := by
  by_cases hk : okD y m d
  · by_cases ho : numD y m d + 7 < -100000001 ∨ 100000000 < numD y m d + 7
    · by_cases h1 : numD y m d + 1 < -100000001 ∨ 100000000 < numD y m d + 1
      · exact sevens_no y m d 0 0 0 4 0 0 0 4 (by decide) (Lib.hid fun W l => addP_over hk ho W l) (Lib.hid fun W l => addP_over hk h1 W l) (Lib.hid alive5) w L
      · obtain ⟨b0, b1, b2, hd, hn⟩ := day_of (numD y m d + 1)
        exact sevens_no y m d 0 0 0 4 b0 b1 b2 0 (by decide) (Lib.hid fun W l => addP_over hk ho W l) (Lib.hid fun W l => addP hk ⟨hd, by omega, by omega⟩ hn W l) (Lib.hid alive5) w L
    have n0 := hk.2
    obtain ⟨x0, x1, x2, xd, xn⟩ := day_of (numD y m d + 7)
    obtain ⟨t0, t1, t2, td, tn⟩ := day_of (numD y m d + 1)
    have xk : okD x0 x1 x2 := ⟨xd, by omega, by omega⟩
    have tk : okD t0 t1 t2 := ⟨td, by omega, by omega⟩
    have A7 := Lib.hid fun W l => addP hk xk xn W l
    have A1 := Lib.hid fun W l => addP hk tk tn W l
    have weekday : ∀ {a b c : Int}, okD a b c → ∀ W, Lens W → Calls Tryd.prog 22 #[.agg #[.int .i64 a, .int .i64 b, .int .i64 c]] W (fun o w' => o = .returned (.int .i64 (wday (numD a b c))) ∧ Below W.heap.size W w') := fun {a b c} h W l => by
      have k := weekdayP a b c W l
      rw [show wdv a b c = wday (numD a b c) by unfold wdv; rw [if_pos h]] at k
      exact k.mono fun _ _ ⟨h1, h2⟩ => ⟨h1, h2⟩
    have d0 := weekday hk
    have d7 := weekday xk
    have d1 := weekday tk
    rw [xn, wday_seven] at d7
    rw [tn, wday_next] at d1
    obtain ⟨yy, a1, a2⟩ := year_of (thu (numD y m d))
    obtain ⟨zz, b1, b2⟩ := year_of (thu (numD y m d) + 7)
    have yb : -280000 ≤ yy ∧ yy ≤ 280000 := by
      have tr := thu_near (numD y m d)
      constructor
      · apply Classical.byContradiction
        intro c
        have := jan_le (show yy + 1 ≤ -272000 by omega)
        rw [show jan (-272000) = -100065488 by decide] at this
        omega
      · apply Classical.byContradiction
        intro c
        have := jan_le (show (276000 : Int) ≤ yy by omega)
        rw [show jan 276000 = 100087402 by decide] at this
        omega
    have W0 := fun W l => weekP y m d yy hk a1 a2 W l
    have W7 := fun W l => weekP x0 x1 x2 zz xk (by rw [xn, thu_seven]; exact b1) (by rw [xn, thu_seven]; exact b2) W l
    rw [xn, thu_seven] at W7
    obtain ⟨k1, k2, hz⟩ := wk_next a1 a2 b1 b2
    obtain ⟨u1, u2⟩ := thu_next (numD y m d)
    have wr := wday_range (numD y m d)
    rcases hz with ⟨rfl, hv, kv⟩ | ⟨rfl, hv, kv⟩
    · rw [hv] at W7
      by_cases hw : wday (numD y m d) < 7
      · have W1 := fun W l => weekP t0 t1 t2 zz tk (by rw [tn, u1 hw]; exact a1) (by rw [tn, u1 hw]; exact a2) W l
        rw [tn, u1 hw] at W1
        exact sevens_al y m d x0 x1 x2 t0 t1 t2 zz _ _ _ wr.1 wr.2 rfl k1 k2 yb.1 yb.2 kv hw A7 A1 (Lib.hid W0) (Lib.hid W7) (Lib.hid W1) (Lib.hid d0) (Lib.hid d7) (Lib.hid d1) (Lib.hid alive5) w L
      · have W1 := fun W l => weekP t0 t1 t2 zz tk (by rw [tn, u2 hw]; exact b1) (by rw [tn, u2 hw]; exact b2) W l
        rw [tn, u2 hw, hv] at W1
        exact sevens_as y m d x0 x1 x2 t0 t1 t2 zz _ _ _ wr.1 wr.2 rfl k1 k2 yb.1 yb.2 kv hw A7 A1 (Lib.hid W0) (Lib.hid W7) (Lib.hid W1) (Lib.hid d0) (Lib.hid d7) (Lib.hid d1) (Lib.hid alive5) w L
    · rw [hv] at W7
      by_cases hw : wday (numD y m d) < 7
      · have W1 := fun W l => weekP t0 t1 t2 yy tk (by rw [tn, u1 hw]; exact a1) (by rw [tn, u1 hw]; exact a2) W l
        rw [tn, u1 hw] at W1
        exact sevens_bl y m d x0 x1 x2 t0 t1 t2 yy _ _ _ wr.1 wr.2 rfl k1 k2 yb.1 yb.2 kv hw A7 A1 (Lib.hid W0) (Lib.hid W7) (Lib.hid W1) (Lib.hid d0) (Lib.hid d7) (Lib.hid d1) (Lib.hid alive5) w L
      · have W1 := fun W l => weekP t0 t1 t2 (yy + 1) tk (by rw [tn, u2 hw]; exact b1) (by rw [tn, u2 hw]; exact b2) W l
        rw [tn, u2 hw, hv] at W1
        exact sevens_bs y m d x0 x1 x2 t0 t1 t2 yy _ _ _ wr.1 wr.2 rfl k1 k2 yb.1 yb.2 kv hw A7 A1 (Lib.hid W0) (Lib.hid W7) (Lib.hid W1) (Lib.hid d0) (Lib.hid d7) (Lib.hid d1) (Lib.hid alive5) w L
  · exact sevens_no y m d 0 0 0 1 0 0 0 1 (by decide) (Lib.hid fun W l => addP_bad 7 hk W l) (Lib.hid fun W l => addP_bad 1 hk W l) (Lib.hid alive5) w L
end Go.Proofs.YtmmgppfopojnlaaDoor
