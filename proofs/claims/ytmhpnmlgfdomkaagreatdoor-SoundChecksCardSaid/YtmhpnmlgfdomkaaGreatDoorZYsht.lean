/- Package moment: the day of a month on which a spot falls, by a sheet of that month. -/
import Derived.Test.YtmhpnmlgfdomkaaGreatDoorZGyp
import Derived.Laws.EntriesVeiled
set_option maxRecDepth 100000
set_option maxHeartbeats 64000000
namespace Go.Proofs.YtmhpnmlgfdomkaaGreatDoor
open Go.RowKit
def upM (mw d wd : Int) : Int := d - (mw + d - 1 - wd) % 7
theorem upToP (mw ml d wd : Int) (_h1 : 1 ≤ mw ∧ mw ≤ 7) (_h2 : 1 ≤ d ∧ d ≤ 1000) (_h3 : 1 ≤ wd ∧ wd ≤ 7) (w : World) : Calls Tryz.prog 172 #[.agg #[.int .i64 mw, .int .i64 ml], .int .i64 d, .int .i64 wd] w (RetV w (.int .i64 (upM mw d wd))) := by
  have E := Lib.hid (show upM mw d wd = d - (mw + d - 1 - wd) % 7 from rfl)
  have n0 : 0 ≤ mw + d - 1 - wd + 7 := by omega
  go_enter Tryz.func172, Tryz.ntmps172
  go_upto_region 1 with (fail)
  have KB := (BK.nil w).more2 (.int .i64 mw) (.int .i64 ml) 170
  generalize w.alloc (.cells #[.int .i64 mw, .int .i64 ml] 170) = W at *
  obtain ⟨_, r0, r1, _⟩ := KB.head.two
  go_wp2
  go_ret
  exact ⟨by rw [E.out]; rfl, KB.hb⟩
theorem onDayP (mw ml mo ki wd da ti re : Int) (w : World) : Calls Tryz.prog 166 #[.agg #[.int .i64 mw, .int .i64 ml], .agg #[.int .i64 (mo), .int .i64 (ki), .int .i64 (wd), .int .i64 (da), .int .i64 (ti), .int .i64 (re)]] w (RetV w (.int .i64 (da))) := by
  go_enter Tryz.func166, Tryz.ntmps166
  go_upto_region 1 with (fail)
  have KB := ((BK.nil w).more2 (.int .i64 mw) (.int .i64 ml) 170).more6 (.int .i64 (mo)) (.int .i64 (ki)) (.int .i64 (wd)) (.int .i64 (da)) (.int .i64 (ti)) (.int .i64 (re)) 34
  simp only [World.size_alloc] at KB
  generalize (w.alloc (.cells #[.int .i64 mw, .int .i64 ml] 170)).alloc (.cells #[.int .i64 mo, .int .i64 ki, .int .i64 wd, .int .i64 da, .int .i64 ti, .int .i64 re] 34) = W at *
  obtain ⟨_, r0, r1, r2, r3, r4, r5, _⟩ := KB.head.six
  obtain ⟨_, q0, q1, _⟩ := KB.tail.head.two
  go_wp2
  go_ret
  exact ⟨rfl, KB.hb⟩
theorem onLastP (mw ml mo ki wd da ti re : Int) (_h1 : 1 ≤ mw ∧ mw ≤ 7) (_h2 : 28 ≤ ml ∧ ml ≤ 31) (_h3 : 1 ≤ wd ∧ wd ≤ 7) (_h4 : 0 ≤ da ∧ da ≤ 31) (w : World) : Calls Tryz.prog 167 #[.agg #[.int .i64 mw, .int .i64 ml], .agg #[.int .i64 (mo), .int .i64 (ki), .int .i64 (wd), .int .i64 (da), .int .i64 (ti), .int .i64 (re)]] w (RetV w (.int .i64 (upM mw ml wd))) := by
  have UP := Lib.hid (upToP mw ml ml wd (by omega) (by omega) (by omega))
  go_enter Tryz.func167, Tryz.ntmps167
  go_upto_region 1 with (fail)
  have KB := ((BK.nil w).more2 (.int .i64 mw) (.int .i64 ml) 170).more6 (.int .i64 (mo)) (.int .i64 (ki)) (.int .i64 (wd)) (.int .i64 (da)) (.int .i64 (ti)) (.int .i64 (re)) 34
  simp only [World.size_alloc] at KB
  generalize (w.alloc (.cells #[.int .i64 mw, .int .i64 ml] 170)).alloc (.cells #[.int .i64 mo, .int .i64 ki, .int .i64 wd, .int .i64 da, .int .i64 ti, .int .i64 re] 34) = W at *
  obtain ⟨_, r0, r1, r2, r3, r4, r5, _⟩ := KB.head.six
  obtain ⟨_, q0, q1, _⟩ := KB.tail.head.two
  go_wp2_with fail
  clear r0 r1 r2 r3 r4 r5 q0 q1
  refine (UP.out _).mono ?_
  clear UP
  rintro e w2 ⟨rfl, hb⟩
  replace KB := KB.below hb
  clear hb
  go_wp2
  go_ret
  exact ⟨rfl, KB.hb⟩
theorem onAfterP (mw ml mo ki wd da ti re : Int) (_h1 : 1 ≤ mw ∧ mw ≤ 7) (_h2 : 28 ≤ ml ∧ ml ≤ 31) (_h3 : 1 ≤ wd ∧ wd ≤ 7) (_h4 : 0 ≤ da ∧ da ≤ 31) (w : World) : Calls Tryz.prog 168 #[.agg #[.int .i64 mw, .int .i64 ml], .agg #[.int .i64 (mo), .int .i64 (ki), .int .i64 (wd), .int .i64 (da), .int .i64 (ti), .int .i64 (re)]] w (RetV w (.int .i64 (upM mw (da + 7 - 1) wd))) := by
  have UP := Lib.hid (upToP mw ml (da + 7 - 1) wd (by omega) (by omega) (by omega))
  go_enter Tryz.func168, Tryz.ntmps168
  go_upto_region 1 with (fail)
  have KB := ((BK.nil w).more2 (.int .i64 mw) (.int .i64 ml) 170).more6 (.int .i64 (mo)) (.int .i64 (ki)) (.int .i64 (wd)) (.int .i64 (da)) (.int .i64 (ti)) (.int .i64 (re)) 34
  simp only [World.size_alloc] at KB
  generalize (w.alloc (.cells #[.int .i64 mw, .int .i64 ml] 170)).alloc (.cells #[.int .i64 mo, .int .i64 ki, .int .i64 wd, .int .i64 da, .int .i64 ti, .int .i64 re] 34) = W at *
  obtain ⟨_, r0, r1, r2, r3, r4, r5, _⟩ := KB.head.six
  obtain ⟨_, q0, q1, _⟩ := KB.tail.head.two
  go_wp2_with fail
  clear r0 r1 r2 r3 r4 r5 q0 q1
  refine (UP.out _).mono ?_
  clear UP
  rintro e w2 ⟨rfl, hb⟩
  replace KB := KB.below hb
  clear hb
  go_wp2
  go_ret
  exact ⟨rfl, KB.hb⟩
theorem onAheadP (mw ml mo ki wd da ti re : Int) (_h1 : 1 ≤ mw ∧ mw ≤ 7) (_h2 : 28 ≤ ml ∧ ml ≤ 31) (_h3 : 1 ≤ wd ∧ wd ≤ 7) (_h4 : 1 ≤ da ∧ da ≤ 31) (w : World) : Calls Tryz.prog 169 #[.agg #[.int .i64 mw, .int .i64 ml], .agg #[.int .i64 (mo), .int .i64 (ki), .int .i64 (wd), .int .i64 (da), .int .i64 (ti), .int .i64 (re)]] w (RetV w (.int .i64 (upM mw da wd))) := by
  have UP := Lib.hid (upToP mw ml da wd (by omega) (by omega) (by omega))
  go_enter Tryz.func169, Tryz.ntmps169
  go_upto_region 1 with (fail)
  have KB := ((BK.nil w).more2 (.int .i64 mw) (.int .i64 ml) 170).more6 (.int .i64 (mo)) (.int .i64 (ki)) (.int .i64 (wd)) (.int .i64 (da)) (.int .i64 (ti)) (.int .i64 (re)) 34
  simp only [World.size_alloc] at KB
  generalize (w.alloc (.cells #[.int .i64 mw, .int .i64 ml] 170)).alloc (.cells #[.int .i64 mo, .int .i64 ki, .int .i64 wd, .int .i64 da, .int .i64 ti, .int .i64 re] 34) = W at *
  obtain ⟨_, r0, r1, r2, r3, r4, r5, _⟩ := KB.head.six
  obtain ⟨_, q0, q1, _⟩ := KB.tail.head.two
  go_wp2_with fail
  clear r0 r1 r2 r3 r4 r5 q0 q1
  refine (UP.out _).mono ?_
  clear UP
  rintro e w2 ⟨rfl, hb⟩
  replace KB := KB.below hb
  clear hb
  go_wp2
  go_ret
  exact ⟨rfl, KB.hb⟩
theorem day_k0 (mw ml mo wd da ti re v : Int) (DY : Hid (∀ W, Calls Tryz.prog 166 #[.agg #[.int .i64 mw, .int .i64 ml], .agg #[.int .i64 mo, .int .i64 0, .int .i64 wd, .int .i64 da, .int .i64 ti, .int .i64 re]] W (RetV W (.int .i64 v)))) (w : World) : Calls Tryz.prog 156 #[.agg #[.int .i64 mw, .int .i64 ml], .agg #[.int .i64 mo, .int .i64 0, .int .i64 wd, .int .i64 da, .int .i64 ti, .int .i64 re]] w (RetV w (.int .i64 v)) := by
  go_enter Tryz.func156, Tryz.ntmps156
  go_upto_region 2 with (fail)
  have KB := (((BK.nil w).more2 (.int .i64 mw) (.int .i64 ml) 170).more6 (.int .i64 mo) (.int .i64 0) (.int .i64 wd) (.int .i64 da) (.int .i64 ti) (.int .i64 re) 34).more4 (.func (.func 166) #[] #[]) (.func (.func 167) #[] #[]) (.func (.func 168) #[] #[]) (.func (.func 169) #[] #[]) 178
  simp only [World.size_alloc] at KB
  generalize ((w.alloc (.cells #[.int .i64 mw, .int .i64 ml] 170)).alloc (.cells #[.int .i64 mo, .int .i64 0, .int .i64 wd, .int .i64 da, .int .i64 ti, .int .i64 re] 34)).alloc (.cells #[.func (.func 166) #[] #[], .func (.func 167) #[] #[], .func (.func 168) #[] #[], .func (.func 169) #[] #[]] 178) = W at *
  obtain ⟨_, c0, c1, c2, c3, _⟩ := KB.head.four
  obtain ⟨_, r0, r1, r2, r3, r4, r5, _⟩ := KB.tail.head.six
  obtain ⟨_, q0, q1, _⟩ := KB.tail.tail.head.two
  go_region_held3 (fun w' => w'.cell? ⟨w.heap.size + 2, 0, none⟩ = some (.func (.func 166) #[] #[]) ∧ w'.cell? ⟨w.heap.size + 1, 0, none⟩ = some (.int .i64 mo) ∧ w'.cell? ⟨w.heap.size + 1, 1, none⟩ = some (.int .i64 0) ∧ w'.cell? ⟨w.heap.size + 1, 2, none⟩ = some (.int .i64 wd) ∧ w'.cell? ⟨w.heap.size + 1, 3, none⟩ = some (.int .i64 da) ∧ w'.cell? ⟨w.heap.size + 1, 4, none⟩ = some (.int .i64 ti) ∧ w'.cell? ⟨w.heap.size + 1, 5, none⟩ = some (.int .i64 re) ∧ w'.cell? ⟨w.heap.size, 0, none⟩ = some (.int .i64 mw) ∧ w'.cell? ⟨w.heap.size, 1, none⟩ = some (.int .i64 ml)) (first | (with_reducible exact ⟨(KB.head).four.2.1, (KB.tail.head).six.2.1, (KB.tail.head).six.2.2.1, (KB.tail.head).six.2.2.2.1, (KB.tail.head).six.2.2.2.2.1, (KB.tail.head).six.2.2.2.2.2.1, (KB.tail.head).six.2.2.2.2.2.2.1, (KB.tail.tail.head).two.2.1, (KB.tail.tail.head).two.2.2.1⟩) | (with_reducible exact ⟨(KB.drew.head).four.2.1, (KB.drew.tail.head).six.2.1, (KB.drew.tail.head).six.2.2.1, (KB.drew.tail.head).six.2.2.2.1, (KB.drew.tail.head).six.2.2.2.2.1, (KB.drew.tail.head).six.2.2.2.2.2.1, (KB.drew.tail.head).six.2.2.2.2.2.2.1, (KB.drew.tail.tail.head).two.2.1, (KB.drew.tail.tail.head).two.2.2.1⟩) | go_keep)
    (first
      | (go_at_call 166; (with_reducible refine (DY.out _).mono ?_); rintro e W9 ⟨rfl, hb⟩
         with_reducible (first | replace KB := KB.below hb | replace KB := KB.drew.below hb)
         clear hb))
  all_goals
    go_wp2
    go_ret
    exact ⟨rfl, by first | exact KB.hb | exact KB.drew.hb⟩
theorem day_k1 (mw ml mo wd da ti re v : Int) (DY : Hid (∀ W, Calls Tryz.prog 167 #[.agg #[.int .i64 mw, .int .i64 ml], .agg #[.int .i64 mo, .int .i64 1, .int .i64 wd, .int .i64 da, .int .i64 ti, .int .i64 re]] W (RetV W (.int .i64 v)))) (w : World) : Calls Tryz.prog 156 #[.agg #[.int .i64 mw, .int .i64 ml], .agg #[.int .i64 mo, .int .i64 1, .int .i64 wd, .int .i64 da, .int .i64 ti, .int .i64 re]] w (RetV w (.int .i64 v)) := by
  go_enter Tryz.func156, Tryz.ntmps156
  go_upto_region 2 with (fail)
  have KB := (((BK.nil w).more2 (.int .i64 mw) (.int .i64 ml) 170).more6 (.int .i64 mo) (.int .i64 1) (.int .i64 wd) (.int .i64 da) (.int .i64 ti) (.int .i64 re) 34).more4 (.func (.func 166) #[] #[]) (.func (.func 167) #[] #[]) (.func (.func 168) #[] #[]) (.func (.func 169) #[] #[]) 178
  simp only [World.size_alloc] at KB
  generalize ((w.alloc (.cells #[.int .i64 mw, .int .i64 ml] 170)).alloc (.cells #[.int .i64 mo, .int .i64 1, .int .i64 wd, .int .i64 da, .int .i64 ti, .int .i64 re] 34)).alloc (.cells #[.func (.func 166) #[] #[], .func (.func 167) #[] #[], .func (.func 168) #[] #[], .func (.func 169) #[] #[]] 178) = W at *
  obtain ⟨_, c0, c1, c2, c3, _⟩ := KB.head.four
  obtain ⟨_, r0, r1, r2, r3, r4, r5, _⟩ := KB.tail.head.six
  obtain ⟨_, q0, q1, _⟩ := KB.tail.tail.head.two
  go_region_held3 (fun w' => w'.cell? ⟨w.heap.size + 2, 1, none⟩ = some (.func (.func 167) #[] #[]) ∧ w'.cell? ⟨w.heap.size + 1, 0, none⟩ = some (.int .i64 mo) ∧ w'.cell? ⟨w.heap.size + 1, 1, none⟩ = some (.int .i64 1) ∧ w'.cell? ⟨w.heap.size + 1, 2, none⟩ = some (.int .i64 wd) ∧ w'.cell? ⟨w.heap.size + 1, 3, none⟩ = some (.int .i64 da) ∧ w'.cell? ⟨w.heap.size + 1, 4, none⟩ = some (.int .i64 ti) ∧ w'.cell? ⟨w.heap.size + 1, 5, none⟩ = some (.int .i64 re) ∧ w'.cell? ⟨w.heap.size, 0, none⟩ = some (.int .i64 mw) ∧ w'.cell? ⟨w.heap.size, 1, none⟩ = some (.int .i64 ml)) (first | (with_reducible exact ⟨(KB.head).four.2.2.1, (KB.tail.head).six.2.1, (KB.tail.head).six.2.2.1, (KB.tail.head).six.2.2.2.1, (KB.tail.head).six.2.2.2.2.1, (KB.tail.head).six.2.2.2.2.2.1, (KB.tail.head).six.2.2.2.2.2.2.1, (KB.tail.tail.head).two.2.1, (KB.tail.tail.head).two.2.2.1⟩) | (with_reducible exact ⟨(KB.drew.head).four.2.2.1, (KB.drew.tail.head).six.2.1, (KB.drew.tail.head).six.2.2.1, (KB.drew.tail.head).six.2.2.2.1, (KB.drew.tail.head).six.2.2.2.2.1, (KB.drew.tail.head).six.2.2.2.2.2.1, (KB.drew.tail.head).six.2.2.2.2.2.2.1, (KB.drew.tail.tail.head).two.2.1, (KB.drew.tail.tail.head).two.2.2.1⟩) | go_keep)
    (first
      | (go_at_call 167; (with_reducible refine (DY.out _).mono ?_); rintro e W9 ⟨rfl, hb⟩
         with_reducible (first | replace KB := KB.below hb | replace KB := KB.drew.below hb)
         clear hb))
  all_goals
    go_wp2
    go_ret
    exact ⟨rfl, by first | exact KB.hb | exact KB.drew.hb⟩
theorem day_k2 (mw ml mo wd da ti re v : Int) (DY : Hid (∀ W, Calls Tryz.prog 168 #[.agg #[.int .i64 mw, .int .i64 ml], .agg #[.int .i64 mo, .int .i64 2, .int .i64 wd, .int .i64 da, .int .i64 ti, .int .i64 re]] W (RetV W (.int .i64 v)))) (w : World) : Calls Tryz.prog 156 #[.agg #[.int .i64 mw, .int .i64 ml], .agg #[.int .i64 mo, .int .i64 2, .int .i64 wd, .int .i64 da, .int .i64 ti, .int .i64 re]] w (RetV w (.int .i64 v)) := by
  go_enter Tryz.func156, Tryz.ntmps156
  go_upto_region 2 with (fail)
  have KB := (((BK.nil w).more2 (.int .i64 mw) (.int .i64 ml) 170).more6 (.int .i64 mo) (.int .i64 2) (.int .i64 wd) (.int .i64 da) (.int .i64 ti) (.int .i64 re) 34).more4 (.func (.func 166) #[] #[]) (.func (.func 167) #[] #[]) (.func (.func 168) #[] #[]) (.func (.func 169) #[] #[]) 178
  simp only [World.size_alloc] at KB
  generalize ((w.alloc (.cells #[.int .i64 mw, .int .i64 ml] 170)).alloc (.cells #[.int .i64 mo, .int .i64 2, .int .i64 wd, .int .i64 da, .int .i64 ti, .int .i64 re] 34)).alloc (.cells #[.func (.func 166) #[] #[], .func (.func 167) #[] #[], .func (.func 168) #[] #[], .func (.func 169) #[] #[]] 178) = W at *
  obtain ⟨_, c0, c1, c2, c3, _⟩ := KB.head.four
  obtain ⟨_, r0, r1, r2, r3, r4, r5, _⟩ := KB.tail.head.six
  obtain ⟨_, q0, q1, _⟩ := KB.tail.tail.head.two
  go_region_held3 (fun w' => w'.cell? ⟨w.heap.size + 2, 2, none⟩ = some (.func (.func 168) #[] #[]) ∧ w'.cell? ⟨w.heap.size + 1, 0, none⟩ = some (.int .i64 mo) ∧ w'.cell? ⟨w.heap.size + 1, 1, none⟩ = some (.int .i64 2) ∧ w'.cell? ⟨w.heap.size + 1, 2, none⟩ = some (.int .i64 wd) ∧ w'.cell? ⟨w.heap.size + 1, 3, none⟩ = some (.int .i64 da) ∧ w'.cell? ⟨w.heap.size + 1, 4, none⟩ = some (.int .i64 ti) ∧ w'.cell? ⟨w.heap.size + 1, 5, none⟩ = some (.int .i64 re) ∧ w'.cell? ⟨w.heap.size, 0, none⟩ = some (.int .i64 mw) ∧ w'.cell? ⟨w.heap.size, 1, none⟩ = some (.int .i64 ml)) (first | (with_reducible exact ⟨(KB.head).four.2.2.2.1, (KB.tail.head).six.2.1, (KB.tail.head).six.2.2.1, (KB.tail.head).six.2.2.2.1, (KB.tail.head).six.2.2.2.2.1, (KB.tail.head).six.2.2.2.2.2.1, (KB.tail.head).six.2.2.2.2.2.2.1, (KB.tail.tail.head).two.2.1, (KB.tail.tail.head).two.2.2.1⟩) | (with_reducible exact ⟨(KB.drew.head).four.2.2.2.1, (KB.drew.tail.head).six.2.1, (KB.drew.tail.head).six.2.2.1, (KB.drew.tail.head).six.2.2.2.1, (KB.drew.tail.head).six.2.2.2.2.1, (KB.drew.tail.head).six.2.2.2.2.2.1, (KB.drew.tail.head).six.2.2.2.2.2.2.1, (KB.drew.tail.tail.head).two.2.1, (KB.drew.tail.tail.head).two.2.2.1⟩) | go_keep)
    (first
      | (go_at_call 168; (with_reducible refine (DY.out _).mono ?_); rintro e W9 ⟨rfl, hb⟩
         with_reducible (first | replace KB := KB.below hb | replace KB := KB.drew.below hb)
         clear hb))
  all_goals
    go_wp2
    go_ret
    exact ⟨rfl, by first | exact KB.hb | exact KB.drew.hb⟩
theorem day_k3 (mw ml mo wd da ti re v : Int) (DY : Hid (∀ W, Calls Tryz.prog 169 #[.agg #[.int .i64 mw, .int .i64 ml], .agg #[.int .i64 mo, .int .i64 3, .int .i64 wd, .int .i64 da, .int .i64 ti, .int .i64 re]] W (RetV W (.int .i64 v)))) (w : World) : Calls Tryz.prog 156 #[.agg #[.int .i64 mw, .int .i64 ml], .agg #[.int .i64 mo, .int .i64 3, .int .i64 wd, .int .i64 da, .int .i64 ti, .int .i64 re]] w (RetV w (.int .i64 v)) := by
  go_enter Tryz.func156, Tryz.ntmps156
  go_upto_region 2 with (fail)
  have KB := (((BK.nil w).more2 (.int .i64 mw) (.int .i64 ml) 170).more6 (.int .i64 mo) (.int .i64 3) (.int .i64 wd) (.int .i64 da) (.int .i64 ti) (.int .i64 re) 34).more4 (.func (.func 166) #[] #[]) (.func (.func 167) #[] #[]) (.func (.func 168) #[] #[]) (.func (.func 169) #[] #[]) 178
  simp only [World.size_alloc] at KB
  generalize ((w.alloc (.cells #[.int .i64 mw, .int .i64 ml] 170)).alloc (.cells #[.int .i64 mo, .int .i64 3, .int .i64 wd, .int .i64 da, .int .i64 ti, .int .i64 re] 34)).alloc (.cells #[.func (.func 166) #[] #[], .func (.func 167) #[] #[], .func (.func 168) #[] #[], .func (.func 169) #[] #[]] 178) = W at *
  obtain ⟨_, c0, c1, c2, c3, _⟩ := KB.head.four
  obtain ⟨_, r0, r1, r2, r3, r4, r5, _⟩ := KB.tail.head.six
  obtain ⟨_, q0, q1, _⟩ := KB.tail.tail.head.two
  go_region_held3 (fun w' => w'.cell? ⟨w.heap.size + 2, 3, none⟩ = some (.func (.func 169) #[] #[]) ∧ w'.cell? ⟨w.heap.size + 1, 0, none⟩ = some (.int .i64 mo) ∧ w'.cell? ⟨w.heap.size + 1, 1, none⟩ = some (.int .i64 3) ∧ w'.cell? ⟨w.heap.size + 1, 2, none⟩ = some (.int .i64 wd) ∧ w'.cell? ⟨w.heap.size + 1, 3, none⟩ = some (.int .i64 da) ∧ w'.cell? ⟨w.heap.size + 1, 4, none⟩ = some (.int .i64 ti) ∧ w'.cell? ⟨w.heap.size + 1, 5, none⟩ = some (.int .i64 re) ∧ w'.cell? ⟨w.heap.size, 0, none⟩ = some (.int .i64 mw) ∧ w'.cell? ⟨w.heap.size, 1, none⟩ = some (.int .i64 ml)) (first | (with_reducible exact ⟨(KB.head).four.2.2.2.2.1, (KB.tail.head).six.2.1, (KB.tail.head).six.2.2.1, (KB.tail.head).six.2.2.2.1, (KB.tail.head).six.2.2.2.2.1, (KB.tail.head).six.2.2.2.2.2.1, (KB.tail.head).six.2.2.2.2.2.2.1, (KB.tail.tail.head).two.2.1, (KB.tail.tail.head).two.2.2.1⟩) | (with_reducible exact ⟨(KB.drew.head).four.2.2.2.2.1, (KB.drew.tail.head).six.2.1, (KB.drew.tail.head).six.2.2.1, (KB.drew.tail.head).six.2.2.2.1, (KB.drew.tail.head).six.2.2.2.2.1, (KB.drew.tail.head).six.2.2.2.2.2.1, (KB.drew.tail.head).six.2.2.2.2.2.2.1, (KB.drew.tail.tail.head).two.2.1, (KB.drew.tail.tail.head).two.2.2.1⟩) | go_keep)
    (first
      | (go_at_call 169; (with_reducible refine (DY.out _).mono ?_); rintro e W9 ⟨rfl, hb⟩
         with_reducible (first | replace KB := KB.below hb | replace KB := KB.drew.below hb)
         clear hb))
  all_goals
    go_wp2
    go_ret
    exact ⟨rfl, by first | exact KB.hb | exact KB.drew.hb⟩
def shD (mw ml : Int) (x : Sp) : Int := if x.ki = 0 then x.da else if x.ki = 1 then upM mw ml x.wd else if x.ki = 2 then upM mw (x.da + 7 - 1) x.wd else upM mw x.da x.wd
theorem dayMP (x : Sp) (ok : x.ok) (mw ml : Int) (h1 : 1 ≤ mw ∧ mw ≤ 7) (h2 : 28 ≤ ml ∧ ml ≤ 31) (w : World) : Calls Tryz.prog 156 #[.agg #[.int .i64 mw, .int .i64 ml], x.val] w (RetV w (.int .i64 (shD mw ml x))) := by
  obtain ⟨mo, ki, wd, da, ti, re⟩ := x
  obtain ⟨_, hk, _, _, k0, k1, k2, k3⟩ := ok
  simp only at hk k0 k1 k2 k3
  show Calls _ _ #[_, .agg #[.int .i64 mo, .int .i64 ki, .int .i64 wd, .int .i64 da, .int .i64 ti, .int .i64 re]] w _
  unfold shD
  simp only
  by_cases e0 : ki = 0
  · subst e0; rw [if_pos rfl]; exact day_k0 mw ml mo wd da ti re _ (Lib.hid fun W => onDayP mw ml mo 0 wd da ti re W) w
  rw [if_neg e0]
  by_cases e1 : ki = 1
  · subst e1; rw [if_pos rfl]; exact day_k1 mw ml mo wd da ti re _ (Lib.hid fun W => onLastP mw ml mo 1 wd da ti re h1 h2 (k1 e0) (by have := k2 rfl; omega) W) w
  rw [if_neg e1]
  by_cases e2 : ki = 2
  · subst e2; rw [if_pos rfl]; exact day_k2 mw ml mo wd da ti re _ (Lib.hid fun W => onAfterP mw ml mo 2 wd da ti re h1 h2 (k1 e0) (by have := k3 e1; omega) W) w
  rw [if_neg e2]
  obtain rfl : ki = 3 := by omega
  exact day_k3 mw ml mo wd da ti re _ (Lib.hid fun W => onAheadP mw ml mo 3 wd da ti re h1 h2 (k1 e0) (by have := k3 e1; omega) W) w
end Go.Proofs.YtmhpnmlgfdomkaaGreatDoor
