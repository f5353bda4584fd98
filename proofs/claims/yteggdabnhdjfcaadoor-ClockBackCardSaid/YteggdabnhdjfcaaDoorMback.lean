/- The walk of ClockBack: at any time and any number it returns true; what was there is as it was. -/
import Derived.Test.YteggdabnhdjfcaaDoorKalive
import Derived.Test.YteggdabnhdjfcaaDoorGzon
import Derived.Deep.RegionHeld3
namespace Go.Proofs.YteggdabnhdjfcaaDoor
open Go.RowKit

set_option maxRecDepth 100000 in
set_option maxHeartbeats 8000000 in
theorem back6_no (h m s n N c0 c1 d0 d1 : Int) (O1 : Hid (∀ W, Sizes W → Calls Tryd.prog 24 #[.int .i64 86400000000000] W (fun o w' => o = .returned (.agg #[.int .i64 (c0), .int .u64 (c1)]) ∧ Below W.heap.size W w'))) (A1 : Hid (∀ W, Sizes W → Calls Tryd.prog 18 #[.agg #[.int .i64 (h), .int .i64 (m), .int .i64 (s), .int .i64 (n)], .agg #[.int .i64 (c0), .int .u64 (c1)]] W (fun o w' => o = .returned (.tuple #[.agg #[.int .i64 (0), .int .i64 (0), .int .i64 (0), .int .i64 (0)], .int .i64 (0), .int .i64 (1)]) ∧ Below W.heap.size W w'))) (O2 : Hid (∀ W, Sizes W → Calls Tryd.prog 24 #[.int .i64 N] W (fun o w' => o = .returned (.agg #[.int .i64 (d0), .int .u64 (d1)]) ∧ Below W.heap.size W w'))) (A2 : Hid (∀ W, Sizes W → Calls Tryd.prog 18 #[.agg #[.int .i64 (h), .int .i64 (m), .int .i64 (s), .int .i64 (n)], .agg #[.int .i64 (d0), .int .u64 (d1)]] W (fun o w' => o = .returned (.tuple #[.agg #[.int .i64 (0), .int .i64 (0), .int .i64 (0), .int .i64 (0)], .int .i64 (0), .int .i64 (1)]) ∧ Below W.heap.size W w'))) (RI : Hid (∀ W, Sizes W → Calls Tryd.prog 15 #[.agg #[.int .i64 (h), .int .i64 (m), .int .i64 (s), .int .i64 (n)]] W (fun o w' => o = .returned (.bool false) ∧ Below W.heap.size W w'))) (AL : Hid (∀ W, Sizes W → Calls Tryd.prog 14 #[] W (fun o w' => o = .returned (.bool true) ∧ Below W.heap.size W w'))) (w : World) (L : Sizes w) :
    Calls Tryd.prog 7 #[.agg #[.int .i64 (h), .int .i64 (m), .int .i64 (s), .int .i64 (n)], .int .i64 N] w (RetV w (.bool true)) := by
  go_enter Tryd.func7, Tryd.ntmps7
  go_upto_region 1 with (fail)
  have KB := ((BK.nil w).more4 (.int .i64 (h)) (.int .i64 (m)) (.int .i64 (s)) (.int .i64 (n)) 23)
  generalize (w.alloc (.cells #[.int .i64 (h), .int .i64 (m), .int .i64 (s), .int .i64 (n)] 23)) = w0 at *
  obtain ⟨lo, st, hlo⟩ := KB.preB (KB.head).lt [.int .i64 0, .int .i64 0, .int .i64 0, .int .i64 0]
  have la0 : w.heap.size ≤ lo := hlo (w.heap.size, [.int .i64 (h), .int .i64 (m), .int .i64 (s), .int .i64 (n)]) (by simp)
  clear hlo
  go_cut [5, 6, 7] (fun v5 v6 v7 wx => CutOneB lo (BK w [(w.heap.size, [.int .i64 (h), .int .i64 (m), .int .i64 (s), .int .i64 (n)])]) [.int .i64 (0), .int .i64 (0), .int .i64 (0), .int .i64 (0)] v5 wx ∧ v6 = .int .i64 (0) ∧ v7 = .int .i64 (1))
  case first =>
    obtain ⟨_, j0a, j0b, j0c, j0d, _⟩ := (KB.head).four
    clear KB
    have ⟨gp0, gq0⟩ := behindB st.lt la0
    go_region_held3 (fun w' => w'.cell? ⟨w.heap.size, 0, none⟩ = some (.int .i64 (h)) ∧ w'.cell? ⟨w.heap.size, 1, none⟩ = some (.int .i64 (m)) ∧ w'.cell? ⟨w.heap.size, 2, none⟩ = some (.int .i64 (s)) ∧ w'.cell? ⟨w.heap.size, 3, none⟩ = some (.int .i64 (n))) (first | (with_reducible exact ⟨(st.k.head).four.2.1, (st.k.head).four.2.2.1, (st.k.head).four.2.2.2.1, (st.k.head).four.2.2.2.2.1⟩) | (with_reducible exact ⟨((st.a4 _).k.head).four.2.1, ((st.a4 _).k.head).four.2.2.1, ((st.a4 _).k.head).four.2.2.2.1, ((st.a4 _).k.head).four.2.2.2.2.1⟩) | (with_reducible exact ⟨(st.drew.k.head).four.2.1, (st.drew.k.head).four.2.2.1, (st.drew.k.head).four.2.2.2.1, (st.drew.k.head).four.2.2.2.2.1⟩) | (with_reducible exact ⟨((st.a4 _).drew.k.head).four.2.1, ((st.a4 _).drew.k.head).four.2.2.1, ((st.a4 _).drew.k.head).four.2.2.2.1, ((st.a4 _).drew.k.head).four.2.2.2.2.1⟩) | go_keep)
      (first
        | (go_at_call 24; (with_reducible refine (O1.out _ (by with_reducible first | exact L.mono st.k.hb | exact L.mono (st.a4 _).k.hb | exact L.mono st.drew.k.hb | exact L.mono (st.a4 _).drew.k.hb)).mono ?_); rintro e x ⟨rfl, k⟩
           with_reducible (first | replace st := st.below k | replace st := (st.a4 _).below k | replace st := st.drew.below k | replace st := (st.a4 _).drew.below k)
           clear k
           obtain ⟨_, k0a, k0b, k0c, k0d, _⟩ := (st.k.head).four
           obtain ⟨gp0, gq0⟩ := behindB st.lt la0
           try obtain ⟨gr0, gs0⟩ := behindB (st.ge _ (List.mem_cons_self ..)) la0
           try obtain ⟨_, ya, yb, yc, yd, za, zb, zc, zd⟩ := (st.al _ (List.mem_cons_self ..)).four)
        | (go_at_call 18; (with_reducible refine (A1.out _ (by with_reducible first | exact L.mono st.k.hb | exact L.mono (st.a4 _).k.hb | exact L.mono st.drew.k.hb | exact L.mono (st.a4 _).drew.k.hb)).mono ?_); rintro e x ⟨rfl, k⟩
           with_reducible (first | replace st := st.below k | replace st := (st.a4 _).below k | replace st := st.drew.below k | replace st := (st.a4 _).drew.below k)
           clear k
           obtain ⟨_, k0a, k0b, k0c, k0d, _⟩ := (st.k.head).four
           obtain ⟨gp0, gq0⟩ := behindB st.lt la0
           try obtain ⟨gr0, gs0⟩ := behindB (st.ge _ (List.mem_cons_self ..)) la0
           try obtain ⟨_, ya, yb, yc, yd, za, zb, zc, zd⟩ := (st.al _ (List.mem_cons_self ..)).four))
    all_goals
      go_wp2_with fail
      go_meet
      refine ⟨⟨_, rfl, ?_⟩, rfl, rfl⟩
      with_reducible first | exact st.p4 _ _ _ _  | exact st.q4 _ _ _ _ _
  case rest =>
  obtain ⟨⟨g, rfl, s0⟩, rfl, rfl⟩ := hcut
  clear st
  have KB := s0.k.cons s0.bg
  have ggg := s0.gg
  have ig0 : g ≠ w.heap.size := by omega
  have og0 := Ne.symm ig0
  clear s0 la0 ggg
  clear lo
  go_wp2_with fail
  obtain ⟨lo, st, hlo⟩ := KB.preB (KB.tail.head).lt [.int .i64 0, .int .i64 0, .int .i64 0, .int .i64 0]
  have la0 : g ≤ lo := hlo (g, [.int .i64 (0), .int .i64 (0), .int .i64 (0), .int .i64 (0)]) (by simp)
  have la1 : w.heap.size ≤ lo := hlo (w.heap.size, [.int .i64 (h), .int .i64 (m), .int .i64 (s), .int .i64 (n)]) (by simp)
  clear hlo
  go_cut [8, 9, 10] (fun v8 v9 v10 wx => CutOneB lo (BK w [(g, [.int .i64 (0), .int .i64 (0), .int .i64 (0), .int .i64 (0)]), (w.heap.size, [.int .i64 (h), .int .i64 (m), .int .i64 (s), .int .i64 (n)])]) [.int .i64 (0), .int .i64 (0), .int .i64 (0), .int .i64 (0)] v8 wx ∧ v9 = .int .i64 (0) ∧ v10 = .int .i64 (1))
  case first =>
    obtain ⟨_, j0a, j0b, j0c, j0d, _⟩ := (KB.tail.head).four
    clear KB
    have ⟨gp0, gq0⟩ := behindB st.lt la1
    go_region_held3 (fun w' => w'.cell? ⟨w.heap.size, 0, none⟩ = some (.int .i64 (h)) ∧ w'.cell? ⟨w.heap.size, 1, none⟩ = some (.int .i64 (m)) ∧ w'.cell? ⟨w.heap.size, 2, none⟩ = some (.int .i64 (s)) ∧ w'.cell? ⟨w.heap.size, 3, none⟩ = some (.int .i64 (n))) (first | (with_reducible exact ⟨(st.k.tail.head).four.2.1, (st.k.tail.head).four.2.2.1, (st.k.tail.head).four.2.2.2.1, (st.k.tail.head).four.2.2.2.2.1⟩) | (with_reducible exact ⟨((st.a4 _).k.tail.head).four.2.1, ((st.a4 _).k.tail.head).four.2.2.1, ((st.a4 _).k.tail.head).four.2.2.2.1, ((st.a4 _).k.tail.head).four.2.2.2.2.1⟩) | (with_reducible exact ⟨(st.drew.k.tail.head).four.2.1, (st.drew.k.tail.head).four.2.2.1, (st.drew.k.tail.head).four.2.2.2.1, (st.drew.k.tail.head).four.2.2.2.2.1⟩) | (with_reducible exact ⟨((st.a4 _).drew.k.tail.head).four.2.1, ((st.a4 _).drew.k.tail.head).four.2.2.1, ((st.a4 _).drew.k.tail.head).four.2.2.2.1, ((st.a4 _).drew.k.tail.head).four.2.2.2.2.1⟩) | go_keep)
      (first
        | (go_at_call 24; (with_reducible refine (O2.out _ (by with_reducible first | exact L.mono st.k.hb | exact L.mono (st.a4 _).k.hb | exact L.mono st.drew.k.hb | exact L.mono (st.a4 _).drew.k.hb)).mono ?_); rintro e x ⟨rfl, k⟩
           with_reducible (first | replace st := st.below k | replace st := (st.a4 _).below k | replace st := st.drew.below k | replace st := (st.a4 _).drew.below k)
           clear k
           obtain ⟨_, k0a, k0b, k0c, k0d, _⟩ := (st.k.tail.head).four
           obtain ⟨gp0, gq0⟩ := behindB st.lt la1
           try obtain ⟨gr0, gs0⟩ := behindB (st.ge _ (List.mem_cons_self ..)) la1
           try obtain ⟨_, ya, yb, yc, yd, za, zb, zc, zd⟩ := (st.al _ (List.mem_cons_self ..)).four)
        | (go_at_call 18; (with_reducible refine (A2.out _ (by with_reducible first | exact L.mono st.k.hb | exact L.mono (st.a4 _).k.hb | exact L.mono st.drew.k.hb | exact L.mono (st.a4 _).drew.k.hb)).mono ?_); rintro e x ⟨rfl, k⟩
           with_reducible (first | replace st := st.below k | replace st := (st.a4 _).below k | replace st := st.drew.below k | replace st := (st.a4 _).drew.below k)
           clear k
           obtain ⟨_, k0a, k0b, k0c, k0d, _⟩ := (st.k.tail.head).four
           obtain ⟨gp0, gq0⟩ := behindB st.lt la1
           try obtain ⟨gr0, gs0⟩ := behindB (st.ge _ (List.mem_cons_self ..)) la1
           try obtain ⟨_, ya, yb, yc, yd, za, zb, zc, zd⟩ := (st.al _ (List.mem_cons_self ..)).four))
    all_goals
      go_wp2_with fail
      go_meet
      refine ⟨⟨_, rfl, ?_⟩, rfl, rfl⟩
      with_reducible first | exact st.p4 _ _ _ _  | exact st.q4 _ _ _ _ _
  case rest =>
  obtain ⟨⟨p, rfl, s0⟩, rfl, rfl⟩ := hcut
  clear st
  have KB := s0.k.cons s0.bg
  have ggp := s0.gg
  have ip0 : p ≠ g := by omega
  have op0 := Ne.symm ip0
  have ip1 : p ≠ w.heap.size := by omega
  have op1 := Ne.symm ip1
  clear s0 la0 la1 ggp
  clear lo
  obtain ⟨_, q0a, q0b, q0c, q0d, _⟩ := (KB.tail.tail.head).four
  go_wp2_with fail
  clear q0a q0b q0c q0d
  refine (RI.out _ (L.mono KB.hb)).mono ?_
  rintro e w1 ⟨rfl, k⟩
  replace KB := KB.below k
  clear k
  go_wp2_with fail
  refine (AL.out _ (L.mono KB.hb)).mono ?_
  rintro e w2 ⟨rfl, k⟩
  replace KB := KB.below k
  clear k
  have HB := KB.hb
  go_wp2
  go_ret
  exact ⟨rfl, HB⟩
set_option maxRecDepth 100000 in
set_option maxHeartbeats 8000000 in
theorem back6_yes (h m s n N c0 c1 d0 d1 e0 e1 y0 y1 y2 y3 k : Int) (_k1 : -1000000 ≤ k) (_k2 : k ≤ 1000000) (O1 : Hid (∀ W, Sizes W → Calls Tryd.prog 24 #[.int .i64 86400000000000] W (fun o w' => o = .returned (.agg #[.int .i64 (c0), .int .u64 (c1)]) ∧ Below W.heap.size W w'))) (A1 : Hid (∀ W, Sizes W → Calls Tryd.prog 18 #[.agg #[.int .i64 (h), .int .i64 (m), .int .i64 (s), .int .i64 (n)], .agg #[.int .i64 (c0), .int .u64 (c1)]] W (fun o w' => o = .returned (.tuple #[.agg #[.int .i64 (h), .int .i64 (m), .int .i64 (s), .int .i64 (n)], .int .i64 (1), .int .i64 (0)]) ∧ Below W.heap.size W w'))) (O2 : Hid (∀ W, Sizes W → Calls Tryd.prog 24 #[.int .i64 N] W (fun o w' => o = .returned (.agg #[.int .i64 (d0), .int .u64 (d1)]) ∧ Below W.heap.size W w'))) (A2 : Hid (∀ W, Sizes W → Calls Tryd.prog 18 #[.agg #[.int .i64 (h), .int .i64 (m), .int .i64 (s), .int .i64 (n)], .agg #[.int .i64 (d0), .int .u64 (d1)]] W (fun o w' => o = .returned (.tuple #[.agg #[.int .i64 (y0), .int .i64 (y1), .int .i64 (y2), .int .i64 (y3)], .int .i64 (k), .int .i64 (0)]) ∧ Below W.heap.size W w'))) (RI : Hid (∀ W, Sizes W → Calls Tryd.prog 15 #[.agg #[.int .i64 (h), .int .i64 (m), .int .i64 (s), .int .i64 (n)]] W (fun o w' => o = .returned (.bool true) ∧ Below W.heap.size W w'))) (NG : Hid (∀ W, Sizes W → Calls Tryd.prog 25 #[.agg #[.int .i64 (d0), .int .u64 (d1)]] W (fun o w' => o = .returned (.tuple #[.agg #[.int .i64 (e0), .int .u64 (e1)], .int .i64 (0)]) ∧ Below W.heap.size W w'))) (A3 : Hid (∀ W, Sizes W → Calls Tryd.prog 18 #[.agg #[.int .i64 (y0), .int .i64 (y1), .int .i64 (y2), .int .i64 (y3)], .agg #[.int .i64 (e0), .int .u64 (e1)]] W (fun o w' => o = .returned (.tuple #[.agg #[.int .i64 (h), .int .i64 (m), .int .i64 (s), .int .i64 (n)], .int .i64 (-k), .int .i64 (0)]) ∧ Below W.heap.size W w'))) (RY : Hid (∀ W, Sizes W → Calls Tryd.prog 15 #[.agg #[.int .i64 (y0), .int .i64 (y1), .int .i64 (y2), .int .i64 (y3)]] W (fun o w' => o = .returned (.bool true) ∧ Below W.heap.size W w'))) (AL : Hid (∀ W, Sizes W → Calls Tryd.prog 14 #[] W (fun o w' => o = .returned (.bool true) ∧ Below W.heap.size W w'))) (w : World) (L : Sizes w) :
    Calls Tryd.prog 7 #[.agg #[.int .i64 (h), .int .i64 (m), .int .i64 (s), .int .i64 (n)], .int .i64 N] w (RetV w (.bool true)) := by
  go_enter Tryd.func7, Tryd.ntmps7
  go_upto_region 1 with (fail)
  have KB := ((BK.nil w).more4 (.int .i64 (h)) (.int .i64 (m)) (.int .i64 (s)) (.int .i64 (n)) 23)
  generalize (w.alloc (.cells #[.int .i64 (h), .int .i64 (m), .int .i64 (s), .int .i64 (n)] 23)) = w0 at *
  obtain ⟨lo, st, hlo⟩ := KB.preB (KB.head).lt [.int .i64 0, .int .i64 0, .int .i64 0, .int .i64 0]
  have la0 : w.heap.size ≤ lo := hlo (w.heap.size, [.int .i64 (h), .int .i64 (m), .int .i64 (s), .int .i64 (n)]) (by simp)
  clear hlo
  go_cut [5, 6, 7] (fun v5 v6 v7 wx => CutOneB lo (BK w [(w.heap.size, [.int .i64 (h), .int .i64 (m), .int .i64 (s), .int .i64 (n)])]) [.int .i64 (h), .int .i64 (m), .int .i64 (s), .int .i64 (n)] v5 wx ∧ v6 = .int .i64 (1) ∧ v7 = .int .i64 (0))
  case first =>
    obtain ⟨_, j0a, j0b, j0c, j0d, _⟩ := (KB.head).four
    clear KB
    have ⟨gp0, gq0⟩ := behindB st.lt la0
    go_region_held3 (fun w' => w'.cell? ⟨w.heap.size, 0, none⟩ = some (.int .i64 (h)) ∧ w'.cell? ⟨w.heap.size, 1, none⟩ = some (.int .i64 (m)) ∧ w'.cell? ⟨w.heap.size, 2, none⟩ = some (.int .i64 (s)) ∧ w'.cell? ⟨w.heap.size, 3, none⟩ = some (.int .i64 (n))) (first | (with_reducible exact ⟨(st.k.head).four.2.1, (st.k.head).four.2.2.1, (st.k.head).four.2.2.2.1, (st.k.head).four.2.2.2.2.1⟩) | (with_reducible exact ⟨((st.a4 _).k.head).four.2.1, ((st.a4 _).k.head).four.2.2.1, ((st.a4 _).k.head).four.2.2.2.1, ((st.a4 _).k.head).four.2.2.2.2.1⟩) | (with_reducible exact ⟨(st.drew.k.head).four.2.1, (st.drew.k.head).four.2.2.1, (st.drew.k.head).four.2.2.2.1, (st.drew.k.head).four.2.2.2.2.1⟩) | (with_reducible exact ⟨((st.a4 _).drew.k.head).four.2.1, ((st.a4 _).drew.k.head).four.2.2.1, ((st.a4 _).drew.k.head).four.2.2.2.1, ((st.a4 _).drew.k.head).four.2.2.2.2.1⟩) | go_keep)
      (first
        | (go_at_call 24; (with_reducible refine (O1.out _ (by with_reducible first | exact L.mono st.k.hb | exact L.mono (st.a4 _).k.hb | exact L.mono st.drew.k.hb | exact L.mono (st.a4 _).drew.k.hb)).mono ?_); rintro e x ⟨rfl, k⟩
           with_reducible (first | replace st := st.below k | replace st := (st.a4 _).below k | replace st := st.drew.below k | replace st := (st.a4 _).drew.below k)
           clear k
           obtain ⟨_, k0a, k0b, k0c, k0d, _⟩ := (st.k.head).four
           obtain ⟨gp0, gq0⟩ := behindB st.lt la0
           try obtain ⟨gr0, gs0⟩ := behindB (st.ge _ (List.mem_cons_self ..)) la0
           try obtain ⟨_, ya, yb, yc, yd, za, zb, zc, zd⟩ := (st.al _ (List.mem_cons_self ..)).four)
        | (go_at_call 18; (with_reducible refine (A1.out _ (by with_reducible first | exact L.mono st.k.hb | exact L.mono (st.a4 _).k.hb | exact L.mono st.drew.k.hb | exact L.mono (st.a4 _).drew.k.hb)).mono ?_); rintro e x ⟨rfl, k⟩
           with_reducible (first | replace st := st.below k | replace st := (st.a4 _).below k | replace st := st.drew.below k | replace st := (st.a4 _).drew.below k)
           clear k
           obtain ⟨_, k0a, k0b, k0c, k0d, _⟩ := (st.k.head).four
           obtain ⟨gp0, gq0⟩ := behindB st.lt la0
           try obtain ⟨gr0, gs0⟩ := behindB (st.ge _ (List.mem_cons_self ..)) la0
           try obtain ⟨_, ya, yb, yc, yd, za, zb, zc, zd⟩ := (st.al _ (List.mem_cons_self ..)).four))
    all_goals
      go_wp2_with fail
      go_meet
      refine ⟨⟨_, rfl, ?_⟩, rfl, rfl⟩
      with_reducible first | exact st.p4 _ _ _ _  | exact st.q4 _ _ _ _ _
  case rest =>
  obtain ⟨⟨g, rfl, s0⟩, rfl, rfl⟩ := hcut
  clear st
  have KB := s0.k.cons s0.bg
  have ggg := s0.gg
  have ig0 : g ≠ w.heap.size := by omega
  have og0 := Ne.symm ig0
  clear s0 la0 ggg
  clear lo
  go_wp2_with fail
  obtain ⟨lo, st, hlo⟩ := KB.preB (KB.tail.head).lt [.int .i64 0, .int .i64 0, .int .i64 0, .int .i64 0]
  have la0 : g ≤ lo := hlo (g, [.int .i64 (h), .int .i64 (m), .int .i64 (s), .int .i64 (n)]) (by simp)
  have la1 : w.heap.size ≤ lo := hlo (w.heap.size, [.int .i64 (h), .int .i64 (m), .int .i64 (s), .int .i64 (n)]) (by simp)
  clear hlo
  go_cut [8, 9, 10] (fun v8 v9 v10 wx => CutOneB lo (BK w [(g, [.int .i64 (h), .int .i64 (m), .int .i64 (s), .int .i64 (n)]), (w.heap.size, [.int .i64 (h), .int .i64 (m), .int .i64 (s), .int .i64 (n)])]) [.int .i64 (y0), .int .i64 (y1), .int .i64 (y2), .int .i64 (y3)] v8 wx ∧ v9 = .int .i64 (k) ∧ v10 = .int .i64 (0))
  case first =>
    obtain ⟨_, j0a, j0b, j0c, j0d, _⟩ := (KB.tail.head).four
    clear KB
    have ⟨gp0, gq0⟩ := behindB st.lt la1
    go_region_held3 (fun w' => w'.cell? ⟨w.heap.size, 0, none⟩ = some (.int .i64 (h)) ∧ w'.cell? ⟨w.heap.size, 1, none⟩ = some (.int .i64 (m)) ∧ w'.cell? ⟨w.heap.size, 2, none⟩ = some (.int .i64 (s)) ∧ w'.cell? ⟨w.heap.size, 3, none⟩ = some (.int .i64 (n))) (first | (with_reducible exact ⟨(st.k.tail.head).four.2.1, (st.k.tail.head).four.2.2.1, (st.k.tail.head).four.2.2.2.1, (st.k.tail.head).four.2.2.2.2.1⟩) | (with_reducible exact ⟨((st.a4 _).k.tail.head).four.2.1, ((st.a4 _).k.tail.head).four.2.2.1, ((st.a4 _).k.tail.head).four.2.2.2.1, ((st.a4 _).k.tail.head).four.2.2.2.2.1⟩) | (with_reducible exact ⟨(st.drew.k.tail.head).four.2.1, (st.drew.k.tail.head).four.2.2.1, (st.drew.k.tail.head).four.2.2.2.1, (st.drew.k.tail.head).four.2.2.2.2.1⟩) | (with_reducible exact ⟨((st.a4 _).drew.k.tail.head).four.2.1, ((st.a4 _).drew.k.tail.head).four.2.2.1, ((st.a4 _).drew.k.tail.head).four.2.2.2.1, ((st.a4 _).drew.k.tail.head).four.2.2.2.2.1⟩) | go_keep)
      (first
        | (go_at_call 24; (with_reducible refine (O2.out _ (by with_reducible first | exact L.mono st.k.hb | exact L.mono (st.a4 _).k.hb | exact L.mono st.drew.k.hb | exact L.mono (st.a4 _).drew.k.hb)).mono ?_); rintro e x ⟨rfl, k⟩
           with_reducible (first | replace st := st.below k | replace st := (st.a4 _).below k | replace st := st.drew.below k | replace st := (st.a4 _).drew.below k)
           clear k
           obtain ⟨_, k0a, k0b, k0c, k0d, _⟩ := (st.k.tail.head).four
           obtain ⟨gp0, gq0⟩ := behindB st.lt la1
           try obtain ⟨gr0, gs0⟩ := behindB (st.ge _ (List.mem_cons_self ..)) la1
           try obtain ⟨_, ya, yb, yc, yd, za, zb, zc, zd⟩ := (st.al _ (List.mem_cons_self ..)).four)
        | (go_at_call 18; (with_reducible refine (A2.out _ (by with_reducible first | exact L.mono st.k.hb | exact L.mono (st.a4 _).k.hb | exact L.mono st.drew.k.hb | exact L.mono (st.a4 _).drew.k.hb)).mono ?_); rintro e x ⟨rfl, k⟩
           with_reducible (first | replace st := st.below k | replace st := (st.a4 _).below k | replace st := st.drew.below k | replace st := (st.a4 _).drew.below k)
           clear k
           obtain ⟨_, k0a, k0b, k0c, k0d, _⟩ := (st.k.tail.head).four
           obtain ⟨gp0, gq0⟩ := behindB st.lt la1
           try obtain ⟨gr0, gs0⟩ := behindB (st.ge _ (List.mem_cons_self ..)) la1
           try obtain ⟨_, ya, yb, yc, yd, za, zb, zc, zd⟩ := (st.al _ (List.mem_cons_self ..)).four))
    all_goals
      go_wp2_with fail
      go_meet
      refine ⟨⟨_, rfl, ?_⟩, rfl, rfl⟩
      with_reducible first | exact st.p4 _ _ _ _  | exact st.q4 _ _ _ _ _
  case rest =>
  obtain ⟨⟨p, rfl, s0⟩, rfl, rfl⟩ := hcut
  clear st
  have KB := s0.k.cons s0.bg
  have ggp := s0.gg
  have ip0 : p ≠ g := by omega
  have op0 := Ne.symm ip0
  have ip1 : p ≠ w.heap.size := by omega
  have op1 := Ne.symm ip1
  clear s0 la0 la1 ggp
  clear lo
  obtain ⟨_, q0a, q0b, q0c, q0d, _⟩ := (KB.tail.tail.head).four
  go_wp2_with fail
  clear q0a q0b q0c q0d
  refine (RI.out _ (L.mono KB.hb)).mono ?_
  rintro e w1 ⟨rfl, k⟩
  replace KB := KB.below k
  clear k
  obtain ⟨_, q0a, q0b, q0c, q0d, _⟩ := (KB.tail.head).four
  obtain ⟨_, q1a, q1b, q1c, q1d, _⟩ := (KB.tail.tail.head).four
  go_wp2_with fail
  clear q0a q0b q0c q0d q1a q1b q1c q1d
  refine (O2.out _ (L.mono KB.hb)).mono ?_
  rintro e w2 ⟨rfl, k⟩
  replace KB := KB.below k
  clear k
  go_wp2_with fail
  refine (NG.out _ (L.mono KB.hb)).mono ?_
  rintro e w3 ⟨rfl, k⟩
  replace KB := KB.below k
  clear k
  go_upto_region 8 with (fail)
  have if0 : w3.heap.size ≠ p := Nat.ne_of_gt (KB.head).lt
  have of0 := Ne.symm if0
  have if1 : w3.heap.size ≠ g := Nat.ne_of_gt (KB.tail.head).lt
  have of1 := Ne.symm if1
  have if2 : w3.heap.size ≠ w.heap.size := Nat.ne_of_gt (KB.tail.tail.head).lt
  have of2 := Ne.symm if2
  have ggf : w.heap.size ≤ w3.heap.size := KB.hb.size
  replace KB := KB.more2 (.int .i64 (e0)) (.int .u64 (e1)) 42
  generalize w3.alloc (.cells #[.int .i64 (e0), .int .u64 (e1)] 42) = w4 at *
  generalize w3.heap.size = f at *
  obtain ⟨_, q0a, q0b, q0c, q0d, _⟩ := (KB.tail.head).four
  obtain ⟨_, q1a, q1b, _⟩ := (KB.head).two
  go_wp2_with fail
  clear q0a q0b q0c q0d q1a q1b
  refine (A3.out _ (L.mono KB.hb)).mono ?_
  rintro e w5 ⟨rfl, k⟩
  replace KB := KB.below k
  clear k
  go_upto_region 9 with (fail)
  have ir0 : w5.heap.size ≠ f := Nat.ne_of_gt (KB.head).lt
  have or0 := Ne.symm ir0
  have ir1 : w5.heap.size ≠ p := Nat.ne_of_gt (KB.tail.head).lt
  have or1 := Ne.symm ir1
  have ir2 : w5.heap.size ≠ g := Nat.ne_of_gt (KB.tail.tail.head).lt
  have or2 := Ne.symm ir2
  have ir3 : w5.heap.size ≠ w.heap.size := Nat.ne_of_gt (KB.tail.tail.tail.head).lt
  have or3 := Ne.symm ir3
  have ggr : w.heap.size ≤ w5.heap.size := KB.hb.size
  replace KB := KB.more4 (.int .i64 (h)) (.int .i64 (m)) (.int .i64 (s)) (.int .i64 (n)) 23
  generalize w5.alloc (.cells #[.int .i64 (h), .int .i64 (m), .int .i64 (s), .int .i64 (n)] 23) = w6 at *
  generalize w5.heap.size = r at *
  go_wp2_with fail
  refine (AL.out _ (L.mono KB.hb)).mono ?_
  rintro e w7 ⟨rfl, k⟩
  replace KB := KB.below k
  clear k
  obtain ⟨_, q0a, q0b, q0c, q0d, _⟩ := (KB.head).four
  obtain ⟨_, q1a, q1b, q1c, q1d, _⟩ := (KB.tail.tail.tail.tail.head).four
  obtain ⟨_, q2a, q2b, q2c, q2d, _⟩ := (KB.tail.tail.head).four
  go_wp2_with fail
  clear q0a q0b q0c q0d q1a q1b q1c q1d q2a q2b q2c q2d
  refine (RY.out _ (L.mono KB.hb)).mono ?_
  rintro e w8 ⟨rfl, k⟩
  replace KB := KB.below k
  clear k
  have HB := KB.hb
  go_wp2
  go_ret
  exact ⟨rfl, HB⟩
theorem clockBack_walk (C : ClockP) (h m s n N : Int) (i1 : In64 h) (i2 : In64 m) (i3 : In64 s) (i4 : In64 n) (i5 : In64 N) (w : World) (L : Sizes w) : Calls Tryd.prog 7 #[.agg #[.int .i64 (h), .int .i64 (m), .int .i64 (s), .int .i64 (n)], .int .i64 N] w (RetV w (.bool true)) := by
  have AL := Lib.hid fun W l => alive6 C W l
  have dw : InW 86400000000000 := inW_of_64 (by decide)
  have nw : InW N := inW_of_64 i5
  have mw : InW (-N) := by unfold In64 at i5; unfold InW two127; omega
  have O1 := Lib.hid fun (W : World) (_ : Sizes W) => wideOf 86400000000000 (by decide) W
  have O2 := Lib.hid fun (W : World) (_ : Sizes W) => wideOf N i5 W
  have RI := fun W l => C.right h m s n i1 i2 i3 i4 W l
  by_cases k : okT h m s n
  · rw [decide_eq_true k] at RI
    have r := numT_range k
    obtain ⟨y0, y1, y2, y3, hy, e⟩ := time_of (n := (numT h m s n + N) % 86400000000000) (by omega) (by omega)
    have q : In64 ((numT h m s n + N) / 86400000000000) := by unfold In64 at *; omega
    have RY := fun W l => C.right y0 y1 y2 y3 (by have := hy.1; unfold In64; omega) (by have := hy.2.1; unfold In64; omega) (by have := hy.2.2.1; unfold In64; omega) (by have := hy.2.2.2; unfold In64; omega) W l
    rw [decide_eq_true hy] at RY
    have A1 := fun W l => C.add_yes h m s n 86400000000000 h m s n k dw (by unfold In64; omega) k (by omega) W l
    rw [show (numT h m s n + 86400000000000) / 86400000000000 = 1 by omega] at A1
    have A3 := fun W l => C.add_yes y0 y1 y2 y3 (-N) h m s n hy mw (by rw [e]; unfold In64 at *; omega) k (by rw [e]; omega) W l
    rw [show (numT y0 y1 y2 y3 + -N) / 86400000000000 = -((numT h m s n + N) / 86400000000000) by rw [e]; omega] at A3
    have NG := Lib.hid fun (W : World) (_ : Sizes W) => wideNeg_ret N nw mw W
    exact back6_yes h m s n N _ _ _ _ _ _ y0 y1 y2 y3 _ (by unfold In64 at i5; omega) (by unfold In64 at i5; omega) O1 (Lib.hid A1) O2 (Lib.hid fun W l => C.add_yes h m s n N y0 y1 y2 y3 k nw q hy e W l) (Lib.hid RI) NG (Lib.hid A3) (Lib.hid RY) AL w L
  · rw [decide_eq_false k] at RI
    exact back6_no h m s n N _ _ _ _ O1 (Lib.hid fun W l => C.add_bad h m s n _ i1 i2 i3 i4 dw k W l) O2 (Lib.hid fun W l => C.add_bad h m s n _ i1 i2 i3 i4 nw k W l) (Lib.hid RI) AL w L
end Go.Proofs.YteggdabnhdjfcaaDoor
