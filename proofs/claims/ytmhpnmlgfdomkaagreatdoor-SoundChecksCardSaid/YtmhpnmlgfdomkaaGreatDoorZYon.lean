/- Package moment: the day, and the moment, at which a spot falls in a year. -/
import Derived.Test.YtmhpnmlgfdomkaaGreatDoorZYsht
import Derived.Test.YtmhpnmlgfdomkaaGreatDoorZGl
import Derived.Test.YtmhpnmlgfdomkaaGreatDoorZGzon
import Derived.Test.YtmhpnmlgfdomkaaGreatDoorZUon
set_option maxRecDepth 100000
set_option maxHeartbeats 64000000
namespace Go.Proofs.YtmhpnmlgfdomkaaGreatDoor
open Go.RowKit
theorem onM_r (mo ki wd da ti re y : Int) (RI : Hid (∀ W, Lens W → Calls Tryz.prog 51 #[.agg #[.int .i64 (mo), .int .i64 (ki), .int .i64 (wd), .int .i64 (da), .int .i64 (ti), .int .i64 (re)]] W (fun o w' => o = .returned (.bool false) ∧ Below W.heap.size W w'))) (w : World) (L : Lens w) : Calls Tryz.prog 145 #[.agg #[.int .i64 (mo), .int .i64 (ki), .int .i64 (wd), .int .i64 (da), .int .i64 (ti), .int .i64 (re)], .int .i64 (y)] w (RetNumB w 0 false) := by
  go_enter Tryz.func145, Tryz.ntmps145
  go_wp2_with fail
  have KB := ((BK.nil w).more6 (.int .i64 (mo)) (.int .i64 (ki)) (.int .i64 (wd)) (.int .i64 (da)) (.int .i64 (ti)) (.int .i64 (re)) 34)
  generalize (w.alloc (.cells #[.int .i64 (mo), .int .i64 (ki), .int .i64 (wd), .int .i64 (da), .int .i64 (ti), .int .i64 (re)] 34)) = w0 at *
  refine (RI.out _ (L.mono KB.hb)).mono ?_
  rintro e w1 ⟨rfl, k⟩
  replace KB := KB.below k
  clear k
  have HB := KB.hb
  go_wp2
  go_ret2
  exact ⟨rfl, HB⟩
theorem onM_y (mo ki wd da ti re y : Int) (hy : y < 1) (RI : Hid (∀ W, Lens W → Calls Tryz.prog 51 #[.agg #[.int .i64 (mo), .int .i64 (ki), .int .i64 (wd), .int .i64 (da), .int .i64 (ti), .int .i64 (re)]] W (fun o w' => o = .returned (.bool true) ∧ Below W.heap.size W w'))) (w : World) (L : Lens w) : Calls Tryz.prog 145 #[.agg #[.int .i64 (mo), .int .i64 (ki), .int .i64 (wd), .int .i64 (da), .int .i64 (ti), .int .i64 (re)], .int .i64 (y)] w (RetNumB w 0 false) := by
  go_enter Tryz.func145, Tryz.ntmps145
  go_wp2_with fail
  have KB := ((BK.nil w).more6 (.int .i64 (mo)) (.int .i64 (ki)) (.int .i64 (wd)) (.int .i64 (da)) (.int .i64 (ti)) (.int .i64 (re)) 34)
  generalize (w.alloc (.cells #[.int .i64 (mo), .int .i64 (ki), .int .i64 (wd), .int .i64 (da), .int .i64 (ti), .int .i64 (re)] 34)) = w0 at *
  refine (RI.out _ (L.mono KB.hb)).mono ?_
  rintro e w1 ⟨rfl, k⟩
  replace KB := KB.below k
  clear k
  have y1 : decide (y < 1) = true := decide_eq_true hy
  clear hy
  have HB := KB.hb
  go_wp2
  go_ret2
  exact ⟨rfl, HB⟩
theorem onM_f (mo ki wd da ti re y : Int) (_hy : 1 ≤ y) (RI : Hid (∀ W, Lens W → Calls Tryz.prog 51 #[.agg #[.int .i64 (mo), .int .i64 (ki), .int .i64 (wd), .int .i64 (da), .int .i64 (ti), .int .i64 (re)]] W (fun o w' => o = .returned (.bool true) ∧ Below W.heap.size W w'))) (DA : Hid (∀ W, Lens W → Calls Tryz.prog 153 #[.agg #[.int .i64 (y), .int .i64 (mo), .int .i64 (1)]] W (fun o w' => o = .returned (.tuple #[.int .i64 (0), .bool false]) ∧ Below W.heap.size W w'))) (w : World) (L : Lens w) : Calls Tryz.prog 145 #[.agg #[.int .i64 (mo), .int .i64 (ki), .int .i64 (wd), .int .i64 (da), .int .i64 (ti), .int .i64 (re)], .int .i64 (y)] w (RetNumB w 0 false) := by
  go_enter Tryz.func145, Tryz.ntmps145
  go_wp2_with fail
  have KB := ((BK.nil w).more6 (.int .i64 (mo)) (.int .i64 (ki)) (.int .i64 (wd)) (.int .i64 (da)) (.int .i64 (ti)) (.int .i64 (re)) 34)
  generalize (w.alloc (.cells #[.int .i64 (mo), .int .i64 (ki), .int .i64 (wd), .int .i64 (da), .int .i64 (ti), .int .i64 (re)] 34)) = w0 at *
  refine (RI.out _ (L.mono KB.hb)).mono ?_
  rintro e w1 ⟨rfl, k⟩
  replace KB := KB.below k
  clear k
  have y1 : decide (y < 1) = false := decide_eq_false (by omega)
  obtain ⟨_, q0a, q0b, q0c, q0d, q0e, q0f, _⟩ := (KB.head).six
  go_upto_region 4 with (fail)
  clear q0a q0b q0c q0d q0e q0f
  have if0 : w1.heap.size ≠ w.heap.size := Nat.ne_of_gt (KB.head).lt
  have of0 := Ne.symm if0
  have ggf : w.heap.size ≤ w1.heap.size := KB.hb.size
  replace KB := KB.more3 (.int .i64 (y)) (.int .i64 (mo)) (.int .i64 (1)) 144
  generalize w1.alloc (.cells #[.int .i64 (y), .int .i64 (mo), .int .i64 (1)] 144) = w2 at *
  generalize w1.heap.size = f at *
  obtain ⟨_, q0a, q0b, q0c, _⟩ := (KB.head).three
  go_wp2_with fail
  clear q0a q0b q0c
  refine (DA.out _ (L.mono KB.hb)).mono ?_
  rintro e w3 ⟨rfl, k⟩
  replace KB := KB.below k
  clear k
  have HB := KB.hb
  go_wp2
  go_ret2
  exact ⟨rfl, HB⟩
theorem onM_no (mo ki wd da ti re y : Int) (_hy : 1 ≤ y) (n : Int) (_n1 : -100000001 ≤ n) (_n2 : n ≤ 100000000) (mw ml d : Int) (_d1 : -100 ≤ d) (_d2 : d ≤ 100) (RI : Hid (∀ W, Lens W → Calls Tryz.prog 51 #[.agg #[.int .i64 (mo), .int .i64 (ki), .int .i64 (wd), .int .i64 (da), .int .i64 (ti), .int .i64 (re)]] W (fun o w' => o = .returned (.bool true) ∧ Below W.heap.size W w'))) (DA : Hid (∀ W, Lens W → Calls Tryz.prog 153 #[.agg #[.int .i64 (y), .int .i64 (mo), .int .i64 (1)]] W (fun o w' => o = .returned (.tuple #[.int .i64 (n), .bool true]) ∧ Below W.heap.size W w'))) (WD : Hid (∀ W, Lens W → Calls Tryz.prog 154 #[.agg #[.int .i64 (y), .int .i64 (mo), .int .i64 (1)]] W (fun o w' => o = .returned (.int .i64 (mw)) ∧ Below W.heap.size W w'))) (ML : Hid (∀ W, Lens W → Calls Tryz.prog 155 #[.int .i64 (y), .int .i64 (mo)] W (fun o w' => o = .returned (.int .i64 (ml)) ∧ Below W.heap.size W w'))) (DY : Hid (∀ W, Lens W → Calls Tryz.prog 156 #[.agg #[.int .i64 (mw), .int .i64 (ml)], .agg #[.int .i64 (mo), .int .i64 (ki), .int .i64 (wd), .int .i64 (da), .int .i64 (ti), .int .i64 (re)]] W (fun o w' => o = .returned (.int .i64 (d)) ∧ Below W.heap.size W w'))) (OF : Hid (∀ W, Lens W → Calls Tryz.prog 157 #[.int .i64 (n + (d - 1))] W (fun o w' => o = .returned (.tuple #[.agg #[.int .i64 (0), .int .i64 (0), .int .i64 (0)], .bool false]) ∧ Below W.heap.size W w'))) (w : World) (L : Lens w) : Calls Tryz.prog 145 #[.agg #[.int .i64 (mo), .int .i64 (ki), .int .i64 (wd), .int .i64 (da), .int .i64 (ti), .int .i64 (re)], .int .i64 (y)] w (RetNumB w 0 false) := by
  go_enter Tryz.func145, Tryz.ntmps145
  go_wp2_with fail
  have KB := ((BK.nil w).more6 (.int .i64 (mo)) (.int .i64 (ki)) (.int .i64 (wd)) (.int .i64 (da)) (.int .i64 (ti)) (.int .i64 (re)) 34)
  generalize (w.alloc (.cells #[.int .i64 (mo), .int .i64 (ki), .int .i64 (wd), .int .i64 (da), .int .i64 (ti), .int .i64 (re)] 34)) = w0 at *
  refine (RI.out _ (L.mono KB.hb)).mono ?_
  rintro e w1 ⟨rfl, k⟩
  replace KB := KB.below k
  clear k
  have y1 : decide (y < 1) = false := decide_eq_false (by omega)
  obtain ⟨_, q0a, q0b, q0c, q0d, q0e, q0f, _⟩ := (KB.head).six
  go_upto_region 4 with (fail)
  clear q0a q0b q0c q0d q0e q0f
  have if0 : w1.heap.size ≠ w.heap.size := Nat.ne_of_gt (KB.head).lt
  have of0 := Ne.symm if0
  have ggf : w.heap.size ≤ w1.heap.size := KB.hb.size
  replace KB := KB.more3 (.int .i64 (y)) (.int .i64 (mo)) (.int .i64 (1)) 144
  generalize w1.alloc (.cells #[.int .i64 (y), .int .i64 (mo), .int .i64 (1)] 144) = w2 at *
  generalize w1.heap.size = f at *
  obtain ⟨_, q0a, q0b, q0c, _⟩ := (KB.head).three
  go_wp2_with fail
  clear q0a q0b q0c
  refine (DA.out _ (L.mono KB.hb)).mono ?_
  rintro e w3 ⟨rfl, k⟩
  replace KB := KB.below k
  clear k
  go_wp2_with fail
  obtain ⟨lo, st, hlo⟩ := KB.preB (KB.tail.head).lt [.int .i64 (0), .int .i64 (0)]
  have la0 : f ≤ lo := hlo (f, [.int .i64 (y), .int .i64 (mo), .int .i64 (1)]) (by simp)
  have la1 : w.heap.size ≤ lo := hlo (w.heap.size, [.int .i64 (mo), .int .i64 (ki), .int .i64 (wd), .int .i64 (da), .int .i64 (ti), .int .i64 (re)]) (by simp)
  clear hlo
  go_cut [9] (fun v9 wx => CutOneB lo (BK w [(f, [.int .i64 (y), .int .i64 (mo), .int .i64 (1)]), (w.heap.size, [.int .i64 (mo), .int .i64 (ki), .int .i64 (wd), .int .i64 (da), .int .i64 (ti), .int .i64 (re)])]) [.int .i64 (mw), .int .i64 (ml)] v9 wx)
  case first =>
    obtain ⟨_, j0a, j0b, j0c, _⟩ := (KB.head).three
    obtain ⟨_, j1a, j1b, j1c, j1d, j1e, j1f, _⟩ := (KB.tail.head).six
    clear KB
    have ⟨gp0, gq0⟩ := behindB st.lt la0
    have ⟨gp1, gq1⟩ := behindB st.lt la1
    go_region_held3 (fun w' => w'.cell? ⟨f, 0, none⟩ = some (.int .i64 (y)) ∧ w'.cell? ⟨f, 1, none⟩ = some (.int .i64 (mo)) ∧ w'.cell? ⟨f, 2, none⟩ = some (.int .i64 (1)) ∧ w'.cell? ⟨w.heap.size, 0, none⟩ = some (.int .i64 (mo)) ∧ w'.cell? ⟨w.heap.size, 1, none⟩ = some (.int .i64 (ki)) ∧ w'.cell? ⟨w.heap.size, 2, none⟩ = some (.int .i64 (wd)) ∧ w'.cell? ⟨w.heap.size, 3, none⟩ = some (.int .i64 (da)) ∧ w'.cell? ⟨w.heap.size, 4, none⟩ = some (.int .i64 (ti)) ∧ w'.cell? ⟨w.heap.size, 5, none⟩ = some (.int .i64 (re))) (first | (with_reducible exact ⟨(st.k.head).three.2.1, (st.k.head).three.2.2.1, (st.k.head).three.2.2.2.1, (st.k.tail.head).six.2.1, (st.k.tail.head).six.2.2.1, (st.k.tail.head).six.2.2.2.1, (st.k.tail.head).six.2.2.2.2.1, (st.k.tail.head).six.2.2.2.2.2.1, (st.k.tail.head).six.2.2.2.2.2.2.1⟩) | (with_reducible exact ⟨((st.a2 _).k.head).three.2.1, ((st.a2 _).k.head).three.2.2.1, ((st.a2 _).k.head).three.2.2.2.1, ((st.a2 _).k.tail.head).six.2.1, ((st.a2 _).k.tail.head).six.2.2.1, ((st.a2 _).k.tail.head).six.2.2.2.1, ((st.a2 _).k.tail.head).six.2.2.2.2.1, ((st.a2 _).k.tail.head).six.2.2.2.2.2.1, ((st.a2 _).k.tail.head).six.2.2.2.2.2.2.1⟩) | (with_reducible exact ⟨(st.drew.k.head).three.2.1, (st.drew.k.head).three.2.2.1, (st.drew.k.head).three.2.2.2.1, (st.drew.k.tail.head).six.2.1, (st.drew.k.tail.head).six.2.2.1, (st.drew.k.tail.head).six.2.2.2.1, (st.drew.k.tail.head).six.2.2.2.2.1, (st.drew.k.tail.head).six.2.2.2.2.2.1, (st.drew.k.tail.head).six.2.2.2.2.2.2.1⟩) | (with_reducible exact ⟨((st.a2 _).drew.k.head).three.2.1, ((st.a2 _).drew.k.head).three.2.2.1, ((st.a2 _).drew.k.head).three.2.2.2.1, ((st.a2 _).drew.k.tail.head).six.2.1, ((st.a2 _).drew.k.tail.head).six.2.2.1, ((st.a2 _).drew.k.tail.head).six.2.2.2.1, ((st.a2 _).drew.k.tail.head).six.2.2.2.2.1, ((st.a2 _).drew.k.tail.head).six.2.2.2.2.2.1, ((st.a2 _).drew.k.tail.head).six.2.2.2.2.2.2.1⟩) | go_keep)
      (first
        | (go_at_call 154; (with_reducible refine (WD.out _ (by with_reducible first | exact L.mono st.k.hb | exact L.mono (st.a2 _).k.hb | exact L.mono st.drew.k.hb | exact L.mono (st.a2 _).drew.k.hb)).mono ?_); rintro e x ⟨rfl, k⟩
           with_reducible (first | replace st := st.below k | replace st := (st.a2 _).below k | replace st := st.drew.below k | replace st := (st.a2 _).drew.below k)
           clear k
           obtain ⟨_, k0a, k0b, k0c, _⟩ := (st.k.head).three
           obtain ⟨_, k1a, k1b, k1c, k1d, k1e, k1f, _⟩ := (st.k.tail.head).six
           obtain ⟨gp0, gq0⟩ := behindB st.lt la0
           try obtain ⟨gr0, gs0⟩ := behindB (st.ge _ (List.mem_cons_self ..)) la0
           obtain ⟨gp1, gq1⟩ := behindB st.lt la1
           try obtain ⟨gr1, gs1⟩ := behindB (st.ge _ (List.mem_cons_self ..)) la1
           try obtain ⟨_, ya, yb, _⟩ := ((st.al _ (List.mem_cons_self ..))).two)
        | (go_at_call 155; (with_reducible refine (ML.out _ (by with_reducible first | exact L.mono st.k.hb | exact L.mono (st.a2 _).k.hb | exact L.mono st.drew.k.hb | exact L.mono (st.a2 _).drew.k.hb)).mono ?_); rintro e x ⟨rfl, k⟩
           with_reducible (first | replace st := st.below k | replace st := (st.a2 _).below k | replace st := st.drew.below k | replace st := (st.a2 _).drew.below k)
           clear k
           obtain ⟨_, k0a, k0b, k0c, _⟩ := (st.k.head).three
           obtain ⟨_, k1a, k1b, k1c, k1d, k1e, k1f, _⟩ := (st.k.tail.head).six
           obtain ⟨gp0, gq0⟩ := behindB st.lt la0
           try obtain ⟨gr0, gs0⟩ := behindB (st.ge _ (List.mem_cons_self ..)) la0
           obtain ⟨gp1, gq1⟩ := behindB st.lt la1
           try obtain ⟨gr1, gs1⟩ := behindB (st.ge _ (List.mem_cons_self ..)) la1
           try obtain ⟨_, ya, yb, _⟩ := ((st.al _ (List.mem_cons_self ..))).two))
    all_goals
      go_wp2_with fail
      go_meet
      refine ⟨_, rfl, ?_⟩
      with_reducible first | exact st.p2 _ _  | exact st.q2 _ _ _
  case rest =>
  obtain ⟨t, rfl, s0⟩ := hcut
  clear st
  have KB := s0.k.cons s0.bg
  have ggt := s0.gg
  have it0 : t ≠ f := by omega
  have ot0 := Ne.symm it0
  have it1 : t ≠ w.heap.size := by omega
  have ot1 := Ne.symm it1
  clear s0 la0 la1 ggt
  clear lo
  obtain ⟨_, q0a, q0b, _⟩ := (KB.head).two
  obtain ⟨_, q1a, q1b, q1c, q1d, q1e, q1f, _⟩ := (KB.tail.tail.head).six
  go_wp2_with fail
  clear q0a q0b q1a q1b q1c q1d q1e q1f
  refine (DY.out _ (L.mono KB.hb)).mono ?_
  rintro e w4 ⟨rfl, k⟩
  replace KB := KB.below k
  clear k
  go_wp2_with fail
  refine (OF.out _ (L.mono KB.hb)).mono ?_
  rintro e w5 ⟨rfl, k⟩
  replace KB := KB.below k
  clear k
  go_upto_region 10 with (fail)
  have iq0 : w5.heap.size ≠ t := Nat.ne_of_gt (KB.head).lt
  have oq0 := Ne.symm iq0
  have iq1 : w5.heap.size ≠ f := Nat.ne_of_gt (KB.tail.head).lt
  have oq1 := Ne.symm iq1
  have iq2 : w5.heap.size ≠ w.heap.size := Nat.ne_of_gt (KB.tail.tail.head).lt
  have oq2 := Ne.symm iq2
  have ggq : w.heap.size ≤ w5.heap.size := KB.hb.size
  replace KB := KB.more3 (.int .i64 (0)) (.int .i64 (0)) (.int .i64 (0)) 144
  generalize w5.alloc (.cells #[.int .i64 (0), .int .i64 (0), .int .i64 (0)] 144) = w6 at *
  generalize w5.heap.size = q at *
  have HB := KB.hb
  go_wp2
  go_ret2
  exact ⟨rfl, HB⟩
theorem onM_yes (mo ki wd da ti re y : Int) (_hy : 1 ≤ y) (n : Int) (_n1 : -100000001 ≤ n) (_n2 : n ≤ 100000000) (mw ml d : Int) (_d1 : -100 ≤ d) (_d2 : d ≤ 100) (a b c : Int) (RI : Hid (∀ W, Lens W → Calls Tryz.prog 51 #[.agg #[.int .i64 (mo), .int .i64 (ki), .int .i64 (wd), .int .i64 (da), .int .i64 (ti), .int .i64 (re)]] W (fun o w' => o = .returned (.bool true) ∧ Below W.heap.size W w'))) (DA : Hid (∀ W, Lens W → Calls Tryz.prog 153 #[.agg #[.int .i64 (y), .int .i64 (mo), .int .i64 (1)]] W (fun o w' => o = .returned (.tuple #[.int .i64 (n), .bool true]) ∧ Below W.heap.size W w'))) (WD : Hid (∀ W, Lens W → Calls Tryz.prog 154 #[.agg #[.int .i64 (y), .int .i64 (mo), .int .i64 (1)]] W (fun o w' => o = .returned (.int .i64 (mw)) ∧ Below W.heap.size W w'))) (ML : Hid (∀ W, Lens W → Calls Tryz.prog 155 #[.int .i64 (y), .int .i64 (mo)] W (fun o w' => o = .returned (.int .i64 (ml)) ∧ Below W.heap.size W w'))) (DY : Hid (∀ W, Lens W → Calls Tryz.prog 156 #[.agg #[.int .i64 (mw), .int .i64 (ml)], .agg #[.int .i64 (mo), .int .i64 (ki), .int .i64 (wd), .int .i64 (da), .int .i64 (ti), .int .i64 (re)]] W (fun o w' => o = .returned (.int .i64 (d)) ∧ Below W.heap.size W w'))) (OF : Hid (∀ W, Lens W → Calls Tryz.prog 157 #[.int .i64 (n + (d - 1))] W (fun o w' => o = .returned (.tuple #[.agg #[.int .i64 (a), .int .i64 (b), .int .i64 (c)], .bool true]) ∧ Below W.heap.size W w'))) (w : World) (L : Lens w) : Calls Tryz.prog 145 #[.agg #[.int .i64 (mo), .int .i64 (ki), .int .i64 (wd), .int .i64 (da), .int .i64 (ti), .int .i64 (re)], .int .i64 (y)] w (RetNumB w (n + (d - 1)) true) := by
  go_enter Tryz.func145, Tryz.ntmps145
  go_wp2_with fail
  have KB := ((BK.nil w).more6 (.int .i64 (mo)) (.int .i64 (ki)) (.int .i64 (wd)) (.int .i64 (da)) (.int .i64 (ti)) (.int .i64 (re)) 34)
  generalize (w.alloc (.cells #[.int .i64 (mo), .int .i64 (ki), .int .i64 (wd), .int .i64 (da), .int .i64 (ti), .int .i64 (re)] 34)) = w0 at *
  refine (RI.out _ (L.mono KB.hb)).mono ?_
  rintro e w1 ⟨rfl, k⟩
  replace KB := KB.below k
  clear k
  have y1 : decide (y < 1) = false := decide_eq_false (by omega)
  obtain ⟨_, q0a, q0b, q0c, q0d, q0e, q0f, _⟩ := (KB.head).six
  go_upto_region 4 with (fail)
  clear q0a q0b q0c q0d q0e q0f
  have if0 : w1.heap.size ≠ w.heap.size := Nat.ne_of_gt (KB.head).lt
  have of0 := Ne.symm if0
  have ggf : w.heap.size ≤ w1.heap.size := KB.hb.size
  replace KB := KB.more3 (.int .i64 (y)) (.int .i64 (mo)) (.int .i64 (1)) 144
  generalize w1.alloc (.cells #[.int .i64 (y), .int .i64 (mo), .int .i64 (1)] 144) = w2 at *
  generalize w1.heap.size = f at *
  obtain ⟨_, q0a, q0b, q0c, _⟩ := (KB.head).three
  go_wp2_with fail
  clear q0a q0b q0c
  refine (DA.out _ (L.mono KB.hb)).mono ?_
  rintro e w3 ⟨rfl, k⟩
  replace KB := KB.below k
  clear k
  go_wp2_with fail
  obtain ⟨lo, st, hlo⟩ := KB.preB (KB.tail.head).lt [.int .i64 (0), .int .i64 (0)]
  have la0 : f ≤ lo := hlo (f, [.int .i64 (y), .int .i64 (mo), .int .i64 (1)]) (by simp)
  have la1 : w.heap.size ≤ lo := hlo (w.heap.size, [.int .i64 (mo), .int .i64 (ki), .int .i64 (wd), .int .i64 (da), .int .i64 (ti), .int .i64 (re)]) (by simp)
  clear hlo
  go_cut [9] (fun v9 wx => CutOneB lo (BK w [(f, [.int .i64 (y), .int .i64 (mo), .int .i64 (1)]), (w.heap.size, [.int .i64 (mo), .int .i64 (ki), .int .i64 (wd), .int .i64 (da), .int .i64 (ti), .int .i64 (re)])]) [.int .i64 (mw), .int .i64 (ml)] v9 wx)
  case first =>
    obtain ⟨_, j0a, j0b, j0c, _⟩ := (KB.head).three
    obtain ⟨_, j1a, j1b, j1c, j1d, j1e, j1f, _⟩ := (KB.tail.head).six
    clear KB
    have ⟨gp0, gq0⟩ := behindB st.lt la0
    have ⟨gp1, gq1⟩ := behindB st.lt la1
    go_region_held3 (fun w' => w'.cell? ⟨f, 0, none⟩ = some (.int .i64 (y)) ∧ w'.cell? ⟨f, 1, none⟩ = some (.int .i64 (mo)) ∧ w'.cell? ⟨f, 2, none⟩ = some (.int .i64 (1)) ∧ w'.cell? ⟨w.heap.size, 0, none⟩ = some (.int .i64 (mo)) ∧ w'.cell? ⟨w.heap.size, 1, none⟩ = some (.int .i64 (ki)) ∧ w'.cell? ⟨w.heap.size, 2, none⟩ = some (.int .i64 (wd)) ∧ w'.cell? ⟨w.heap.size, 3, none⟩ = some (.int .i64 (da)) ∧ w'.cell? ⟨w.heap.size, 4, none⟩ = some (.int .i64 (ti)) ∧ w'.cell? ⟨w.heap.size, 5, none⟩ = some (.int .i64 (re))) (first | (with_reducible exact ⟨(st.k.head).three.2.1, (st.k.head).three.2.2.1, (st.k.head).three.2.2.2.1, (st.k.tail.head).six.2.1, (st.k.tail.head).six.2.2.1, (st.k.tail.head).six.2.2.2.1, (st.k.tail.head).six.2.2.2.2.1, (st.k.tail.head).six.2.2.2.2.2.1, (st.k.tail.head).six.2.2.2.2.2.2.1⟩) | (with_reducible exact ⟨((st.a2 _).k.head).three.2.1, ((st.a2 _).k.head).three.2.2.1, ((st.a2 _).k.head).three.2.2.2.1, ((st.a2 _).k.tail.head).six.2.1, ((st.a2 _).k.tail.head).six.2.2.1, ((st.a2 _).k.tail.head).six.2.2.2.1, ((st.a2 _).k.tail.head).six.2.2.2.2.1, ((st.a2 _).k.tail.head).six.2.2.2.2.2.1, ((st.a2 _).k.tail.head).six.2.2.2.2.2.2.1⟩) | (with_reducible exact ⟨(st.drew.k.head).three.2.1, (st.drew.k.head).three.2.2.1, (st.drew.k.head).three.2.2.2.1, (st.drew.k.tail.head).six.2.1, (st.drew.k.tail.head).six.2.2.1, (st.drew.k.tail.head).six.2.2.2.1, (st.drew.k.tail.head).six.2.2.2.2.1, (st.drew.k.tail.head).six.2.2.2.2.2.1, (st.drew.k.tail.head).six.2.2.2.2.2.2.1⟩) | (with_reducible exact ⟨((st.a2 _).drew.k.head).three.2.1, ((st.a2 _).drew.k.head).three.2.2.1, ((st.a2 _).drew.k.head).three.2.2.2.1, ((st.a2 _).drew.k.tail.head).six.2.1, ((st.a2 _).drew.k.tail.head).six.2.2.1, ((st.a2 _).drew.k.tail.head).six.2.2.2.1, ((st.a2 _).drew.k.tail.head).six.2.2.2.2.1, ((st.a2 _).drew.k.tail.head).six.2.2.2.2.2.1, ((st.a2 _).drew.k.tail.head).six.2.2.2.2.2.2.1⟩) | go_keep)
      (first
        | (go_at_call 154; (with_reducible refine (WD.out _ (by with_reducible first | exact L.mono st.k.hb | exact L.mono (st.a2 _).k.hb | exact L.mono st.drew.k.hb | exact L.mono (st.a2 _).drew.k.hb)).mono ?_); rintro e x ⟨rfl, k⟩
           with_reducible (first | replace st := st.below k | replace st := (st.a2 _).below k | replace st := st.drew.below k | replace st := (st.a2 _).drew.below k)
           clear k
           obtain ⟨_, k0a, k0b, k0c, _⟩ := (st.k.head).three
           obtain ⟨_, k1a, k1b, k1c, k1d, k1e, k1f, _⟩ := (st.k.tail.head).six
           obtain ⟨gp0, gq0⟩ := behindB st.lt la0
           try obtain ⟨gr0, gs0⟩ := behindB (st.ge _ (List.mem_cons_self ..)) la0
           obtain ⟨gp1, gq1⟩ := behindB st.lt la1
           try obtain ⟨gr1, gs1⟩ := behindB (st.ge _ (List.mem_cons_self ..)) la1
           try obtain ⟨_, ya, yb, _⟩ := ((st.al _ (List.mem_cons_self ..))).two)
        | (go_at_call 155; (with_reducible refine (ML.out _ (by with_reducible first | exact L.mono st.k.hb | exact L.mono (st.a2 _).k.hb | exact L.mono st.drew.k.hb | exact L.mono (st.a2 _).drew.k.hb)).mono ?_); rintro e x ⟨rfl, k⟩
           with_reducible (first | replace st := st.below k | replace st := (st.a2 _).below k | replace st := st.drew.below k | replace st := (st.a2 _).drew.below k)
           clear k
           obtain ⟨_, k0a, k0b, k0c, _⟩ := (st.k.head).three
           obtain ⟨_, k1a, k1b, k1c, k1d, k1e, k1f, _⟩ := (st.k.tail.head).six
           obtain ⟨gp0, gq0⟩ := behindB st.lt la0
           try obtain ⟨gr0, gs0⟩ := behindB (st.ge _ (List.mem_cons_self ..)) la0
           obtain ⟨gp1, gq1⟩ := behindB st.lt la1
           try obtain ⟨gr1, gs1⟩ := behindB (st.ge _ (List.mem_cons_self ..)) la1
           try obtain ⟨_, ya, yb, _⟩ := ((st.al _ (List.mem_cons_self ..))).two))
    all_goals
      go_wp2_with fail
      go_meet
      refine ⟨_, rfl, ?_⟩
      with_reducible first | exact st.p2 _ _  | exact st.q2 _ _ _
  case rest =>
  obtain ⟨t, rfl, s0⟩ := hcut
  clear st
  have KB := s0.k.cons s0.bg
  have ggt := s0.gg
  have it0 : t ≠ f := by omega
  have ot0 := Ne.symm it0
  have it1 : t ≠ w.heap.size := by omega
  have ot1 := Ne.symm it1
  clear s0 la0 la1 ggt
  clear lo
  obtain ⟨_, q0a, q0b, _⟩ := (KB.head).two
  obtain ⟨_, q1a, q1b, q1c, q1d, q1e, q1f, _⟩ := (KB.tail.tail.head).six
  go_wp2_with fail
  clear q0a q0b q1a q1b q1c q1d q1e q1f
  refine (DY.out _ (L.mono KB.hb)).mono ?_
  rintro e w4 ⟨rfl, k⟩
  replace KB := KB.below k
  clear k
  go_wp2_with fail
  refine (OF.out _ (L.mono KB.hb)).mono ?_
  rintro e w5 ⟨rfl, k⟩
  replace KB := KB.below k
  clear k
  go_upto_region 10 with (fail)
  have iq0 : w5.heap.size ≠ t := Nat.ne_of_gt (KB.head).lt
  have oq0 := Ne.symm iq0
  have iq1 : w5.heap.size ≠ f := Nat.ne_of_gt (KB.tail.head).lt
  have oq1 := Ne.symm iq1
  have iq2 : w5.heap.size ≠ w.heap.size := Nat.ne_of_gt (KB.tail.tail.head).lt
  have oq2 := Ne.symm iq2
  have ggq : w.heap.size ≤ w5.heap.size := KB.hb.size
  replace KB := KB.more3 (.int .i64 (a)) (.int .i64 (b)) (.int .i64 (c)) 144
  generalize w5.alloc (.cells #[.int .i64 (a), .int .i64 (b), .int .i64 (c)] 144) = w6 at *
  generalize w5.heap.size = q at *
  have HB := KB.hb
  go_wp2
  go_ret2
  exact ⟨rfl, HB⟩
theorem loM_no (mo ki wd da ti re y : Int) (OM : Hid (∀ W, Lens W → Calls Tryz.prog 145 #[.agg #[.int .i64 (mo), .int .i64 (ki), .int .i64 (wd), .int .i64 (da), .int .i64 (ti), .int .i64 (re)], .int .i64 (y)] W (fun o w' => o = .returned (.tuple #[.int .i64 (0), .bool false]) ∧ Below W.heap.size W w'))) (w : World) (L : Lens w) : Calls Tryz.prog 132 #[.agg #[.int .i64 (mo), .int .i64 (ki), .int .i64 (wd), .int .i64 (da), .int .i64 (ti), .int .i64 (re)], .int .i64 (y)] w (RetNumB w 0 false) := by
  go_enter Tryz.func132, Tryz.ntmps132
  go_wp2_with fail
  have KB := ((BK.nil w).more6 (.int .i64 (mo)) (.int .i64 (ki)) (.int .i64 (wd)) (.int .i64 (da)) (.int .i64 (ti)) (.int .i64 (re)) 34)
  generalize (w.alloc (.cells #[.int .i64 (mo), .int .i64 (ki), .int .i64 (wd), .int .i64 (da), .int .i64 (ti), .int .i64 (re)] 34)) = w0 at *
  refine (OM.out _ (L.mono KB.hb)).mono ?_
  rintro e w1 ⟨rfl, k⟩
  replace KB := KB.below k
  clear k
  have HB := KB.hb
  go_wp2
  go_ret2
  exact ⟨rfl, HB⟩
theorem loM_yes (mo ki wd da ti re y : Int) (n : Int) (_n1 : -100000001 ≤ n) (_n2 : n ≤ 100000000) (_t1 : -604799 ≤ ti) (_t2 : ti ≤ 604799) (OM : Hid (∀ W, Lens W → Calls Tryz.prog 145 #[.agg #[.int .i64 (mo), .int .i64 (ki), .int .i64 (wd), .int .i64 (da), .int .i64 (ti), .int .i64 (re)], .int .i64 (y)] W (fun o w' => o = .returned (.tuple #[.int .i64 (n), .bool true]) ∧ Below W.heap.size W w'))) (w : World) (L : Lens w) : Calls Tryz.prog 132 #[.agg #[.int .i64 (mo), .int .i64 (ki), .int .i64 (wd), .int .i64 (da), .int .i64 (ti), .int .i64 (re)], .int .i64 (y)] w (RetNumB w (n * 86400 + ti) true) := by
  go_enter Tryz.func132, Tryz.ntmps132
  go_wp2_with fail
  have KB := ((BK.nil w).more6 (.int .i64 (mo)) (.int .i64 (ki)) (.int .i64 (wd)) (.int .i64 (da)) (.int .i64 (ti)) (.int .i64 (re)) 34)
  generalize (w.alloc (.cells #[.int .i64 (mo), .int .i64 (ki), .int .i64 (wd), .int .i64 (da), .int .i64 (ti), .int .i64 (re)] 34)) = w0 at *
  refine (OM.out _ (L.mono KB.hb)).mono ?_
  rintro e w1 ⟨rfl, k⟩
  replace KB := KB.below k
  clear k
  obtain ⟨_, q0a, q0b, q0c, q0d, q0e, q0f, _⟩ := (KB.head).six
  have HB := KB.hb
  go_wp2
  go_ret2
  exact ⟨rfl, HB⟩
theorem sh_on {x : Sp} {y : Int} (ok : x.ok) : numD y x.mo 1 + (shD (wday (numD y x.mo 1)) (lenM y x.mo) x - 1) = onDay x y := by
  obtain ⟨_, hk, _, _, k0, k1, k2, k3⟩ := ok
  unfold shD onDay upM downTo upTo wday
  by_cases e0 : x.ki = 0
  · rw [if_pos e0, if_pos e0]; omega
  rw [if_neg e0, if_neg e0]
  by_cases e1 : x.ki = 1
  · rw [if_pos e1, if_pos e1]; omega
  rw [if_neg e1, if_neg e1]
  by_cases e2 : x.ki = 2
  · rw [if_pos e2, if_pos e2]; omega
  rw [if_neg e2, if_neg e2]
  omega
theorem sh_in {x : Sp} (ok : x.ok) {mw ml : Int} (h2 : 28 ≤ ml ∧ ml ≤ 31) : -100 ≤ shD mw ml x ∧ shD mw ml x ≤ 100 := by
  obtain ⟨_, hk, _, _, k0, k1, k2, k3⟩ := ok
  unfold shD upM
  split
  · have := k3 (by omega); omega
  · split
    · omega
    · split
      · have := k3 (by omega); omega
      · have := k3 (by omega); omega
theorem num_from {y m : Int} (hy : 1 ≤ y) (h : okD y m 1) : -1000000 ≤ numD y m 1 := by
  have h5 := (num_year h.1).1
  have h6 := jan_le (a := 1) (b := y) hy
  have j1 : jan 1 = -719162 := by decide
  omega
theorem year_to {y m : Int} (h : okD y m 1) : y ≤ 300000 := by
  apply Classical.byContradiction
  intro c
  have h5 := (num_year h.1).1
  have h6 := jan_le (a := 300000) (b := y) (by omega)
  have j1 : (100000000 : Int) < jan 300000 := by decide
  have := h.2.2
  omega
theorem onMP (x : Sp) (y : Int) (w : World) (L : Lens w) : Calls Tryz.prog 145 #[x.val, .int .i64 y] w (RetNumB w (onN x y) (decide (onOk x y))) := by
  have RI := fun (W : World) (_ : Lens W) => rightMP x W
  by_cases ok : x.ok
  · rw [decide_eq_true ok] at RI
    by_cases hy : y < 1
    · have e : ¬ onOk x y := fun c => by have := c.2.1.1; omega
      rw [show onN x y = 0 from if_neg e, decide_eq_false e]
      exact onM_y _ _ _ _ _ _ y hy (Lib.hid RI) w L
    have hy : 1 ≤ y := by omega
    have DA := fun (W : World) (l : Lens W) => daysP y x.mo 1 W l
    by_cases hd : okD y x.mo 1
    · have hl := lenM_range (y := y) ok.1.1 ok.1.2
      have hw := wday_range (numD y x.mo 1)
      have hn := num_from hy hd
      rw [show dv y x.mo 1 = numD y x.mo 1 from if_pos hd, decide_eq_true hd] at DA
      have WD := fun (W : World) (l : Lens W) => weekdayP y x.mo 1 W l
      rw [show wdv y x.mo 1 = wday (numD y x.mo 1) from if_pos hd] at WD
      have ML := fun (W : World) (l : Lens W) => (mlenP y x.mo W l).mono fun e w' ⟨h1, h2⟩ => show e = _ ∧ Below W.heap.size W w' from ⟨h1, h2 ▸ Below.refl _ _⟩
      have DY := fun (W : World) (_ : Lens W) => dayMP x ok _ _ hw hl W
      have es := sh_on (y := y) ok
      have ei := sh_in ok (mw := wday (numD y x.mo 1)) hl
      by_cases hh : onDay x y ≤ 100000000
      · have e : onOk x y := ⟨ok, ⟨hy, year_to hd⟩, hd, hh⟩
        rw [show onN x y = onDay x y from if_pos e, decide_eq_true e, ← es]
        obtain ⟨a, b, c, hok, hnum⟩ := day_of (onDay x y)
        exact onM_yes _ _ _ _ _ _ y hy _ hd.2.1 hd.2.2 _ _ _ ei.1 ei.2 a b c (Lib.hid RI) (Lib.hid DA) (Lib.hid WD) (Lib.hid ML) (Lib.hid DY) (Lib.hid fun W l => by rw [es]; exact ofP_yes _ a b c ⟨hok, by omega, by omega⟩ hnum W l) w L
      · have e : ¬ onOk x y := fun c => hh c.2.2.2
        rw [show onN x y = 0 from if_neg e, decide_eq_false e]
        exact onM_no _ _ _ _ _ _ y hy _ hd.2.1 hd.2.2 _ _ _ ei.1 ei.2 (Lib.hid RI) (Lib.hid DA) (Lib.hid WD) (Lib.hid ML) (Lib.hid DY) (Lib.hid fun W l => by rw [es]; exact ofP_no _ (.inr (by omega)) W l) w L
    · have e : ¬ onOk x y := fun c => hd c.2.2.1
      rw [show dv y x.mo 1 = 0 from if_neg hd, decide_eq_false hd] at DA
      rw [show onN x y = 0 from if_neg e, decide_eq_false e]
      exact onM_f _ _ _ _ _ _ y hy (Lib.hid RI) (Lib.hid DA) w L
  · have e : ¬ onOk x y := fun c => ok c.1
    rw [decide_eq_false ok] at RI
    rw [show onN x y = 0 from if_neg e, decide_eq_false e]
    exact onM_r _ _ _ _ _ _ y (Lib.hid RI) w L
theorem localMP (x : Sp) (y : Int) (w : World) (L : Lens w) : Calls Tryz.prog 132 #[x.val, .int .i64 y] w (RetNumB w (loN x y) (decide (onOk x y))) := by
  have OM := fun (W : World) (l : Lens W) => onMP x y W l
  by_cases e : onOk x y
  · rw [show onN x y = onDay x y from if_pos e, decide_eq_true e] at OM
    rw [show loN x y = onDay x y * 86400 + x.ti from if_pos e, decide_eq_true e]
    exact loM_yes _ _ _ _ _ _ y _ (by have := onDay_in e; omega) e.2.2.2 e.1.2.2.1.1 e.1.2.2.1.2 (Lib.hid OM) w L
  · rw [show onN x y = 0 from if_neg e, decide_eq_false e] at OM
    rw [show loN x y = 0 from if_neg e, decide_eq_false e]
    exact loM_no _ _ _ _ _ _ y (Lib.hid OM) w L
end Go.Proofs.YtmhpnmlgfdomkaaGreatDoor
