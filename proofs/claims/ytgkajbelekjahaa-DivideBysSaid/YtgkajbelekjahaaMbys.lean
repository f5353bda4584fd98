/- The walk of DivideBys: at any wide number and any of 64 bits it returns true; what was there is as it was. -/
import Derived.Test.YtgkajbelekjahaaValive
import Derived.Test.YtgkajbelekjahaaDfloor
import Derived.Deep.RegionHeld3
namespace Go.Proofs.Ytgkajbelekjahaa
open Go.RowKit

set_option maxRecDepth 100000 in
set_option maxHeartbeats 8000000 in
theorem bys_arg (a n : Int) (hn : n < 1) (w : World) :
    Calls Try.prog 5 #[.agg #[.int .i64 (hiW a), .int .u64 (loW a)], .int .i64 n] w (RetV w (.bool true)) := by
  have BY := Lib.hid (fun W => byW_arg a n (by omega) W)
  go_enter Try.func5, Try.ntmps5
  go_wp2_with fail
  have KK := ((PairsK.nil w).more (.int .i64 (hiW a)) (.int .u64 (loW a)) 24)
  try simp only [World.size_alloc] at KK
  generalize (w.alloc (.cells #[.int .i64 (hiW a), .int .u64 (loW a)] 24)) = w0 at *
  refine (BY.out _).mono ?_
  rintro e w1 ⟨rfl, k⟩
  replace KK := KK.below k
  clear k
  go_wp2_with fail
  have hlg := KK.head.lt
  replace KK := (KK.more (.int .i64 0) (.int .u64 0) 24)
  generalize (w1.alloc (.cells #[.int .i64 0, .int .u64 0] 24)) = w2 at *
  generalize w1.heap.size = g at *
  clear hlg
  refine (alive3 _).mono ?_
  rintro e w3 ⟨rfl, k⟩
  replace KK := KK.below k
  clear k
  obtain ⟨_, aa, ab, _, _⟩ := KK.head
  have HB := KK.hb
  go_wp2
  go_ret
  exact ⟨rfl, HB⟩

set_option maxRecDepth 100000 in
set_option maxHeartbeats 8000000 in
theorem bys_any (a n : Int) (ha : InW a) (hn : In64 n) (h0 : 0 < n) (w : World) :
    Calls Try.prog 5 #[.agg #[.int .i64 (hiW a), .int .u64 (loW a)], .int .i64 n] w (RetV w (.bool true)) := by
  obtain ⟨iQ, iR, iW⟩ := by_in ha hn h0
  have BY := Lib.hid (fun W => byW_any a n ha hn h0 W)
  have ON := Lib.hid (fun W => wideOf n hn W)
  have OR := Lib.hid (fun W => wideOf (a.fmod n) iR W)
  obtain ⟨t1, t2, t3⟩ := told_in iQ
  obtain ⟨u1, u2, _⟩ := told_in iW
  have RF := Lib.hid (fun W => show Calls Try.prog 11 #[.agg #[.int .i64 (hiW a), .int .u64 (loW a)], .agg #[.int .i64 (hiW n), .int .u64 (loW n)]] W (RetHalves W (hiW (a.fdiv n)) (loW (a.fdiv n)) (hiW (a.fmod n)) (loW (a.fmod n)) 0) from (floor_any a n ha (inW_of_64 hn) (by omega) W).mono fun e w' ⟨h1, h2⟩ => ⟨by rw [h1]; unfold hv2 lv2; rw [if_pos iQ, if_pos iQ, t1, t2, t3, u1, u2], h2⟩)
  have n1 : ¬ n < 1 := by omega
  clear iQ iR iW t1 t2 t3 u1 u2 ha hn
  generalize a.fdiv n = Q at *
  generalize a.fmod n = R at *
  go_enter Try.func5, Try.ntmps5
  go_wp2_with fail
  have KK := ((PairsK.nil w).more (.int .i64 (hiW a)) (.int .u64 (loW a)) 24)
  try simp only [World.size_alloc] at KK
  generalize (w.alloc (.cells #[.int .i64 (hiW a), .int .u64 (loW a)] 24)) = w0 at *
  refine (BY.out _).mono ?_
  rintro e w1 ⟨rfl, k⟩
  replace KK := KK.below k
  clear k
  obtain ⟨_, aa, ab, _, _⟩ := KK.head
  go_wp2_with fail
  clear aa ab
  have hlg := KK.head.lt
  replace KK := (KK.more (.int .i64 (hiW Q)) (.int .u64 (loW Q)) 24)
  generalize (w1.alloc (.cells #[.int .i64 (hiW Q), .int .u64 (loW Q)] 24)) = w2 at *
  generalize w1.heap.size = g at *
  clear hlg
  obtain ⟨lo, st, hlo⟩ := KK.preG (KK.tail.head).lt 24 (.int .i64 0) (.int .u64 0)
  have la0 : g ≤ lo := hlo (g, .int .i64 (hiW Q), .int .u64 (loW Q)) (by simp)
  have la1 : w.heap.size ≤ lo := hlo (w.heap.size, .int .i64 (hiW a), .int .u64 (loW a)) (by simp)
  clear hlo
  go_cut [8, 9] (fun v8 v9 wx => CutTwo lo (PairsK w [(g, .int .i64 (hiW Q), .int .u64 (loW Q)), (w.heap.size, .int .i64 (hiW a), .int .u64 (loW a))]) (.int .i64 (hiW Q)) (.int .u64 (loW Q)) (.int .i64 (hiW R)) (.int .u64 (loW R)) v8 v9 wx)
  case first =>
    obtain ⟨_, ja0, jb0, _, _⟩ := KK.tail.head
    clear KK
    have ⟨gp0, gq0⟩ := behindG st.lt la1
    go_region_held3 (fun w' => w'.cell? ⟨w.heap.size, 0, none⟩ = some (.int .i64 (hiW a)) ∧ w'.cell? ⟨w.heap.size, 1, none⟩ = some (.int .u64 (loW a))) (first | (with_reducible exact ⟨st.k.tail.head.c0, st.k.tail.head.c1⟩) | (with_reducible exact ⟨st.alloc1.k.tail.head.c0, st.alloc1.k.tail.head.c1⟩) | (with_reducible exact ⟨st.alloc2.k.tail.head.c0, st.alloc2.k.tail.head.c1⟩) | (with_reducible exact ⟨st.drew.k.tail.head.c0, st.drew.k.tail.head.c1⟩) | (with_reducible exact ⟨st.alloc1.drew.k.tail.head.c0, st.alloc1.drew.k.tail.head.c1⟩) | (with_reducible exact ⟨st.alloc2.drew.k.tail.head.c0, st.alloc2.drew.k.tail.head.c1⟩) | go_keep)
      (first
        | (go_at_call 16; (with_reducible refine (ON.out _).mono ?_); rintro e x ⟨rfl, k⟩
           with_reducible (first | replace st := st.below k | replace st := st.alloc1.below k | replace st := st.alloc2.below k | replace st := st.drew.below k | replace st := st.alloc1.drew.below k | replace st := st.alloc2.drew.below k)
           clear k
           obtain ⟨_, ka0, kb0, _, _⟩ := st.k.tail.head
           obtain ⟨gp0, gq0⟩ := behindG st.lt la1
           try obtain ⟨gr0, gs0⟩ := behindG (st.ge _ (List.mem_cons_self ..)) la1
           try obtain ⟨gt0, gu0⟩ := behindG (st.ge _ (List.mem_cons_of_mem _ (List.mem_cons_self ..))) la1
           try obtain ⟨_, y0, y1, y2, y3⟩ := st.al _ (List.mem_cons_self ..)
           try obtain ⟨_, y4, y5, y6, y7⟩ := st.al _ (List.mem_cons_of_mem _ (List.mem_cons_self ..)))
        | (go_at_call 11; (with_reducible refine (RF.out _).mono ?_); rintro e x ⟨rfl, k⟩
           with_reducible (first | replace st := st.below k | replace st := st.alloc1.below k | replace st := st.alloc2.below k | replace st := st.drew.below k | replace st := st.alloc1.drew.below k | replace st := st.alloc2.drew.below k)
           clear k
           obtain ⟨_, ka0, kb0, _, _⟩ := st.k.tail.head
           obtain ⟨gp0, gq0⟩ := behindG st.lt la1
           try obtain ⟨gr0, gs0⟩ := behindG (st.ge _ (List.mem_cons_self ..)) la1
           try obtain ⟨gt0, gu0⟩ := behindG (st.ge _ (List.mem_cons_of_mem _ (List.mem_cons_self ..))) la1
           try obtain ⟨_, y0, y1, y2, y3⟩ := st.al _ (List.mem_cons_self ..)
           try obtain ⟨_, y4, y5, y6, y7⟩ := st.al _ (List.mem_cons_of_mem _ (List.mem_cons_self ..))))
    all_goals
      go_wp2_with fail
      go_meet
      refine ⟨_, _, rfl, rfl, ?_⟩
      with_reducible first | exact st.fin1a _ _ _ _ | exact st.fin1b _ _ _ _ | exact st.fin2a _ _ _ _ | exact st.fin2b _ _ _ _ | exact st.fin3a _ _ _ _ | exact st.fin3b _ _ _ _
  case rest =>
  obtain ⟨h, j, rfl, rfl, s0⟩ := hcut
  clear st
  have KK := (s0.k.cons s0.bg).cons s0.bh
  have ggh := s0.gg
  have ggj := s0.gh
  have neh := s0.ne
  have nh0 : h ≠ g := by omega
  have nj0 : j ≠ g := by omega
  have nh1 : h ≠ w.heap.size := by omega
  have nj1 : j ≠ w.heap.size := by omega
  clear s0 la0 la1 ggh ggj
  clear lo
  go_wp2_with fail
  obtain ⟨_, ca, cb, _, _⟩ := KK.head
  obtain ⟨_, da, db, _, _⟩ := KK.tail.head
  obtain ⟨_, fa, fb, _, _⟩ := KK.tail.tail.head
  go_region_held3 (fun w' => w'.cell? ⟨j, 0, none⟩ = some (.int .i64 (hiW R)) ∧ w'.cell? ⟨j, 1, none⟩ = some (.int .u64 (loW R)) ∧ w'.cell? ⟨h, 0, none⟩ = some (.int .i64 (hiW Q)) ∧ w'.cell? ⟨h, 1, none⟩ = some (.int .u64 (loW Q)) ∧ w'.cell? ⟨g, 0, none⟩ = some (.int .i64 (hiW Q)) ∧ w'.cell? ⟨g, 1, none⟩ = some (.int .u64 (loW Q))) (first | (with_reducible exact ⟨KK.head.c0, KK.head.c1, KK.tail.head.c0, KK.tail.head.c1, KK.tail.tail.head.c0, KK.tail.tail.head.c1⟩) | (with_reducible exact ⟨KK.drew.head.c0, KK.drew.head.c1, KK.drew.tail.head.c0, KK.drew.tail.head.c1, KK.drew.tail.tail.head.c0, KK.drew.tail.tail.head.c1⟩) | go_keep)
    (first
      | (go_at_call 12; (with_reducible refine (alive3 _).mono ?_); rintro e x ⟨rfl, k⟩
         with_reducible (first | replace KK := KK.below k | replace KK := KK.drew.below k)
         clear k
         obtain ⟨_, ka, kb, _, _⟩ := KK.head
         obtain ⟨_, kc, kd, _, _⟩ := KK.tail.head
         obtain ⟨_, ke, kf, _, _⟩ := KK.tail.tail.head)
      | (go_at_call 16; (with_reducible refine (OR.out _).mono ?_); rintro e x ⟨rfl, k⟩
         with_reducible (first | replace KK := KK.below k | replace KK := KK.drew.below k)
         clear k
         obtain ⟨_, ka, kb, _, _⟩ := KK.head
         obtain ⟨_, kc, kd, _, _⟩ := KK.tail.head
         obtain ⟨_, ke, kf, _, _⟩ := KK.tail.tail.head))
  all_goals
    go_wp2
    go_ret
    exact ⟨rfl, by first | exact KK.hb | exact KK.drew.hb⟩

theorem divideBys_walk (a n : Int) (ha : InW a) (hn : In64 n) (w : World) :
    Calls Try.prog 5 #[.agg #[.int .i64 (hiW a), .int .u64 (loW a)], .int .i64 n] w (RetV w (.bool true)) := by
  by_cases h : n < 1
  · exact bys_arg a n h w
  · exact bys_any a n ha hn (by omega) w
end Go.Proofs.Ytgkajbelekjahaa
