/- The walk of WideSums: at any two wide numbers it returns true; what was there is as it was. -/
import Derived.Test.YtpjhenipeafbiaaWlaw
namespace Go.Proofs.Ytpjhenipeafbiaa
open Go.RowKit

set_option maxRecDepth 100000 in
set_option maxHeartbeats 8000000 in
theorem wideSums_walk (a b : Int) (ha : InW a) (hb : InW b) (w : World) :
    Calls Try.prog 4 #[.agg #[.int .i64 (hiW a), .int .u64 (loW a)], .agg #[.int .i64 (hiW b), .int .u64 (loW b)]] w (RetV w (.bool true)) := by
  have CA := Lib.hid (fun W => wideAdd a b ha hb W)
  have CS := Lib.hid (fun W => wideSub a b ha hb W)
  have CN := Lib.hid (fun W => wideNeg a ha W)
  have OA := Lib.hid (fun W => wof_z a ha W)
  have OB := Lib.hid (fun W => wof_z b hb W)
  have sa := Lib.hid (small_w ha)
  have sb := Lib.hid (small_w hb)
  have s1 := Lib.hid (small_2w (z := a + b) (by have := abs_w ha; have := abs_w hb; omega))
  have s2 := Lib.hid (small_2w (z := a - b) (by have := abs_w ha; have := abs_w hb; omega))
  have s3 := Lib.hid (small_2w (z := -a) (by have := abs_w ha; omega))
  clear ha hb
  go_enter Try.func4, Try.ntmps4
  go_wp2_with fail
  have KK := ((PairsK.nil w).more (.int .i64 (hiW a)) (.int .u64 (loW a)) 24).more (.int .i64 (hiW b)) (.int .u64 (loW b)) 24
  rw [World.size_alloc] at KK
  generalize (w.alloc (.cells #[.int .i64 (hiW a), .int .u64 (loW a)] 24)).alloc (.cells #[.int .i64 (hiW b), .int .u64 (loW b)] 24) = w0 at *
  refine (CA.out _).mono ?_
  rintro e w1 ⟨rfl, k⟩
  replace KK := KK.below k
  clear k
  go_wp2_with fail
  have hltgs := KK.head.lt
  replace KK := KK.more (.int .i64 (hv (a + b))) (.int .u64 (lv (a + b))) 24
  generalize hw1 : w1.alloc (.cells #[.int .i64 (hv (a + b)), .int .u64 (lv (a + b))] 24) = w2 at *
  generalize hg : w1.heap.size = gs at *
  clear hw1 hg
  have st := KK.pre (gs) (by simp <;> omega) (by omega) (by first | omega | (have := KK.head.lt; omega))
  go_cut [7, 8] (fun v7 v8 wx => DonCut (gs) (PairsK w [(gs, .int .i64 (hv (a + b)), .int .u64 (lv (a + b))), (w.heap.size + 1, .int .i64 (hiW b), .int .u64 (loW b)), (w.heap.size, .int .i64 (hiW a), .int .u64 (loW a))]) (.int .i64 (hv (a + b))) (.int .u64 (lv (a + b))) v7 wx ∧ v8 = .int .i64 (ev (a + b)))
  case first =>
    obtain ⟨_, b0, b0', _, _⟩ := KK.tail.head
    obtain ⟨_, b1, b1', _, _⟩ := KK.tail.tail.head
    clear KK
    go_region_held3 (fun w' => w'.cell? ⟨w.heap.size + 1, 0, none⟩ = some (.int .i64 (hiW b)) ∧ w'.cell? ⟨w.heap.size + 1, 1, none⟩ = some (.int .u64 (loW b)) ∧ w'.cell? ⟨w.heap.size, 0, none⟩ = some (.int .i64 (hiW a)) ∧ w'.cell? ⟨w.heap.size, 1, none⟩ = some (.int .u64 (loW a))) (first | (with_reducible exact ⟨(st.k.tail.head).c0, (st.k.tail.head).c1, (st.k.tail.tail.head).c0, (st.k.tail.tail.head).c1⟩) | (with_reducible exact ⟨(st.alloc1.k.tail.head).c0, (st.alloc1.k.tail.head).c1, (st.alloc1.k.tail.tail.head).c0, (st.alloc1.k.tail.tail.head).c1⟩) | (with_reducible exact ⟨(st.drew.k.tail.head).c0, (st.drew.k.tail.head).c1, (st.drew.k.tail.tail.head).c0, (st.drew.k.tail.tail.head).c1⟩) | (with_reducible exact ⟨(st.alloc1.drew.k.tail.head).c0, (st.alloc1.drew.k.tail.head).c1, (st.alloc1.drew.k.tail.tail.head).c0, (st.alloc1.drew.k.tail.tail.head).c1⟩) | (with_reducible exact ⟨((st.fin2 _ _).k.tail.head).c0, ((st.fin2 _ _).k.tail.head).c1, ((st.fin2 _ _).k.tail.tail.head).c0, ((st.fin2 _ _).k.tail.tail.head).c1⟩) | (with_reducible exact ⟨((st.fin1 _ _).k.tail.head).c0, ((st.fin1 _ _).k.tail.head).c1, ((st.fin1 _ _).k.tail.tail.head).c0, ((st.fin1 _ _).k.tail.tail.head).c1⟩) | go_keep)
      (first
        | (go_at_call 13; (with_reducible refine (OA.out _).mono ?_); rintro e x1 ⟨p1, A1, n1, c1, rfl, z1, k⟩
           have l1 := z1.small sa.out
           with_reducible (first | replace st := st.below k | replace st := st.alloc1.below k | replace st := st.drew.below k | replace st := st.alloc1.drew.below k)
           clear k
           try obtain ⟨_, y0, y1, y2, y3⟩ := st.al _ (List.mem_cons_self ..))
        | (go_at_call 13; (with_reducible refine (OB.out _).mono ?_); rintro e x2 ⟨p2, A2, n2, c2, rfl, z2, k⟩
           have l2 := z2.small sb.out
           with_reducible (first | replace z1 := z1.below k | replace z1 := (z1.below (below_box _ _)).below k | replace z1 := z1.drew.below k | replace z1 := (z1.below (below_box _ _)).drew.below k)
           with_reducible (first | replace st := st.below k | replace st := st.alloc1.below k | replace st := st.drew.below k | replace st := st.alloc1.drew.below k)
           clear k
           try obtain ⟨_, y0, y1, y2, y3⟩ := st.al _ (List.mem_cons_self ..))
        | (go_at_call 21; (with_reducible refine (add_any p1 p2 A1 A2 n1 n2 c1 c2 _ _ _ (by with_reducible first | exact z1 | exact (z1.below (below_box _ _)) | exact z1.drew | exact (z1.below (below_box _ _)).drew) (by with_reducible first | exact z2 | exact (z2.below (below_box _ _)) | exact z2.drew | exact (z2.below (below_box _ _)).drew) (by omega) (by omega)).mono ?_); rintro e x3 ⟨p3, A3, n3, c3, rfl, z3, k⟩
           have l3 := z3.small s1.out
           with_reducible (first | replace st := st.below k | replace st := st.alloc1.below k | replace st := st.drew.below k | replace st := st.alloc1.drew.below k)
           clear k
           try obtain ⟨_, y0, y1, y2, y3⟩ := st.al _ (List.mem_cons_self ..))
        | (go_at_call 20; (with_reducible refine (wtold_any p3 A3 n3 c3 _ _ (by with_reducible first | exact z3 | exact (z3.below (below_box _ _)) | exact z3.drew | exact (z3.below (below_box _ _)).drew) (by omega)).mono ?_); rintro e x ⟨rfl, k⟩
           with_reducible (first | replace st := st.below k | replace st := st.alloc1.below k | replace st := st.drew.below k | replace st := st.alloc1.drew.below k)
           clear k
           try obtain ⟨_, y0, y1, y2, y3⟩ := st.al _ (List.mem_cons_self ..)))
    all_goals
      go_wp2_with fail
      go_meet
      refine ⟨⟨_, rfl, ?_⟩, rfl⟩
      with_reducible first | exact st.fin1 _ _ | exact st.fin2 _ _
  case rest =>
  obtain ⟨⟨gt, rfl, hd⟩, rfl⟩ := hcut
  clear st KK
  have KK := hd.k.cons hd.bx
  have gggt := hd.gg
  clear hd
  obtain ⟨_, a0, a0', _, _⟩ := KK.tail.tail.head
  obtain ⟨_, a1, a1', _, _⟩ := KK.tail.tail.tail.head
  go_wp2_with fail
  refine (CS.out _).mono ?_
  rintro e w1 ⟨rfl, k⟩
  replace KK := KK.below k
  clear k
  clear a0 a0' a1 a1'
  go_wp2_with fail
  have hltgd := KK.head.lt
  replace KK := KK.more (.int .i64 (hv (a - b))) (.int .u64 (lv (a - b))) 24
  generalize hw1 : w1.alloc (.cells #[.int .i64 (hv (a - b)), .int .u64 (lv (a - b))] 24) = w2 at *
  generalize hg : w1.heap.size = gd at *
  clear hw1 hg
  have st := KK.pre (gd) (by simp <;> omega) (by omega) (by first | omega | (have := KK.head.lt; omega))
  go_cut [11, 12] (fun v11 v12 wx => DonCut (gd) (PairsK w [(gd, .int .i64 (hv (a - b)), .int .u64 (lv (a - b))), (gt, .int .i64 (hv (a + b)), .int .u64 (lv (a + b))), (gs, .int .i64 (hv (a + b)), .int .u64 (lv (a + b))), (w.heap.size + 1, .int .i64 (hiW b), .int .u64 (loW b)), (w.heap.size, .int .i64 (hiW a), .int .u64 (loW a))]) (.int .i64 (hv (a - b))) (.int .u64 (lv (a - b))) v11 wx ∧ v12 = .int .i64 (ev (a - b)))
  case first =>
    obtain ⟨_, b0, b0', _, _⟩ := KK.tail.tail.tail.head
    obtain ⟨_, b1, b1', _, _⟩ := KK.tail.tail.tail.tail.head
    clear KK
    go_region_held3 (fun w' => w'.cell? ⟨w.heap.size + 1, 0, none⟩ = some (.int .i64 (hiW b)) ∧ w'.cell? ⟨w.heap.size + 1, 1, none⟩ = some (.int .u64 (loW b)) ∧ w'.cell? ⟨w.heap.size, 0, none⟩ = some (.int .i64 (hiW a)) ∧ w'.cell? ⟨w.heap.size, 1, none⟩ = some (.int .u64 (loW a))) (first | (with_reducible exact ⟨(st.k.tail.tail.tail.head).c0, (st.k.tail.tail.tail.head).c1, (st.k.tail.tail.tail.tail.head).c0, (st.k.tail.tail.tail.tail.head).c1⟩) | (with_reducible exact ⟨(st.alloc1.k.tail.tail.tail.head).c0, (st.alloc1.k.tail.tail.tail.head).c1, (st.alloc1.k.tail.tail.tail.tail.head).c0, (st.alloc1.k.tail.tail.tail.tail.head).c1⟩) | (with_reducible exact ⟨(st.drew.k.tail.tail.tail.head).c0, (st.drew.k.tail.tail.tail.head).c1, (st.drew.k.tail.tail.tail.tail.head).c0, (st.drew.k.tail.tail.tail.tail.head).c1⟩) | (with_reducible exact ⟨(st.alloc1.drew.k.tail.tail.tail.head).c0, (st.alloc1.drew.k.tail.tail.tail.head).c1, (st.alloc1.drew.k.tail.tail.tail.tail.head).c0, (st.alloc1.drew.k.tail.tail.tail.tail.head).c1⟩) | (with_reducible exact ⟨((st.fin2 _ _).k.tail.tail.tail.head).c0, ((st.fin2 _ _).k.tail.tail.tail.head).c1, ((st.fin2 _ _).k.tail.tail.tail.tail.head).c0, ((st.fin2 _ _).k.tail.tail.tail.tail.head).c1⟩) | (with_reducible exact ⟨((st.fin1 _ _).k.tail.tail.tail.head).c0, ((st.fin1 _ _).k.tail.tail.tail.head).c1, ((st.fin1 _ _).k.tail.tail.tail.tail.head).c0, ((st.fin1 _ _).k.tail.tail.tail.tail.head).c1⟩) | go_keep)
      (first
        | (go_at_call 13; (with_reducible refine (OA.out _).mono ?_); rintro e x1 ⟨p1, A1, n1, c1, rfl, z1, k⟩
           have l1 := z1.small sa.out
           with_reducible (first | replace st := st.below k | replace st := st.alloc1.below k | replace st := st.drew.below k | replace st := st.alloc1.drew.below k)
           clear k
           try obtain ⟨_, y0, y1, y2, y3⟩ := st.al _ (List.mem_cons_self ..))
        | (go_at_call 13; (with_reducible refine (OB.out _).mono ?_); rintro e x2 ⟨p2, A2, n2, c2, rfl, z2, k⟩
           have l2 := z2.small sb.out
           with_reducible (first | replace z1 := z1.below k | replace z1 := (z1.below (below_box _ _)).below k | replace z1 := z1.drew.below k | replace z1 := (z1.below (below_box _ _)).drew.below k)
           with_reducible (first | replace st := st.below k | replace st := st.alloc1.below k | replace st := st.drew.below k | replace st := st.alloc1.drew.below k)
           clear k
           try obtain ⟨_, y0, y1, y2, y3⟩ := st.al _ (List.mem_cons_self ..))
        | (go_at_call 23; (with_reducible refine (sub_any p1 p2 A1 A2 n1 n2 c1 c2 _ _ _ (by with_reducible first | exact z1 | exact (z1.below (below_box _ _)) | exact z1.drew | exact (z1.below (below_box _ _)).drew) (by with_reducible first | exact z2 | exact (z2.below (below_box _ _)) | exact z2.drew | exact (z2.below (below_box _ _)).drew) (by omega) (by omega)).mono ?_); rintro e x3 ⟨p3, A3, n3, c3, rfl, z3, k⟩
           have l3 := z3.small s2.out
           with_reducible (first | replace st := st.below k | replace st := st.alloc1.below k | replace st := st.drew.below k | replace st := st.alloc1.drew.below k)
           clear k
           try obtain ⟨_, y0, y1, y2, y3⟩ := st.al _ (List.mem_cons_self ..))
        | (go_at_call 20; (with_reducible refine (wtold_any p3 A3 n3 c3 _ _ (by with_reducible first | exact z3 | exact (z3.below (below_box _ _)) | exact z3.drew | exact (z3.below (below_box _ _)).drew) (by omega)).mono ?_); rintro e x ⟨rfl, k⟩
           with_reducible (first | replace st := st.below k | replace st := st.alloc1.below k | replace st := st.drew.below k | replace st := st.alloc1.drew.below k)
           clear k
           try obtain ⟨_, y0, y1, y2, y3⟩ := st.al _ (List.mem_cons_self ..)))
    all_goals
      go_wp2_with fail
      go_meet
      refine ⟨⟨_, rfl, ?_⟩, rfl⟩
      with_reducible first | exact st.fin1 _ _ | exact st.fin2 _ _
  case rest =>
  obtain ⟨⟨gu, rfl, hd⟩, rfl⟩ := hcut
  clear st KK
  have KK := hd.k.cons hd.bx
  have gggu := hd.gg
  clear hd
  obtain ⟨_, a0, a0', _, _⟩ := KK.tail.tail.tail.tail.tail.head
  go_wp2_with fail
  refine (CN.out _).mono ?_
  rintro e w1 ⟨rfl, k⟩
  replace KK := KK.below k
  clear k
  clear a0 a0'
  obtain ⟨_, a0, a0', _, _⟩ := KK.tail.tail.tail.tail.tail.head
  go_wp2_with fail
  clear a0 a0'
  have hltgn := KK.head.lt
  replace KK := KK.more (.int .i64 (hv (-a))) (.int .u64 (lv (-a))) 24
  generalize hw1 : w1.alloc (.cells #[.int .i64 (hv (-a)), .int .u64 (lv (-a))] 24) = w2 at *
  generalize hg : w1.heap.size = gn at *
  clear hw1 hg
  refine (OA.out _).mono ?_
  rintro e w1 ⟨p1, A1, n1, c1, rfl, z1, k⟩
  have l1 := z1.small sa.out
  replace KK := KK.below k
  clear k
  go_wp2_with fail
  refine (neg_any p1 A1 n1 c1 _ _ z1 (by omega)).mono ?_
  rintro e w1 ⟨p3, A3, n3, c3, rfl, z3, k⟩
  have l3 := z3.small s3.out
  replace KK := KK.below k
  clear k
  go_wp2_with fail
  refine (wtold_any p3 A3 n3 c3 _ _ z3 (by omega)).mono ?_
  rintro e w1 ⟨rfl, k⟩
  replace KK := KK.below k
  clear k z1 z3
  go_wp2_with fail
  have hltgm := KK.head.lt
  replace KK := KK.more (.int .i64 (hv (-a))) (.int .u64 (lv (-a))) 24
  generalize hw1 : w1.alloc (.cells #[.int .i64 (hv (-a)), .int .u64 (lv (-a))] 24) = w2 at *
  generalize hg : w1.heap.size = gm at *
  clear hw1 hg
  refine (alive_any _).mono ?_
  rintro e w1 ⟨rfl, k⟩
  replace KK := KK.below k
  clear k
  obtain ⟨_, a0, a0', _, _⟩ := KK.head
  obtain ⟨_, a1, a1', _, _⟩ := KK.tail.head
  obtain ⟨_, a2, a2', _, _⟩ := KK.tail.tail.head
  obtain ⟨_, a3, a3', _, _⟩ := KK.tail.tail.tail.head
  obtain ⟨_, a4, a4', _, _⟩ := KK.tail.tail.tail.tail.head
  obtain ⟨_, a5, a5', _, _⟩ := KK.tail.tail.tail.tail.tail.head
  have HB := KK.hb
  go_wp2
  go_ret
  exact ⟨rfl, HB⟩
end Go.Proofs.Ytpjhenipeafbiaa
