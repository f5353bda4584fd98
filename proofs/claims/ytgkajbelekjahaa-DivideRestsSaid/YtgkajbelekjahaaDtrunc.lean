/- The document's answer of layer 3: quotients that are cut towards 0, told. -/
import Derived.Test.YtgkajbelekjahaaDfloor
import Derived.Test.YtgkajbelekjahaaDcut
namespace Go.Proofs.Ytgkajbelekjahaa
open Go.RowKit

set_option maxRecDepth 100000 in
set_option maxHeartbeats 8000000 in
theorem trunc_zero (a b : Int) (ha : InW a) (hb : InW b) (hb0 : b = 0) (w : World) :
    Calls Try.prog 14 #[.agg #[.int .i64 (hiW a), .int .u64 (loW a)], .agg #[.int .i64 (hiW b), .int .u64 (loW b)]] w (RetRef w 3) := by
  have OA := Lib.hid (fun W => wof_z a ha W)
  have OB := Lib.hid (fun W => wof_z b hb W)
  have sa := Lib.hid (small_w ha)
  have sb := Lib.hid (small_w hb)
  clear ha hb
  have SG := Lib.hid (show ∀ p A m c W, Zs W p A m c b → m ≤ 900000 → Calls Try.prog 30 #[.agg #[.bool p, .slice A m c]] W (RetV W (.int .i64 0)) from fun p A m c W h1 h2 => by have := sign_any p A m c b W h1 h2; rwa [hb0, cmpZ_eq rfl] at this)
  clear hb0
  go_enter Try.func14, Try.ntmps14
  go_wp2_with fail
  have KK := ((((PairsK.nil w).more (.int .i64 (hiW a)) (.int .u64 (loW a)) 24).more (.int .i64 (hiW b)) (.int .u64 (loW b)) 24).more (.int .i64 0) (.int .u64 0) 24).more (.int .i64 0) (.int .u64 0) 24
  simp only [World.size_alloc] at KK
  generalize (((w.alloc (.cells #[.int .i64 (hiW a), .int .u64 (loW a)] 24)).alloc (.cells #[.int .i64 (hiW b), .int .u64 (loW b)] 24)).alloc (.cells #[.int .i64 0, .int .u64 0] 24)).alloc (.cells #[.int .i64 0, .int .u64 0] 24) = w0 at *
  have st : PreD (w.heap.size + 1 + 1 + 1) (PairsK w [(w.heap.size + 1 + 1 + 1, .int .i64 0, .int .u64 0), (w.heap.size + 1 + 1, .int .i64 0, .int .u64 0), (w.heap.size + 1, .int .i64 (hiW b), .int .u64 (loW b)), (w.heap.size, .int .i64 (hiW a), .int .u64 (loW a))]) w0 [] := KK.preZ _ (by simp <;> omega) (by omega) KK.head.lt
  clear KK
  go_cut [7, 8] (fun v7 v8 wx => DivCutD (w.heap.size + 1 + 1 + 1) (PairsK w [(w.heap.size + 1 + 1 + 1, .int .i64 0, .int .u64 0), (w.heap.size + 1 + 1, .int .i64 0, .int .u64 0), (w.heap.size + 1, .int .i64 (hiW b), .int .u64 (loW b)), (w.heap.size, .int .i64 (hiW a), .int .u64 (loW a))]) a b v7 v8 wx)
  case first =>
    obtain ⟨_, a0, a1, _, _⟩ := st.k.tail.tail.tail.head
    obtain ⟨_, b0, b1, _, _⟩ := st.k.tail.tail.head
    obtain ⟨gn1, gn2, gn3, gn4⟩ := behind4 st.lt
    try obtain ⟨gm1, gm2, gm3, gm4⟩ := behind4 (st.ge _ (List.mem_cons_self ..))
    try obtain ⟨gk1, gk2, gk3, gk4⟩ := behind4 (st.ge _ (List.mem_cons_of_mem _ (List.mem_cons_self ..)))
    go_region_held3 (fun w' => w'.cell? ⟨w.heap.size, 0, none⟩ = some (.int .i64 (hiW a)) ∧ w'.cell? ⟨w.heap.size, 1, none⟩ = some (.int .u64 (loW a)) ∧ w'.cell? ⟨w.heap.size + 1, 0, none⟩ = some (.int .i64 (hiW b)) ∧ w'.cell? ⟨w.heap.size + 1, 1, none⟩ = some (.int .u64 (loW b))) (first | (with_reducible exact ⟨st.k.tail.tail.tail.head.c0, st.k.tail.tail.tail.head.c1, st.k.tail.tail.head.c0, st.k.tail.tail.head.c1⟩) | (with_reducible exact ⟨st.alloc1.k.tail.tail.tail.head.c0, st.alloc1.k.tail.tail.tail.head.c1, st.alloc1.k.tail.tail.head.c0, st.alloc1.k.tail.tail.head.c1⟩) | (with_reducible exact ⟨st.alloc2.k.tail.tail.tail.head.c0, st.alloc2.k.tail.tail.tail.head.c1, st.alloc2.k.tail.tail.head.c0, st.alloc2.k.tail.tail.head.c1⟩) | (with_reducible exact ⟨st.drew.k.tail.tail.tail.head.c0, st.drew.k.tail.tail.tail.head.c1, st.drew.k.tail.tail.head.c0, st.drew.k.tail.tail.head.c1⟩) | (with_reducible exact ⟨st.alloc1.drew.k.tail.tail.tail.head.c0, st.alloc1.drew.k.tail.tail.tail.head.c1, st.alloc1.drew.k.tail.tail.head.c0, st.alloc1.drew.k.tail.tail.head.c1⟩) | (with_reducible exact ⟨st.alloc2.drew.k.tail.tail.tail.head.c0, st.alloc2.drew.k.tail.tail.tail.head.c1, st.alloc2.drew.k.tail.tail.head.c0, st.alloc2.drew.k.tail.tail.head.c1⟩) | go_keep)
      (first
        | (go_at_call 20; (with_reducible refine (OA.out _).mono ?_); rintro e x1 ⟨p1, A1, n1, c1, rfl, z1, k⟩
           have l1 := z1.small sa.out
           with_reducible (first | replace st := st.below k | replace st := st.alloc1.below k | replace st := st.alloc2.below k | replace st := st.drew.below k | replace st := st.alloc1.drew.below k | replace st := st.alloc2.drew.below k)
           clear k
           obtain ⟨_, a2, a3, _, _⟩ := st.k.tail.tail.tail.head
           obtain ⟨_, b2, b3, _, _⟩ := st.k.tail.tail.head
           obtain ⟨gn1, gn2, gn3, gn4⟩ := behind4 st.lt
           try obtain ⟨gm1, gm2, gm3, gm4⟩ := behind4 (st.ge _ (List.mem_cons_self ..))
           try obtain ⟨gk1, gk2, gk3, gk4⟩ := behind4 (st.ge _ (List.mem_cons_of_mem _ (List.mem_cons_self ..)))
           try obtain ⟨_, y0, y1, y2, y3⟩ := st.al _ (List.mem_cons_self ..)
           try obtain ⟨_, y4, y5, y6, y7⟩ := st.al _ (List.mem_cons_of_mem _ (List.mem_cons_self ..)))
        | (go_at_call 20; (with_reducible refine (OB.out _).mono ?_); rintro e x2 ⟨p2, A2, n2, c2, rfl, z2, k⟩
           have l2 := z2.small sb.out
           with_reducible (first | replace z1 := z1.below k | replace z1 := (z1.below (below_box _ _)).below k | replace z1 := z1.drew.below k | replace z1 := (z1.below (below_box _ _)).drew.below k | replace z1 := ((z1.below (below_box _ _)).below (below_box _ _)).below k | replace z1 := ((z1.below (below_box _ _)).below (below_box _ _)).drew.below k)
           with_reducible (first | replace st := st.below k | replace st := st.alloc1.below k | replace st := st.alloc2.below k | replace st := st.drew.below k | replace st := st.alloc1.drew.below k | replace st := st.alloc2.drew.below k)
           clear k
           obtain ⟨_, a2, a3, _, _⟩ := st.k.tail.tail.tail.head
           obtain ⟨_, b2, b3, _, _⟩ := st.k.tail.tail.head
           obtain ⟨gn1, gn2, gn3, gn4⟩ := behind4 st.lt
           try obtain ⟨gm1, gm2, gm3, gm4⟩ := behind4 (st.ge _ (List.mem_cons_self ..))
           try obtain ⟨gk1, gk2, gk3, gk4⟩ := behind4 (st.ge _ (List.mem_cons_of_mem _ (List.mem_cons_self ..)))
           try obtain ⟨_, y0, y1, y2, y3⟩ := st.al _ (List.mem_cons_self ..)
           try obtain ⟨_, y4, y5, y6, y7⟩ := st.al _ (List.mem_cons_of_mem _ (List.mem_cons_self ..))))
    all_goals
      go_wp2_with fail
      go_meet
      refine ⟨_, _, p1, A1, n1, c1, p2, A2, n2, c2, rfl, rfl, ?_⟩
      with_reducible first | exact st.fin1a z1 z2 | exact st.fin1b z1 z2 | exact st.fin2a z1 z2 | exact st.fin2b z1 z2 | exact st.fin3a z1 z2 | exact st.fin3b z1 z2
  case rest =>
  obtain ⟨g, h, pq, Aq, nq, cq, pr, Ar, nr, cr, rfl, rfl, s0⟩ := hcut
  clear st
  have lx := s0.zq.small sa.out
  have ly := s0.zr.small sb.out
  obtain ⟨_, r0, r1, _, _⟩ := id s0.br
  go_wp2_with fail
  refine (SG.out _ _ _ _ _ s0.zr (by omega)).mono ?_
  rintro e w1 ⟨rfl, k⟩
  have KK := s0.k.below k
  clear k s0 r0 r1
  obtain ⟨_, s2, s3, t2, t3⟩ := KK.tail.head
  obtain ⟨_, s4, s5, t4, t5⟩ := KK.head
  go_wp2
  have i5 : w.heap.size + 1 + 1 ≠ w.heap.size + 1 + 1 + 1 := by omega
  have P2 := ((KK.tail.head.self2 (.int .i64 0) (.int .u64 0)).far2 (Ne.symm i5) (.int .i64 0) (.int .u64 0))
  have P3 := ((KK.head.far2 i5 (.int .i64 0) (.int .u64 0)).self2 (.int .i64 0) (.int .u64 0))
  have HB := ((((KK.hb.setCell (p := ⟨w.heap.size + 1 + 1, 0, none⟩) (by show _ ≤ w.heap.size + 1 + 1; omega) (.int .i64 0)).setCell (p := ⟨w.heap.size + 1 + 1, 1, none⟩) (by show _ ≤ w.heap.size + 1 + 1; omega) (.int .u64 0)).setCell (p := ⟨w.heap.size + 1 + 1 + 1, 0, none⟩) (by show _ ≤ w.heap.size + 1 + 1 + 1; omega) (.int .i64 0)).setCell (p := ⟨w.heap.size + 1 + 1 + 1, 1, none⟩) (by show _ ≤ w.heap.size + 1 + 1 + 1; omega) (.int .u64 0))
  exact bodyPost_ret (v := .tuple #[.agg #[.int .i64 0, .int .u64 0], .agg #[.int .i64 0, .int .u64 0], .int .i64 3]) (by simp [results, Try.results14, go_sem, P2.c0, P2.c1, P3.c0, P3.c1]) rfl (⟨rfl, HB⟩)

set_option maxRecDepth 100000 in
set_option maxHeartbeats 8000000 in
theorem trunc_any (a b : Int) (ha : InW a) (hb : InW b) (hb0 : b ≠ 0) (w : World) :
    Calls Try.prog 14 #[.agg #[.int .i64 (hiW a), .int .u64 (loW a)], .agg #[.int .i64 (hiW b), .int .u64 (loW b)]] w (RetWWE w (a.tdiv b) (a.tmod b)) := by
  have OA := Lib.hid (fun W => wof_z a ha W)
  have OB := Lib.hid (fun W => wof_z b hb W)
  have sa := Lib.hid (small_w ha)
  have sb := Lib.hid (small_w hb)
  clear ha hb
  have DV := Lib.hid (fun p q A B n m c d W h1 h2 => cut_any p q A B n m c d a b W h1 h2 sa.out sb.out hb0)
  obtain ⟨v, hv0, hv1⟩ : ∃ v : Int, v = cmpZ b 0 ∧ (v == 0) = false := ⟨_, rfl, by rw [beq_eq_false_iff_ne]; rcases Int.lt_trichotomy b 0 with h | h | h; rw [cmpZ_lt h]; decide; exact absurd h hb0; rw [cmpZ_gt h]; decide⟩
  have SG := Lib.hid (show ∀ p A m c W, Zs W p A m c b → m ≤ 900000 → Calls Try.prog 30 #[.agg #[.bool p, .slice A m c]] W (RetV W (.int .i64 v)) from fun p A m c W h1 h2 => by rw [hv0]; exact sign_any p A m c b W h1 h2)
  clear hv0
  have SQ := Lib.hid (show (a.tdiv b).natAbs < 65536 ^ 9 from Nat.lt_of_le_of_lt (tdiv_le a b) sa.out)
  have SR := Lib.hid (show (a.tmod b).natAbs < 65536 ^ 9 from Nat.lt_trans (tmod_lt a b hb0) sb.out)
  clear hb0
  generalize a.tdiv b = Q at *
  generalize a.tmod b = R at *
  go_enter Try.func14, Try.ntmps14
  go_wp2_with fail
  have KK := ((((PairsK.nil w).more (.int .i64 (hiW a)) (.int .u64 (loW a)) 24).more (.int .i64 (hiW b)) (.int .u64 (loW b)) 24).more (.int .i64 0) (.int .u64 0) 24).more (.int .i64 0) (.int .u64 0) 24
  simp only [World.size_alloc] at KK
  generalize (((w.alloc (.cells #[.int .i64 (hiW a), .int .u64 (loW a)] 24)).alloc (.cells #[.int .i64 (hiW b), .int .u64 (loW b)] 24)).alloc (.cells #[.int .i64 0, .int .u64 0] 24)).alloc (.cells #[.int .i64 0, .int .u64 0] 24) = w0 at *
  have st : PreD (w.heap.size + 1 + 1 + 1) (PairsK w [(w.heap.size + 1 + 1 + 1, .int .i64 0, .int .u64 0), (w.heap.size + 1 + 1, .int .i64 0, .int .u64 0), (w.heap.size + 1, .int .i64 (hiW b), .int .u64 (loW b)), (w.heap.size, .int .i64 (hiW a), .int .u64 (loW a))]) w0 [] := KK.preZ _ (by simp <;> omega) (by omega) KK.head.lt
  clear KK
  go_cut [7, 8] (fun v7 v8 wx => DivCutD (w.heap.size + 1 + 1 + 1) (PairsK w [(w.heap.size + 1 + 1 + 1, .int .i64 0, .int .u64 0), (w.heap.size + 1 + 1, .int .i64 0, .int .u64 0), (w.heap.size + 1, .int .i64 (hiW b), .int .u64 (loW b)), (w.heap.size, .int .i64 (hiW a), .int .u64 (loW a))]) a b v7 v8 wx)
  case first =>
    obtain ⟨_, a0, a1, _, _⟩ := st.k.tail.tail.tail.head
    obtain ⟨_, b0, b1, _, _⟩ := st.k.tail.tail.head
    obtain ⟨gn1, gn2, gn3, gn4⟩ := behind4 st.lt
    try obtain ⟨gm1, gm2, gm3, gm4⟩ := behind4 (st.ge _ (List.mem_cons_self ..))
    try obtain ⟨gk1, gk2, gk3, gk4⟩ := behind4 (st.ge _ (List.mem_cons_of_mem _ (List.mem_cons_self ..)))
    go_region_held3 (fun w' => w'.cell? ⟨w.heap.size, 0, none⟩ = some (.int .i64 (hiW a)) ∧ w'.cell? ⟨w.heap.size, 1, none⟩ = some (.int .u64 (loW a)) ∧ w'.cell? ⟨w.heap.size + 1, 0, none⟩ = some (.int .i64 (hiW b)) ∧ w'.cell? ⟨w.heap.size + 1, 1, none⟩ = some (.int .u64 (loW b))) (first | (with_reducible exact ⟨st.k.tail.tail.tail.head.c0, st.k.tail.tail.tail.head.c1, st.k.tail.tail.head.c0, st.k.tail.tail.head.c1⟩) | (with_reducible exact ⟨st.alloc1.k.tail.tail.tail.head.c0, st.alloc1.k.tail.tail.tail.head.c1, st.alloc1.k.tail.tail.head.c0, st.alloc1.k.tail.tail.head.c1⟩) | (with_reducible exact ⟨st.alloc2.k.tail.tail.tail.head.c0, st.alloc2.k.tail.tail.tail.head.c1, st.alloc2.k.tail.tail.head.c0, st.alloc2.k.tail.tail.head.c1⟩) | (with_reducible exact ⟨st.drew.k.tail.tail.tail.head.c0, st.drew.k.tail.tail.tail.head.c1, st.drew.k.tail.tail.head.c0, st.drew.k.tail.tail.head.c1⟩) | (with_reducible exact ⟨st.alloc1.drew.k.tail.tail.tail.head.c0, st.alloc1.drew.k.tail.tail.tail.head.c1, st.alloc1.drew.k.tail.tail.head.c0, st.alloc1.drew.k.tail.tail.head.c1⟩) | (with_reducible exact ⟨st.alloc2.drew.k.tail.tail.tail.head.c0, st.alloc2.drew.k.tail.tail.tail.head.c1, st.alloc2.drew.k.tail.tail.head.c0, st.alloc2.drew.k.tail.tail.head.c1⟩) | go_keep)
      (first
        | (go_at_call 20; (with_reducible refine (OA.out _).mono ?_); rintro e x1 ⟨p1, A1, n1, c1, rfl, z1, k⟩
           have l1 := z1.small sa.out
           with_reducible (first | replace st := st.below k | replace st := st.alloc1.below k | replace st := st.alloc2.below k | replace st := st.drew.below k | replace st := st.alloc1.drew.below k | replace st := st.alloc2.drew.below k)
           clear k
           obtain ⟨_, a2, a3, _, _⟩ := st.k.tail.tail.tail.head
           obtain ⟨_, b2, b3, _, _⟩ := st.k.tail.tail.head
           obtain ⟨gn1, gn2, gn3, gn4⟩ := behind4 st.lt
           try obtain ⟨gm1, gm2, gm3, gm4⟩ := behind4 (st.ge _ (List.mem_cons_self ..))
           try obtain ⟨gk1, gk2, gk3, gk4⟩ := behind4 (st.ge _ (List.mem_cons_of_mem _ (List.mem_cons_self ..)))
           try obtain ⟨_, y0, y1, y2, y3⟩ := st.al _ (List.mem_cons_self ..)
           try obtain ⟨_, y4, y5, y6, y7⟩ := st.al _ (List.mem_cons_of_mem _ (List.mem_cons_self ..)))
        | (go_at_call 20; (with_reducible refine (OB.out _).mono ?_); rintro e x2 ⟨p2, A2, n2, c2, rfl, z2, k⟩
           have l2 := z2.small sb.out
           with_reducible (first | replace z1 := z1.below k | replace z1 := (z1.below (below_box _ _)).below k | replace z1 := z1.drew.below k | replace z1 := (z1.below (below_box _ _)).drew.below k | replace z1 := ((z1.below (below_box _ _)).below (below_box _ _)).below k | replace z1 := ((z1.below (below_box _ _)).below (below_box _ _)).drew.below k)
           with_reducible (first | replace st := st.below k | replace st := st.alloc1.below k | replace st := st.alloc2.below k | replace st := st.drew.below k | replace st := st.alloc1.drew.below k | replace st := st.alloc2.drew.below k)
           clear k
           obtain ⟨_, a2, a3, _, _⟩ := st.k.tail.tail.tail.head
           obtain ⟨_, b2, b3, _, _⟩ := st.k.tail.tail.head
           obtain ⟨gn1, gn2, gn3, gn4⟩ := behind4 st.lt
           try obtain ⟨gm1, gm2, gm3, gm4⟩ := behind4 (st.ge _ (List.mem_cons_self ..))
           try obtain ⟨gk1, gk2, gk3, gk4⟩ := behind4 (st.ge _ (List.mem_cons_of_mem _ (List.mem_cons_self ..)))
           try obtain ⟨_, y0, y1, y2, y3⟩ := st.al _ (List.mem_cons_self ..)
           try obtain ⟨_, y4, y5, y6, y7⟩ := st.al _ (List.mem_cons_of_mem _ (List.mem_cons_self ..))))
    all_goals
      go_wp2_with fail
      go_meet
      refine ⟨_, _, p1, A1, n1, c1, p2, A2, n2, c2, rfl, rfl, ?_⟩
      with_reducible first | exact st.fin1a z1 z2 | exact st.fin1b z1 z2 | exact st.fin2a z1 z2 | exact st.fin2b z1 z2 | exact st.fin3a z1 z2 | exact st.fin3b z1 z2
  case rest =>
  obtain ⟨g, h, pq, Aq, nq, cq, pr, Ar, nr, cr, rfl, rfl, s0⟩ := hcut
  clear st
  have lx := s0.zq.small sa.out
  have ly := s0.zr.small sb.out
  obtain ⟨_, r0, r1, _, _⟩ := id s0.br
  go_wp2_with fail
  refine (SG.out _ _ _ _ _ s0.zr (by omega)).mono ?_
  rintro e w1 ⟨rfl, k⟩
  replace s0 := s0.below k
  clear k r0 r1
  obtain ⟨_, r0, r1, _, _⟩ := id s0.br
  obtain ⟨_, q0, q1, _, _⟩ := id s0.bq
  go_wp2_with fail
  refine (DV.out _ _ _ _ _ _ _ _ _ s0.zq s0.zr).mono ?_
  rintro e w2 ⟨p1, A1, n1, c1, p2, A2, n2, c2, rfl, z1, z2, k⟩
  have l1 := z1.small SQ.out
  have l2 := z2.small SR.out
  have KK := s0.k.below k
  clear k s0 r0 r1 q0 q1
  go_wp2_with fail
  refine (told2_any p1 p2 A1 A2 n1 n2 c1 c2 _ _ _ ((z1.below (below_box _ _)).below (below_box _ _)) ((z2.below (below_box _ _)).below (below_box _ _)) (by omega) (by omega)).mono ?_
  rintro e w3 ⟨rfl, k⟩
  replace KK := ((KK.below (below_box _ _)).below (below_box _ _)).below k
  clear k z1 z2
  obtain ⟨_, s2, s3, t2, t3⟩ := KK.tail.head
  obtain ⟨_, s4, s5, t4, t5⟩ := KK.head
  go_wp2
  have i5 : w.heap.size + 1 + 1 ≠ w.heap.size + 1 + 1 + 1 := by omega
  have P2 := ((KK.tail.head.self2 (.int .i64 (hv Q)) (.int .u64 (lv Q))).far2 (Ne.symm i5) (.int .i64 (hv2 Q R)) (.int .u64 (lv2 Q R)))
  have P3 := ((KK.head.far2 i5 (.int .i64 (hv Q)) (.int .u64 (lv Q))).self2 (.int .i64 (hv2 Q R)) (.int .u64 (lv2 Q R)))
  have HB := ((((KK.hb.setCell (p := ⟨w.heap.size + 1 + 1, 0, none⟩) (by show _ ≤ w.heap.size + 1 + 1; omega) (.int .i64 (hv Q))).setCell (p := ⟨w.heap.size + 1 + 1, 1, none⟩) (by show _ ≤ w.heap.size + 1 + 1; omega) (.int .u64 (lv Q))).setCell (p := ⟨w.heap.size + 1 + 1 + 1, 0, none⟩) (by show _ ≤ w.heap.size + 1 + 1 + 1; omega) (.int .i64 (hv2 Q R))).setCell (p := ⟨w.heap.size + 1 + 1 + 1, 1, none⟩) (by show _ ≤ w.heap.size + 1 + 1 + 1; omega) (.int .u64 (lv2 Q R)))
  exact bodyPost_ret (v := .tuple #[.agg #[.int .i64 (hv Q), .int .u64 (lv Q)], .agg #[.int .i64 (hv2 Q R), .int .u64 (lv2 Q R)], .int .i64 (ev Q)]) (by simp [results, Try.results14, go_sem, P2.c0, P2.c1, P3.c0, P3.c1]) rfl (⟨rfl, HB⟩)
end Go.Proofs.Ytgkajbelekjahaa
