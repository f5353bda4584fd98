/- The document's answer of layer 3: a fraction in its lowest terms, told. -/
import Derived.Test.YtgkajbelekjahaaDfloor
import Derived.Test.YtgkajbelekjahaaDlowest
namespace Go.Proofs.Ytgkajbelekjahaa
open Go.RowKit

/-- what is told of a fraction -/
def fv (P Q v : Int) : Int := if InW P ∧ InW Q then v else 0
def fe (P Q : Int) : Int := if InW P ∧ InW Q then 0 else 2
/-- What a call that answers a fraction leaves. -/
def RetFr (w : World) (P Q : Int) (e : Ending) (w' : World) : Prop :=
  e = .returned (.tuple #[.agg #[.int .i64 (fv P Q (hiW P)), .int .u64 (fv P Q (loW P))], .agg #[.int .i64 (fv P Q (hiW Q)), .int .u64 (fv P Q (loW Q))], .int .i64 (fe P Q)]) ∧ Below w.heap.size w w'

set_option maxRecDepth 100000 in
set_option maxHeartbeats 8000000 in
theorem fraction_zero (a b : Int) (ha : InW a) (hb : InW b) (hb0 : b = 0) (w : World) :
    Calls Try.prog 22 #[.agg #[.int .i64 (hiW a), .int .u64 (loW a)], .agg #[.int .i64 (hiW b), .int .u64 (loW b)]] w (RetRef w 3) := by
  have OA := Lib.hid (fun W => wof_z a ha W)
  have OB := Lib.hid (fun W => wof_z b hb W)
  have sa := Lib.hid (small_w ha)
  have sb := Lib.hid (small_w hb)
  clear ha hb
  have SG := Lib.hid (show ∀ p A m c W, Zs W p A m c b → m ≤ 900000 → Calls Try.prog 30 #[.agg #[.bool p, .slice A m c]] W (RetV W (.int .i64 0)) from fun p A m c W h1 h2 => by have := sign_any p A m c b W h1 h2; rwa [hb0, cmpZ_eq rfl] at this)
  clear hb0
  go_enter Try.func22, Try.ntmps22
  go_wp2_with fail
  have KK := ((((PairsK.nil w).more (.int .i64 (hiW a)) (.int .u64 (loW a)) 24).more (.int .i64 (hiW b)) (.int .u64 (loW b)) 24).more (.int .i64 0) (.int .u64 0) 24).more (.int .i64 0) (.int .u64 0) 24
  simp only [World.size_alloc] at KK
  generalize (((w.alloc (.cells #[.int .i64 (hiW a), .int .u64 (loW a)] 24)).alloc (.cells #[.int .i64 (hiW b), .int .u64 (loW b)] 24)).alloc (.cells #[.int .i64 0, .int .u64 0] 24)).alloc (.cells #[.int .i64 0, .int .u64 0] 24) = w0 at *
  have st : PreD (w.heap.size + 1 + 1 + 1) (PairsK w [(w.heap.size + 1 + 1 + 1, .int .i64 0, .int .u64 0), (w.heap.size + 1 + 1, .int .i64 0, .int .u64 0), (w.heap.size + 1, .int .i64 (hiW b), .int .u64 (loW b)), (w.heap.size, .int .i64 (hiW a), .int .u64 (loW a))]) w0 [] := KK.preZ _ (by simp <;> omega) (by omega) KK.head.lt
  clear KK
  go_cut [7, 8] (fun v7 v8 wx => DivCutD (w.heap.size + 1 + 1 + 1) (PairsK w [(w.heap.size + 1 + 1 + 1, .int .i64 0, .int .u64 0), (w.heap.size + 1 + 1, .int .i64 0, .int .u64 0), (w.heap.size + 1, .int .i64 (hiW b), .int .u64 (loW b)), (w.heap.size, .int .i64 (hiW a), .int .u64 (loW a))]) a b v7 v8 wx)
  case first =>
    obtain ⟨_, a0, a1, _, _⟩ := st.k.tail.tail.tail.head
    obtain ⟨_, b0, b1, _, _⟩ := st.k.tail.tail.head
    obtain ⟨gn1, gn2, gn3, gn4⟩ := behind4 st.lt
    try obtain ⟨gm1, gm2, gm3, gm4⟩ := behind4 (st.ge _ (List.mem_cons_self ..))
    try obtain ⟨gk1, gk2, gk3, gk4⟩ := behind4 (st.ge _ (List.mem_cons_of_mem _ (List.mem_cons_self ..)))
    go_region_held3 (fun w' => w'.cell? ⟨w.heap.size, 0, none⟩ = some (.int .i64 (hiW a)) ∧ w'.cell? ⟨w.heap.size, 1, none⟩ = some (.int .u64 (loW a)) ∧ w'.cell? ⟨w.heap.size + 1, 0, none⟩ = some (.int .i64 (hiW b)) ∧ w'.cell? ⟨w.heap.size + 1, 1, none⟩ = some (.int .u64 (loW b))) (first | (with_reducible exact ⟨st.k.tail.tail.tail.head.c0, st.k.tail.tail.tail.head.c1, st.k.tail.tail.head.c0, st.k.tail.tail.head.c1⟩) | (with_reducible exact ⟨st.alloc1.k.tail.tail.tail.head.c0, st.alloc1.k.tail.tail.tail.head.c1, st.alloc1.k.tail.tail.head.c0, st.alloc1.k.tail.tail.head.c1⟩) | (with_reducible exact ⟨st.alloc2.k.tail.tail.tail.head.c0, st.alloc2.k.tail.tail.tail.head.c1, st.alloc2.k.tail.tail.head.c0, st.alloc2.k.tail.tail.head.c1⟩) | (with_reducible exact ⟨st.drew.k.tail.tail.tail.head.c0, st.drew.k.tail.tail.tail.head.c1, st.drew.k.tail.tail.head.c0, st.drew.k.tail.tail.head.c1⟩) | (with_reducible exact ⟨st.alloc1.drew.k.tail.tail.tail.head.c0, st.alloc1.drew.k.tail.tail.tail.head.c1, st.alloc1.drew.k.tail.tail.head.c0, st.alloc1.drew.k.tail.tail.head.c1⟩) | (with_reducible exact ⟨st.alloc2.drew.k.tail.tail.tail.head.c0, st.alloc2.drew.k.tail.tail.tail.head.c1, st.alloc2.drew.k.tail.tail.head.c0, st.alloc2.drew.k.tail.tail.head.c1⟩) | go_keep)
      (first
        | (go_at_call 20; (with_reducible refine (OA.out _).mono ?_); rintro e x1 ⟨p1, A1, n1, c1, rfl, z1, k⟩
           have l1 := z1.small sa.out
           with_reducible (first | replace st := st.below k | replace st := st.alloc1.below k | replace st := st.alloc2.below k | replace st := st.drew.below k | replace st := st.alloc1.drew.below k | replace st := st.alloc2.drew.below k)
           clear k
           obtain ⟨_, a2, a3, _, _⟩ := st.k.tail.tail.tail.head
           obtain ⟨_, b2, b3, _, _⟩ := st.k.tail.tail.head
           obtain ⟨gn1, gn2, gn3, gn4⟩ := behind4 st.lt
           try obtain ⟨gm1, gm2, gm3, gm4⟩ := behind4 (st.ge _ (List.mem_cons_self ..))
           try obtain ⟨gk1, gk2, gk3, gk4⟩ := behind4 (st.ge _ (List.mem_cons_of_mem _ (List.mem_cons_self ..)))
           try obtain ⟨_, y0, y1, y2, y3⟩ := st.al _ (List.mem_cons_self ..)
           try obtain ⟨_, y4, y5, y6, y7⟩ := st.al _ (List.mem_cons_of_mem _ (List.mem_cons_self ..)))
        | (go_at_call 20; (with_reducible refine (OB.out _).mono ?_); rintro e x2 ⟨p2, A2, n2, c2, rfl, z2, k⟩
           have l2 := z2.small sb.out
           with_reducible (first | replace z1 := z1.below k | replace z1 := (z1.below (below_box _ _)).below k | replace z1 := z1.drew.below k | replace z1 := (z1.below (below_box _ _)).drew.below k | replace z1 := ((z1.below (below_box _ _)).below (below_box _ _)).below k | replace z1 := ((z1.below (below_box _ _)).below (below_box _ _)).drew.below k)
           with_reducible (first | replace st := st.below k | replace st := st.alloc1.below k | replace st := st.alloc2.below k | replace st := st.drew.below k | replace st := st.alloc1.drew.below k | replace st := st.alloc2.drew.below k)
           clear k
           obtain ⟨_, a2, a3, _, _⟩ := st.k.tail.tail.tail.head
           obtain ⟨_, b2, b3, _, _⟩ := st.k.tail.tail.head
           obtain ⟨gn1, gn2, gn3, gn4⟩ := behind4 st.lt
           try obtain ⟨gm1, gm2, gm3, gm4⟩ := behind4 (st.ge _ (List.mem_cons_self ..))
           try obtain ⟨gk1, gk2, gk3, gk4⟩ := behind4 (st.ge _ (List.mem_cons_of_mem _ (List.mem_cons_self ..)))
           try obtain ⟨_, y0, y1, y2, y3⟩ := st.al _ (List.mem_cons_self ..)
           try obtain ⟨_, y4, y5, y6, y7⟩ := st.al _ (List.mem_cons_of_mem _ (List.mem_cons_self ..))))
    all_goals
      go_wp2_with fail
      go_meet
      refine ⟨_, _, p1, A1, n1, c1, p2, A2, n2, c2, rfl, rfl, ?_⟩
      with_reducible first | exact st.fin1a z1 z2 | exact st.fin1b z1 z2 | exact st.fin2a z1 z2 | exact st.fin2b z1 z2 | exact st.fin3a z1 z2 | exact st.fin3b z1 z2
  case rest =>
  obtain ⟨g, h, pq, Aq, nq, cq, pr, Ar, nr, cr, rfl, rfl, s0⟩ := hcut
  clear st
  have lx := s0.zq.small sa.out
  have ly := s0.zr.small sb.out
  obtain ⟨_, r0, r1, _, _⟩ := id s0.br
  go_wp2_with fail
  refine (SG.out _ _ _ _ _ s0.zr (by omega)).mono ?_
  rintro e w1 ⟨rfl, k⟩
  have KK := s0.k.below k
  clear k s0 r0 r1
  obtain ⟨_, s2, s3, t2, t3⟩ := KK.tail.head
  obtain ⟨_, s4, s5, t4, t5⟩ := KK.head
  go_wp2
  have i5 : w.heap.size + 1 + 1 ≠ w.heap.size + 1 + 1 + 1 := by omega
  have P2 := ((KK.tail.head.self2 (.int .i64 0) (.int .u64 0)).far2 (Ne.symm i5) (.int .i64 0) (.int .u64 0))
  have P3 := ((KK.head.far2 i5 (.int .i64 0) (.int .u64 0)).self2 (.int .i64 0) (.int .u64 0))
  have HB := ((((KK.hb.setCell (p := ⟨w.heap.size + 1 + 1, 0, none⟩) (by show _ ≤ w.heap.size + 1 + 1; omega) (.int .i64 0)).setCell (p := ⟨w.heap.size + 1 + 1, 1, none⟩) (by show _ ≤ w.heap.size + 1 + 1; omega) (.int .u64 0)).setCell (p := ⟨w.heap.size + 1 + 1 + 1, 0, none⟩) (by show _ ≤ w.heap.size + 1 + 1 + 1; omega) (.int .i64 0)).setCell (p := ⟨w.heap.size + 1 + 1 + 1, 1, none⟩) (by show _ ≤ w.heap.size + 1 + 1 + 1; omega) (.int .u64 0))
  exact bodyPost_ret (v := .tuple #[.agg #[.int .i64 0, .int .u64 0], .agg #[.int .i64 0, .int .u64 0], .int .i64 3]) (by simp [results, Try.results22, go_sem, P2.c0, P2.c1, P3.c0, P3.c1]) rfl (⟨rfl, HB⟩)

set_option maxRecDepth 100000 in
set_option maxHeartbeats 8000000 in
theorem fraction_any (a b : Int) (ha : InW a) (hb : InW b) (hb0 : b ≠ 0) (w : World) :
    Calls Try.prog 22 #[.agg #[.int .i64 (hiW a), .int .u64 (loW a)], .agg #[.int .i64 (hiW b), .int .u64 (loW b)]] w (RetFr w (a.fdiv (gcdS a b)) (b.fdiv (gcdS a b))) := by
  have OA := Lib.hid (fun W => wof_z a ha W)
  have OB := Lib.hid (fun W => wof_z b hb W)
  have sa := Lib.hid (small_w ha)
  have sb := Lib.hid (small_w hb)
  clear ha hb
  have DV := Lib.hid (fun p q A B n m c d W h1 h2 => lowest_any p q A B n m c d a b W h1 h2 sa.out sb.out hb0)
  obtain ⟨v, hv0, hv1⟩ : ∃ v : Int, v = cmpZ b 0 ∧ (v == 0) = false := ⟨_, rfl, by rw [beq_eq_false_iff_ne]; rcases Int.lt_trichotomy b 0 with h | h | h; rw [cmpZ_lt h]; decide; exact absurd h hb0; rw [cmpZ_gt h]; decide⟩
  have SG := Lib.hid (show ∀ p A m c W, Zs W p A m c b → m ≤ 900000 → Calls Try.prog 30 #[.agg #[.bool p, .slice A m c]] W (RetV W (.int .i64 v)) from fun p A m c W h1 h2 => by rw [hv0]; exact sign_any p A m c b W h1 h2)
  clear hv0
  have SQ := Lib.hid (show (a.fdiv (gcdS a b)).natAbs < 65536 ^ 9 from quot_small sa.out (gcdS_ne a b hb0))
  have SR := Lib.hid (show (b.fdiv (gcdS a b)).natAbs < 65536 ^ 9 from quot_small sb.out (gcdS_ne a b hb0))
  clear hb0
  generalize a.fdiv (gcdS a b) = P at *
  generalize b.fdiv (gcdS a b) = Q at *
  by_cases hP : InW P
  · have EP := Lib.hid (show ev P = 0 by unfold ev; rw [if_pos hP])
    by_cases hQ : InW Q
    · have EQ := Lib.hid (show ev Q = 0 by unfold ev; rw [if_pos hQ])
      have VE := Lib.hid (show fv P Q (hiW P) = hv P ∧ fv P Q (loW P) = lv P ∧ fv P Q (hiW Q) = hv Q ∧ fv P Q (loW Q) = lv Q ∧ fe P Q = 0 by unfold fv fe hv lv; simp [hP, hQ])
      clear hP hQ
      go_enter Try.func22, Try.ntmps22
      go_wp2_with fail
      have KK := ((((PairsK.nil w).more (.int .i64 (hiW a)) (.int .u64 (loW a)) 24).more (.int .i64 (hiW b)) (.int .u64 (loW b)) 24).more (.int .i64 0) (.int .u64 0) 24).more (.int .i64 0) (.int .u64 0) 24
      simp only [World.size_alloc] at KK
      generalize (((w.alloc (.cells #[.int .i64 (hiW a), .int .u64 (loW a)] 24)).alloc (.cells #[.int .i64 (hiW b), .int .u64 (loW b)] 24)).alloc (.cells #[.int .i64 0, .int .u64 0] 24)).alloc (.cells #[.int .i64 0, .int .u64 0] 24) = w0 at *
      have st : PreD (w.heap.size + 1 + 1 + 1) (PairsK w [(w.heap.size + 1 + 1 + 1, .int .i64 0, .int .u64 0), (w.heap.size + 1 + 1, .int .i64 0, .int .u64 0), (w.heap.size + 1, .int .i64 (hiW b), .int .u64 (loW b)), (w.heap.size, .int .i64 (hiW a), .int .u64 (loW a))]) w0 [] := KK.preZ _ (by simp <;> omega) (by omega) KK.head.lt
      clear KK
      go_cut [7, 8] (fun v7 v8 wx => DivCutD (w.heap.size + 1 + 1 + 1) (PairsK w [(w.heap.size + 1 + 1 + 1, .int .i64 0, .int .u64 0), (w.heap.size + 1 + 1, .int .i64 0, .int .u64 0), (w.heap.size + 1, .int .i64 (hiW b), .int .u64 (loW b)), (w.heap.size, .int .i64 (hiW a), .int .u64 (loW a))]) a b v7 v8 wx)
      case first =>
        obtain ⟨_, a0, a1, _, _⟩ := st.k.tail.tail.tail.head
        obtain ⟨_, b0, b1, _, _⟩ := st.k.tail.tail.head
        obtain ⟨gn1, gn2, gn3, gn4⟩ := behind4 st.lt
        try obtain ⟨gm1, gm2, gm3, gm4⟩ := behind4 (st.ge _ (List.mem_cons_self ..))
        try obtain ⟨gk1, gk2, gk3, gk4⟩ := behind4 (st.ge _ (List.mem_cons_of_mem _ (List.mem_cons_self ..)))
        go_region_held3 (fun w' => w'.cell? ⟨w.heap.size, 0, none⟩ = some (.int .i64 (hiW a)) ∧ w'.cell? ⟨w.heap.size, 1, none⟩ = some (.int .u64 (loW a)) ∧ w'.cell? ⟨w.heap.size + 1, 0, none⟩ = some (.int .i64 (hiW b)) ∧ w'.cell? ⟨w.heap.size + 1, 1, none⟩ = some (.int .u64 (loW b))) (first | (with_reducible exact ⟨st.k.tail.tail.tail.head.c0, st.k.tail.tail.tail.head.c1, st.k.tail.tail.head.c0, st.k.tail.tail.head.c1⟩) | (with_reducible exact ⟨st.alloc1.k.tail.tail.tail.head.c0, st.alloc1.k.tail.tail.tail.head.c1, st.alloc1.k.tail.tail.head.c0, st.alloc1.k.tail.tail.head.c1⟩) | (with_reducible exact ⟨st.alloc2.k.tail.tail.tail.head.c0, st.alloc2.k.tail.tail.tail.head.c1, st.alloc2.k.tail.tail.head.c0, st.alloc2.k.tail.tail.head.c1⟩) | (with_reducible exact ⟨st.drew.k.tail.tail.tail.head.c0, st.drew.k.tail.tail.tail.head.c1, st.drew.k.tail.tail.head.c0, st.drew.k.tail.tail.head.c1⟩) | (with_reducible exact ⟨st.alloc1.drew.k.tail.tail.tail.head.c0, st.alloc1.drew.k.tail.tail.tail.head.c1, st.alloc1.drew.k.tail.tail.head.c0, st.alloc1.drew.k.tail.tail.head.c1⟩) | (with_reducible exact ⟨st.alloc2.drew.k.tail.tail.tail.head.c0, st.alloc2.drew.k.tail.tail.tail.head.c1, st.alloc2.drew.k.tail.tail.head.c0, st.alloc2.drew.k.tail.tail.head.c1⟩) | go_keep)
          (first
            | (go_at_call 20; (with_reducible refine (OA.out _).mono ?_); rintro e x1 ⟨p1, A1, n1, c1, rfl, z1, k⟩
               have l1 := z1.small sa.out
               with_reducible (first | replace st := st.below k | replace st := st.alloc1.below k | replace st := st.alloc2.below k | replace st := st.drew.below k | replace st := st.alloc1.drew.below k | replace st := st.alloc2.drew.below k)
               clear k
               obtain ⟨_, a2, a3, _, _⟩ := st.k.tail.tail.tail.head
               obtain ⟨_, b2, b3, _, _⟩ := st.k.tail.tail.head
               obtain ⟨gn1, gn2, gn3, gn4⟩ := behind4 st.lt
               try obtain ⟨gm1, gm2, gm3, gm4⟩ := behind4 (st.ge _ (List.mem_cons_self ..))
               try obtain ⟨gk1, gk2, gk3, gk4⟩ := behind4 (st.ge _ (List.mem_cons_of_mem _ (List.mem_cons_self ..)))
               try obtain ⟨_, y0, y1, y2, y3⟩ := st.al _ (List.mem_cons_self ..)
               try obtain ⟨_, y4, y5, y6, y7⟩ := st.al _ (List.mem_cons_of_mem _ (List.mem_cons_self ..)))
            | (go_at_call 20; (with_reducible refine (OB.out _).mono ?_); rintro e x2 ⟨p2, A2, n2, c2, rfl, z2, k⟩
               have l2 := z2.small sb.out
               with_reducible (first | replace z1 := z1.below k | replace z1 := (z1.below (below_box _ _)).below k | replace z1 := z1.drew.below k | replace z1 := (z1.below (below_box _ _)).drew.below k | replace z1 := ((z1.below (below_box _ _)).below (below_box _ _)).below k | replace z1 := ((z1.below (below_box _ _)).below (below_box _ _)).drew.below k)
               with_reducible (first | replace st := st.below k | replace st := st.alloc1.below k | replace st := st.alloc2.below k | replace st := st.drew.below k | replace st := st.alloc1.drew.below k | replace st := st.alloc2.drew.below k)
               clear k
               obtain ⟨_, a2, a3, _, _⟩ := st.k.tail.tail.tail.head
               obtain ⟨_, b2, b3, _, _⟩ := st.k.tail.tail.head
               obtain ⟨gn1, gn2, gn3, gn4⟩ := behind4 st.lt
               try obtain ⟨gm1, gm2, gm3, gm4⟩ := behind4 (st.ge _ (List.mem_cons_self ..))
               try obtain ⟨gk1, gk2, gk3, gk4⟩ := behind4 (st.ge _ (List.mem_cons_of_mem _ (List.mem_cons_self ..)))
               try obtain ⟨_, y0, y1, y2, y3⟩ := st.al _ (List.mem_cons_self ..)
               try obtain ⟨_, y4, y5, y6, y7⟩ := st.al _ (List.mem_cons_of_mem _ (List.mem_cons_self ..))))
        all_goals
          go_wp2_with fail
          go_meet
          refine ⟨_, _, p1, A1, n1, c1, p2, A2, n2, c2, rfl, rfl, ?_⟩
          with_reducible first | exact st.fin1a z1 z2 | exact st.fin1b z1 z2 | exact st.fin2a z1 z2 | exact st.fin2b z1 z2 | exact st.fin3a z1 z2 | exact st.fin3b z1 z2
      case rest =>
      obtain ⟨g, h, pq, Aq, nq, cq, pr, Ar, nr, cr, rfl, rfl, s0⟩ := hcut
      clear st
      have lx := s0.zq.small sa.out
      have ly := s0.zr.small sb.out
      obtain ⟨_, r0, r1, _, _⟩ := id s0.br
      go_wp2_with fail
      refine (SG.out _ _ _ _ _ s0.zr (by omega)).mono ?_
      rintro e w1 ⟨rfl, k⟩
      replace s0 := s0.below k
      clear k r0 r1
      obtain ⟨_, r0, r1, _, _⟩ := id s0.br
      obtain ⟨_, q0, q1, _, _⟩ := id s0.bq
      go_wp2_with fail
      refine (DV.out _ _ _ _ _ _ _ _ _ s0.zq s0.zr).mono ?_
      rintro e w2 ⟨p1, A1, n1, c1, p2, A2, n2, c2, rfl, z1, z2, k⟩
      have l1 := z1.small SQ.out
      have l2 := z2.small SR.out
      have KK := s0.k.below k
      clear k s0 r0 r1 q0 q1
      go_wp2_with fail
      have bq := Box.new (w2.alloc (.cells #[.bool p1, .slice A1 n1 c1] 42)) p2 (.slice A2 n2 c2) 42
      rw [World.size_alloc] at bq
      replace KK := (KK.below (below_box _ (.cells #[.bool p1, .slice A1 n1 c1] 42))).below (below_box _ (.cells #[.bool p2, .slice A2 n2 c2] 42))
      replace z1 := (z1.below (below_box _ (.cells #[.bool p1, .slice A1 n1 c1] 42))).below (below_box _ (.cells #[.bool p2, .slice A2 n2 c2] 42))
      replace z2 := (z2.below (below_box _ (.cells #[.bool p1, .slice A1 n1 c1] 42))).below (below_box _ (.cells #[.bool p2, .slice A2 n2 c2] 42))
      generalize (w2.alloc (.cells #[.bool p1, .slice A1 n1 c1] 42)).alloc (.cells #[.bool p2, .slice A2 n2 c2] 42) = w3 at *
      generalize w2.heap.size + 1 = gq at *
      refine (wtold_any p1 A1 n1 c1 P _ z1 (by omega)).mono ?_
      rintro e w4 ⟨rfl, k⟩
      replace KK := KK.below k
      replace z2 := z2.below k
      replace bq := bq.below' k
      clear k z1
      obtain ⟨_, b0, b1, _, _⟩ := id bq
      go_wp2_with fail
      have hlta := KK.head.lt
      replace KK := KK.more (.int .i64 (hv P)) (.int .u64 (lv P)) 24
      replace z2 := z2.below (below_box _ (.cells #[.int .i64 (hv P), .int .u64 (lv P)] 24))
      generalize hw1 : w4.alloc (.cells #[.int .i64 (hv P), .int .u64 (lv P)] 24) = w5 at *
      generalize hg : w4.heap.size = ga at *
      clear hw1 hg b0 b1 bq
      refine (wtold_any p2 A2 n2 c2 Q _ z2 (by omega)).mono ?_
      rintro e w6 ⟨rfl, k⟩
      replace KK := KK.below k
      clear k z2
      rw [EP.out]
      rw [EQ.out]
      go_wp2_with fail
      have hltb := KK.head.lt
      replace KK := KK.more (.int .i64 (hv Q)) (.int .u64 (lv Q)) 24
      generalize hw1 : w6.alloc (.cells #[.int .i64 (hv Q), .int .u64 (lv Q)] 24) = w7 at *
      generalize hg : w6.heap.size = gb at *
      clear hw1 hg
      obtain ⟨_, m0, m1, _, _⟩ := KK.head
      obtain ⟨_, k0, k1, _, _⟩ := KK.tail.head
      obtain ⟨_, s4, s5, t4, t5⟩ := KK.tail.tail.head
      obtain ⟨_, s2, s3, t2, t3⟩ := KK.tail.tail.tail.head
      have i1 : w.heap.size + 1 + 1 ≠ ga := by omega
      have i2 : w.heap.size + 1 + 1 ≠ gb := by omega
      have i3 : w.heap.size + 1 + 1 + 1 ≠ ga := by omega
      have i4 : w.heap.size + 1 + 1 + 1 ≠ gb := by omega
      have i5 : w.heap.size + 1 + 1 ≠ w.heap.size + 1 + 1 + 1 := by omega
      have P2 := ((KK.tail.tail.tail.head.self2 (.int .i64 (hv P)) (.int .u64 (lv P))).far2 (Ne.symm i5) (.int .i64 (hv Q)) (.int .u64 (lv Q)))
      have P3 := ((KK.tail.tail.head.far2 i5 (.int .i64 (hv P)) (.int .u64 (lv P))).self2 (.int .i64 (hv Q)) (.int .u64 (lv Q)))
      have HB := ((((KK.tail.tail.hb.setCell (p := ⟨w.heap.size + 1 + 1, 0, none⟩) (by show _ ≤ w.heap.size + 1 + 1; omega) (.int .i64 (hv P))).setCell (p := ⟨w.heap.size + 1 + 1, 1, none⟩) (by show _ ≤ w.heap.size + 1 + 1; omega) (.int .u64 (lv P))).setCell (p := ⟨w.heap.size + 1 + 1 + 1, 0, none⟩) (by show _ ≤ w.heap.size + 1 + 1 + 1; omega) (.int .i64 (hv Q))).setCell (p := ⟨w.heap.size + 1 + 1 + 1, 1, none⟩) (by show _ ≤ w.heap.size + 1 + 1 + 1; omega) (.int .u64 (lv Q)))
      replace P2 := P2.drew
      replace P3 := P3.drew
      replace HB := HB.drew
      go_region
      all_goals
        go_wp2
        exact bodyPost_ret (v := .tuple #[.agg #[.int .i64 (hv P), .int .u64 (lv P)], .agg #[.int .i64 (hv Q), .int .u64 (lv Q)], .int .i64 0]) (by simp [results, Try.results22, go_sem, P2.c0, P2.c1, P3.c0, P3.c1]) rfl (⟨by rw [VE.out.1, VE.out.2.1, VE.out.2.2.1, VE.out.2.2.2.1, VE.out.2.2.2.2], HB⟩)
    · have EQ := Lib.hid (show ev Q = 2 by unfold ev; rw [if_neg hQ])
      have hPQ : ¬ (InW P ∧ InW Q) := fun h => hQ h.2
      have VE := Lib.hid (show fv P Q (hiW P) = 0 ∧ fv P Q (loW P) = 0 ∧ fv P Q (hiW Q) = 0 ∧ fv P Q (loW Q) = 0 ∧ fe P Q = 2 by unfold fv fe; simp [hPQ])
      clear hP hQ hPQ
      go_enter Try.func22, Try.ntmps22
      go_wp2_with fail
      have KK := ((((PairsK.nil w).more (.int .i64 (hiW a)) (.int .u64 (loW a)) 24).more (.int .i64 (hiW b)) (.int .u64 (loW b)) 24).more (.int .i64 0) (.int .u64 0) 24).more (.int .i64 0) (.int .u64 0) 24
      simp only [World.size_alloc] at KK
      generalize (((w.alloc (.cells #[.int .i64 (hiW a), .int .u64 (loW a)] 24)).alloc (.cells #[.int .i64 (hiW b), .int .u64 (loW b)] 24)).alloc (.cells #[.int .i64 0, .int .u64 0] 24)).alloc (.cells #[.int .i64 0, .int .u64 0] 24) = w0 at *
      have st : PreD (w.heap.size + 1 + 1 + 1) (PairsK w [(w.heap.size + 1 + 1 + 1, .int .i64 0, .int .u64 0), (w.heap.size + 1 + 1, .int .i64 0, .int .u64 0), (w.heap.size + 1, .int .i64 (hiW b), .int .u64 (loW b)), (w.heap.size, .int .i64 (hiW a), .int .u64 (loW a))]) w0 [] := KK.preZ _ (by simp <;> omega) (by omega) KK.head.lt
      clear KK
      go_cut [7, 8] (fun v7 v8 wx => DivCutD (w.heap.size + 1 + 1 + 1) (PairsK w [(w.heap.size + 1 + 1 + 1, .int .i64 0, .int .u64 0), (w.heap.size + 1 + 1, .int .i64 0, .int .u64 0), (w.heap.size + 1, .int .i64 (hiW b), .int .u64 (loW b)), (w.heap.size, .int .i64 (hiW a), .int .u64 (loW a))]) a b v7 v8 wx)
      case first =>
        obtain ⟨_, a0, a1, _, _⟩ := st.k.tail.tail.tail.head
        obtain ⟨_, b0, b1, _, _⟩ := st.k.tail.tail.head
        obtain ⟨gn1, gn2, gn3, gn4⟩ := behind4 st.lt
        try obtain ⟨gm1, gm2, gm3, gm4⟩ := behind4 (st.ge _ (List.mem_cons_self ..))
        try obtain ⟨gk1, gk2, gk3, gk4⟩ := behind4 (st.ge _ (List.mem_cons_of_mem _ (List.mem_cons_self ..)))
        go_region_held3 (fun w' => w'.cell? ⟨w.heap.size, 0, none⟩ = some (.int .i64 (hiW a)) ∧ w'.cell? ⟨w.heap.size, 1, none⟩ = some (.int .u64 (loW a)) ∧ w'.cell? ⟨w.heap.size + 1, 0, none⟩ = some (.int .i64 (hiW b)) ∧ w'.cell? ⟨w.heap.size + 1, 1, none⟩ = some (.int .u64 (loW b))) (first | (with_reducible exact ⟨st.k.tail.tail.tail.head.c0, st.k.tail.tail.tail.head.c1, st.k.tail.tail.head.c0, st.k.tail.tail.head.c1⟩) | (with_reducible exact ⟨st.alloc1.k.tail.tail.tail.head.c0, st.alloc1.k.tail.tail.tail.head.c1, st.alloc1.k.tail.tail.head.c0, st.alloc1.k.tail.tail.head.c1⟩) | (with_reducible exact ⟨st.alloc2.k.tail.tail.tail.head.c0, st.alloc2.k.tail.tail.tail.head.c1, st.alloc2.k.tail.tail.head.c0, st.alloc2.k.tail.tail.head.c1⟩) | (with_reducible exact ⟨st.drew.k.tail.tail.tail.head.c0, st.drew.k.tail.tail.tail.head.c1, st.drew.k.tail.tail.head.c0, st.drew.k.tail.tail.head.c1⟩) | (with_reducible exact ⟨st.alloc1.drew.k.tail.tail.tail.head.c0, st.alloc1.drew.k.tail.tail.tail.head.c1, st.alloc1.drew.k.tail.tail.head.c0, st.alloc1.drew.k.tail.tail.head.c1⟩) | (with_reducible exact ⟨st.alloc2.drew.k.tail.tail.tail.head.c0, st.alloc2.drew.k.tail.tail.tail.head.c1, st.alloc2.drew.k.tail.tail.head.c0, st.alloc2.drew.k.tail.tail.head.c1⟩) | go_keep)
          (first
            | (go_at_call 20; (with_reducible refine (OA.out _).mono ?_); rintro e x1 ⟨p1, A1, n1, c1, rfl, z1, k⟩
               have l1 := z1.small sa.out
               with_reducible (first | replace st := st.below k | replace st := st.alloc1.below k | replace st := st.alloc2.below k | replace st := st.drew.below k | replace st := st.alloc1.drew.below k | replace st := st.alloc2.drew.below k)
               clear k
               obtain ⟨_, a2, a3, _, _⟩ := st.k.tail.tail.tail.head
               obtain ⟨_, b2, b3, _, _⟩ := st.k.tail.tail.head
               obtain ⟨gn1, gn2, gn3, gn4⟩ := behind4 st.lt
               try obtain ⟨gm1, gm2, gm3, gm4⟩ := behind4 (st.ge _ (List.mem_cons_self ..))
               try obtain ⟨gk1, gk2, gk3, gk4⟩ := behind4 (st.ge _ (List.mem_cons_of_mem _ (List.mem_cons_self ..)))
               try obtain ⟨_, y0, y1, y2, y3⟩ := st.al _ (List.mem_cons_self ..)
               try obtain ⟨_, y4, y5, y6, y7⟩ := st.al _ (List.mem_cons_of_mem _ (List.mem_cons_self ..)))
            | (go_at_call 20; (with_reducible refine (OB.out _).mono ?_); rintro e x2 ⟨p2, A2, n2, c2, rfl, z2, k⟩
               have l2 := z2.small sb.out
               with_reducible (first | replace z1 := z1.below k | replace z1 := (z1.below (below_box _ _)).below k | replace z1 := z1.drew.below k | replace z1 := (z1.below (below_box _ _)).drew.below k | replace z1 := ((z1.below (below_box _ _)).below (below_box _ _)).below k | replace z1 := ((z1.below (below_box _ _)).below (below_box _ _)).drew.below k)
               with_reducible (first | replace st := st.below k | replace st := st.alloc1.below k | replace st := st.alloc2.below k | replace st := st.drew.below k | replace st := st.alloc1.drew.below k | replace st := st.alloc2.drew.below k)
               clear k
               obtain ⟨_, a2, a3, _, _⟩ := st.k.tail.tail.tail.head
               obtain ⟨_, b2, b3, _, _⟩ := st.k.tail.tail.head
               obtain ⟨gn1, gn2, gn3, gn4⟩ := behind4 st.lt
               try obtain ⟨gm1, gm2, gm3, gm4⟩ := behind4 (st.ge _ (List.mem_cons_self ..))
               try obtain ⟨gk1, gk2, gk3, gk4⟩ := behind4 (st.ge _ (List.mem_cons_of_mem _ (List.mem_cons_self ..)))
               try obtain ⟨_, y0, y1, y2, y3⟩ := st.al _ (List.mem_cons_self ..)
               try obtain ⟨_, y4, y5, y6, y7⟩ := st.al _ (List.mem_cons_of_mem _ (List.mem_cons_self ..))))
        all_goals
          go_wp2_with fail
          go_meet
          refine ⟨_, _, p1, A1, n1, c1, p2, A2, n2, c2, rfl, rfl, ?_⟩
          with_reducible first | exact st.fin1a z1 z2 | exact st.fin1b z1 z2 | exact st.fin2a z1 z2 | exact st.fin2b z1 z2 | exact st.fin3a z1 z2 | exact st.fin3b z1 z2
      case rest =>
      obtain ⟨g, h, pq, Aq, nq, cq, pr, Ar, nr, cr, rfl, rfl, s0⟩ := hcut
      clear st
      have lx := s0.zq.small sa.out
      have ly := s0.zr.small sb.out
      obtain ⟨_, r0, r1, _, _⟩ := id s0.br
      go_wp2_with fail
      refine (SG.out _ _ _ _ _ s0.zr (by omega)).mono ?_
      rintro e w1 ⟨rfl, k⟩
      replace s0 := s0.below k
      clear k r0 r1
      obtain ⟨_, r0, r1, _, _⟩ := id s0.br
      obtain ⟨_, q0, q1, _, _⟩ := id s0.bq
      go_wp2_with fail
      refine (DV.out _ _ _ _ _ _ _ _ _ s0.zq s0.zr).mono ?_
      rintro e w2 ⟨p1, A1, n1, c1, p2, A2, n2, c2, rfl, z1, z2, k⟩
      have l1 := z1.small SQ.out
      have l2 := z2.small SR.out
      have KK := s0.k.below k
      clear k s0 r0 r1 q0 q1
      go_wp2_with fail
      have bq := Box.new (w2.alloc (.cells #[.bool p1, .slice A1 n1 c1] 42)) p2 (.slice A2 n2 c2) 42
      rw [World.size_alloc] at bq
      replace KK := (KK.below (below_box _ (.cells #[.bool p1, .slice A1 n1 c1] 42))).below (below_box _ (.cells #[.bool p2, .slice A2 n2 c2] 42))
      replace z1 := (z1.below (below_box _ (.cells #[.bool p1, .slice A1 n1 c1] 42))).below (below_box _ (.cells #[.bool p2, .slice A2 n2 c2] 42))
      replace z2 := (z2.below (below_box _ (.cells #[.bool p1, .slice A1 n1 c1] 42))).below (below_box _ (.cells #[.bool p2, .slice A2 n2 c2] 42))
      generalize (w2.alloc (.cells #[.bool p1, .slice A1 n1 c1] 42)).alloc (.cells #[.bool p2, .slice A2 n2 c2] 42) = w3 at *
      generalize w2.heap.size + 1 = gq at *
      refine (wtold_any p1 A1 n1 c1 P _ z1 (by omega)).mono ?_
      rintro e w4 ⟨rfl, k⟩
      replace KK := KK.below k
      replace z2 := z2.below k
      replace bq := bq.below' k
      clear k z1
      obtain ⟨_, b0, b1, _, _⟩ := id bq
      go_wp2_with fail
      have hlta := KK.head.lt
      replace KK := KK.more (.int .i64 (hv P)) (.int .u64 (lv P)) 24
      replace z2 := z2.below (below_box _ (.cells #[.int .i64 (hv P), .int .u64 (lv P)] 24))
      generalize hw1 : w4.alloc (.cells #[.int .i64 (hv P), .int .u64 (lv P)] 24) = w5 at *
      generalize hg : w4.heap.size = ga at *
      clear hw1 hg b0 b1 bq
      refine (wtold_any p2 A2 n2 c2 Q _ z2 (by omega)).mono ?_
      rintro e w6 ⟨rfl, k⟩
      replace KK := KK.below k
      clear k z2
      rw [EP.out]
      rw [EQ.out]
      obtain ⟨_, s2, s3, t2, t3⟩ := KK.tail.tail.head
      obtain ⟨_, s4, s5, t4, t5⟩ := KK.tail.head
      go_wp2
      have i5 : w.heap.size + 1 + 1 ≠ w.heap.size + 1 + 1 + 1 := by omega
      have P2 := ((KK.tail.tail.head.self2 (.int .i64 0) (.int .u64 0)).far2 (Ne.symm i5) (.int .i64 0) (.int .u64 0))
      have P3 := ((KK.tail.head.far2 i5 (.int .i64 0) (.int .u64 0)).self2 (.int .i64 0) (.int .u64 0))
      have HB := ((((KK.tail.hb.setCell (p := ⟨w.heap.size + 1 + 1, 0, none⟩) (by show _ ≤ w.heap.size + 1 + 1; omega) (.int .i64 0)).setCell (p := ⟨w.heap.size + 1 + 1, 1, none⟩) (by show _ ≤ w.heap.size + 1 + 1; omega) (.int .u64 0)).setCell (p := ⟨w.heap.size + 1 + 1 + 1, 0, none⟩) (by show _ ≤ w.heap.size + 1 + 1 + 1; omega) (.int .i64 0)).setCell (p := ⟨w.heap.size + 1 + 1 + 1, 1, none⟩) (by show _ ≤ w.heap.size + 1 + 1 + 1; omega) (.int .u64 0))
      exact bodyPost_ret (v := .tuple #[.agg #[.int .i64 0, .int .u64 0], .agg #[.int .i64 0, .int .u64 0], .int .i64 2]) (by simp [results, Try.results22, go_sem, (P2.below (below_box _ (.cells #[.int .i64 (hv Q), .int .u64 (lv Q)] 24))).c0, (P2.below (below_box _ (.cells #[.int .i64 (hv Q), .int .u64 (lv Q)] 24))).c1, (P3.below (below_box _ (.cells #[.int .i64 (hv Q), .int .u64 (lv Q)] 24))).c0, (P3.below (below_box _ (.cells #[.int .i64 (hv Q), .int .u64 (lv Q)] 24))).c1]) rfl ⟨by rw [VE.out.1, VE.out.2.1, VE.out.2.2.1, VE.out.2.2.2.1, VE.out.2.2.2.2], below_thru HB (below_box _ _)⟩
  · have EP := Lib.hid (show ev P = 2 by unfold ev; rw [if_neg hP])
    have hPQ : ¬ (InW P ∧ InW Q) := fun h => hP h.1
    have VE := Lib.hid (show fv P Q (hiW P) = 0 ∧ fv P Q (loW P) = 0 ∧ fv P Q (hiW Q) = 0 ∧ fv P Q (loW Q) = 0 ∧ fe P Q = 2 by unfold fv fe; simp [hPQ])
    clear hP hPQ
    go_enter Try.func22, Try.ntmps22
    go_wp2_with fail
    have KK := ((((PairsK.nil w).more (.int .i64 (hiW a)) (.int .u64 (loW a)) 24).more (.int .i64 (hiW b)) (.int .u64 (loW b)) 24).more (.int .i64 0) (.int .u64 0) 24).more (.int .i64 0) (.int .u64 0) 24
    simp only [World.size_alloc] at KK
    generalize (((w.alloc (.cells #[.int .i64 (hiW a), .int .u64 (loW a)] 24)).alloc (.cells #[.int .i64 (hiW b), .int .u64 (loW b)] 24)).alloc (.cells #[.int .i64 0, .int .u64 0] 24)).alloc (.cells #[.int .i64 0, .int .u64 0] 24) = w0 at *
    have st : PreD (w.heap.size + 1 + 1 + 1) (PairsK w [(w.heap.size + 1 + 1 + 1, .int .i64 0, .int .u64 0), (w.heap.size + 1 + 1, .int .i64 0, .int .u64 0), (w.heap.size + 1, .int .i64 (hiW b), .int .u64 (loW b)), (w.heap.size, .int .i64 (hiW a), .int .u64 (loW a))]) w0 [] := KK.preZ _ (by simp <;> omega) (by omega) KK.head.lt
    clear KK
    go_cut [7, 8] (fun v7 v8 wx => DivCutD (w.heap.size + 1 + 1 + 1) (PairsK w [(w.heap.size + 1 + 1 + 1, .int .i64 0, .int .u64 0), (w.heap.size + 1 + 1, .int .i64 0, .int .u64 0), (w.heap.size + 1, .int .i64 (hiW b), .int .u64 (loW b)), (w.heap.size, .int .i64 (hiW a), .int .u64 (loW a))]) a b v7 v8 wx)
    case first =>
      obtain ⟨_, a0, a1, _, _⟩ := st.k.tail.tail.tail.head
      obtain ⟨_, b0, b1, _, _⟩ := st.k.tail.tail.head
      obtain ⟨gn1, gn2, gn3, gn4⟩ := behind4 st.lt
      try obtain ⟨gm1, gm2, gm3, gm4⟩ := behind4 (st.ge _ (List.mem_cons_self ..))
      try obtain ⟨gk1, gk2, gk3, gk4⟩ := behind4 (st.ge _ (List.mem_cons_of_mem _ (List.mem_cons_self ..)))
      go_region_held3 (fun w' => w'.cell? ⟨w.heap.size, 0, none⟩ = some (.int .i64 (hiW a)) ∧ w'.cell? ⟨w.heap.size, 1, none⟩ = some (.int .u64 (loW a)) ∧ w'.cell? ⟨w.heap.size + 1, 0, none⟩ = some (.int .i64 (hiW b)) ∧ w'.cell? ⟨w.heap.size + 1, 1, none⟩ = some (.int .u64 (loW b))) (first | (with_reducible exact ⟨st.k.tail.tail.tail.head.c0, st.k.tail.tail.tail.head.c1, st.k.tail.tail.head.c0, st.k.tail.tail.head.c1⟩) | (with_reducible exact ⟨st.alloc1.k.tail.tail.tail.head.c0, st.alloc1.k.tail.tail.tail.head.c1, st.alloc1.k.tail.tail.head.c0, st.alloc1.k.tail.tail.head.c1⟩) | (with_reducible exact ⟨st.alloc2.k.tail.tail.tail.head.c0, st.alloc2.k.tail.tail.tail.head.c1, st.alloc2.k.tail.tail.head.c0, st.alloc2.k.tail.tail.head.c1⟩) | (with_reducible exact ⟨st.drew.k.tail.tail.tail.head.c0, st.drew.k.tail.tail.tail.head.c1, st.drew.k.tail.tail.head.c0, st.drew.k.tail.tail.head.c1⟩) | (with_reducible exact ⟨st.alloc1.drew.k.tail.tail.tail.head.c0, st.alloc1.drew.k.tail.tail.tail.head.c1, st.alloc1.drew.k.tail.tail.head.c0, st.alloc1.drew.k.tail.tail.head.c1⟩) | (with_reducible exact ⟨st.alloc2.drew.k.tail.tail.tail.head.c0, st.alloc2.drew.k.tail.tail.tail.head.c1, st.alloc2.drew.k.tail.tail.head.c0, st.alloc2.drew.k.tail.tail.head.c1⟩) | go_keep)
        (first
          | (go_at_call 20; (with_reducible refine (OA.out _).mono ?_); rintro e x1 ⟨p1, A1, n1, c1, rfl, z1, k⟩
             have l1 := z1.small sa.out
             with_reducible (first | replace st := st.below k | replace st := st.alloc1.below k | replace st := st.alloc2.below k | replace st := st.drew.below k | replace st := st.alloc1.drew.below k | replace st := st.alloc2.drew.below k)
             clear k
             obtain ⟨_, a2, a3, _, _⟩ := st.k.tail.tail.tail.head
             obtain ⟨_, b2, b3, _, _⟩ := st.k.tail.tail.head
             obtain ⟨gn1, gn2, gn3, gn4⟩ := behind4 st.lt
             try obtain ⟨gm1, gm2, gm3, gm4⟩ := behind4 (st.ge _ (List.mem_cons_self ..))
             try obtain ⟨gk1, gk2, gk3, gk4⟩ := behind4 (st.ge _ (List.mem_cons_of_mem _ (List.mem_cons_self ..)))
             try obtain ⟨_, y0, y1, y2, y3⟩ := st.al _ (List.mem_cons_self ..)
             try obtain ⟨_, y4, y5, y6, y7⟩ := st.al _ (List.mem_cons_of_mem _ (List.mem_cons_self ..)))
          | (go_at_call 20; (with_reducible refine (OB.out _).mono ?_); rintro e x2 ⟨p2, A2, n2, c2, rfl, z2, k⟩
             have l2 := z2.small sb.out
             with_reducible (first | replace z1 := z1.below k | replace z1 := (z1.below (below_box _ _)).below k | replace z1 := z1.drew.below k | replace z1 := (z1.below (below_box _ _)).drew.below k | replace z1 := ((z1.below (below_box _ _)).below (below_box _ _)).below k | replace z1 := ((z1.below (below_box _ _)).below (below_box _ _)).drew.below k)
             with_reducible (first | replace st := st.below k | replace st := st.alloc1.below k | replace st := st.alloc2.below k | replace st := st.drew.below k | replace st := st.alloc1.drew.below k | replace st := st.alloc2.drew.below k)
             clear k
             obtain ⟨_, a2, a3, _, _⟩ := st.k.tail.tail.tail.head
             obtain ⟨_, b2, b3, _, _⟩ := st.k.tail.tail.head
             obtain ⟨gn1, gn2, gn3, gn4⟩ := behind4 st.lt
             try obtain ⟨gm1, gm2, gm3, gm4⟩ := behind4 (st.ge _ (List.mem_cons_self ..))
             try obtain ⟨gk1, gk2, gk3, gk4⟩ := behind4 (st.ge _ (List.mem_cons_of_mem _ (List.mem_cons_self ..)))
             try obtain ⟨_, y0, y1, y2, y3⟩ := st.al _ (List.mem_cons_self ..)
             try obtain ⟨_, y4, y5, y6, y7⟩ := st.al _ (List.mem_cons_of_mem _ (List.mem_cons_self ..))))
      all_goals
        go_wp2_with fail
        go_meet
        refine ⟨_, _, p1, A1, n1, c1, p2, A2, n2, c2, rfl, rfl, ?_⟩
        with_reducible first | exact st.fin1a z1 z2 | exact st.fin1b z1 z2 | exact st.fin2a z1 z2 | exact st.fin2b z1 z2 | exact st.fin3a z1 z2 | exact st.fin3b z1 z2
    case rest =>
    obtain ⟨g, h, pq, Aq, nq, cq, pr, Ar, nr, cr, rfl, rfl, s0⟩ := hcut
    clear st
    have lx := s0.zq.small sa.out
    have ly := s0.zr.small sb.out
    obtain ⟨_, r0, r1, _, _⟩ := id s0.br
    go_wp2_with fail
    refine (SG.out _ _ _ _ _ s0.zr (by omega)).mono ?_
    rintro e w1 ⟨rfl, k⟩
    replace s0 := s0.below k
    clear k r0 r1
    obtain ⟨_, r0, r1, _, _⟩ := id s0.br
    obtain ⟨_, q0, q1, _, _⟩ := id s0.bq
    go_wp2_with fail
    refine (DV.out _ _ _ _ _ _ _ _ _ s0.zq s0.zr).mono ?_
    rintro e w2 ⟨p1, A1, n1, c1, p2, A2, n2, c2, rfl, z1, z2, k⟩
    have l1 := z1.small SQ.out
    have l2 := z2.small SR.out
    have KK := s0.k.below k
    clear k s0 r0 r1 q0 q1
    go_wp2_with fail
    have bq := Box.new (w2.alloc (.cells #[.bool p1, .slice A1 n1 c1] 42)) p2 (.slice A2 n2 c2) 42
    rw [World.size_alloc] at bq
    replace KK := (KK.below (below_box _ (.cells #[.bool p1, .slice A1 n1 c1] 42))).below (below_box _ (.cells #[.bool p2, .slice A2 n2 c2] 42))
    replace z1 := (z1.below (below_box _ (.cells #[.bool p1, .slice A1 n1 c1] 42))).below (below_box _ (.cells #[.bool p2, .slice A2 n2 c2] 42))
    replace z2 := (z2.below (below_box _ (.cells #[.bool p1, .slice A1 n1 c1] 42))).below (below_box _ (.cells #[.bool p2, .slice A2 n2 c2] 42))
    generalize (w2.alloc (.cells #[.bool p1, .slice A1 n1 c1] 42)).alloc (.cells #[.bool p2, .slice A2 n2 c2] 42) = w3 at *
    generalize w2.heap.size + 1 = gq at *
    refine (wtold_any p1 A1 n1 c1 P _ z1 (by omega)).mono ?_
    rintro e w4 ⟨rfl, k⟩
    replace KK := KK.below k
    replace z2 := z2.below k
    replace bq := bq.below' k
    clear k z1
    obtain ⟨_, b0, b1, _, _⟩ := id bq
    go_wp2_with fail
    have hlta := KK.head.lt
    replace KK := KK.more (.int .i64 (hv P)) (.int .u64 (lv P)) 24
    replace z2 := z2.below (below_box _ (.cells #[.int .i64 (hv P), .int .u64 (lv P)] 24))
    generalize hw1 : w4.alloc (.cells #[.int .i64 (hv P), .int .u64 (lv P)] 24) = w5 at *
    generalize hg : w4.heap.size = ga at *
    clear hw1 hg b0 b1 bq
    refine (wtold_any p2 A2 n2 c2 Q _ z2 (by omega)).mono ?_
    rintro e w6 ⟨rfl, k⟩
    replace KK := KK.below k
    clear k z2
    rw [EP.out]
    obtain ⟨_, s2, s3, t2, t3⟩ := KK.tail.tail.head
    obtain ⟨_, s4, s5, t4, t5⟩ := KK.tail.head
    go_wp2
    have i5 : w.heap.size + 1 + 1 ≠ w.heap.size + 1 + 1 + 1 := by omega
    have P2 := ((KK.tail.tail.head.self2 (.int .i64 0) (.int .u64 0)).far2 (Ne.symm i5) (.int .i64 0) (.int .u64 0))
    have P3 := ((KK.tail.head.far2 i5 (.int .i64 0) (.int .u64 0)).self2 (.int .i64 0) (.int .u64 0))
    have HB := ((((KK.tail.hb.setCell (p := ⟨w.heap.size + 1 + 1, 0, none⟩) (by show _ ≤ w.heap.size + 1 + 1; omega) (.int .i64 0)).setCell (p := ⟨w.heap.size + 1 + 1, 1, none⟩) (by show _ ≤ w.heap.size + 1 + 1; omega) (.int .u64 0)).setCell (p := ⟨w.heap.size + 1 + 1 + 1, 0, none⟩) (by show _ ≤ w.heap.size + 1 + 1 + 1; omega) (.int .i64 0)).setCell (p := ⟨w.heap.size + 1 + 1 + 1, 1, none⟩) (by show _ ≤ w.heap.size + 1 + 1 + 1; omega) (.int .u64 0))
    exact bodyPost_ret (v := .tuple #[.agg #[.int .i64 0, .int .u64 0], .agg #[.int .i64 0, .int .u64 0], .int .i64 2]) (by simp [results, Try.results22, go_sem, (P2.below (below_box _ (.cells #[.int .i64 (hv Q), .int .u64 (lv Q)] 24))).c0, (P2.below (below_box _ (.cells #[.int .i64 (hv Q), .int .u64 (lv Q)] 24))).c1, (P3.below (below_box _ (.cells #[.int .i64 (hv Q), .int .u64 (lv Q)] 24))).c0, (P3.below (below_box _ (.cells #[.int .i64 (hv Q), .int .u64 (lv Q)] 24))).c1]) rfl ⟨by rw [VE.out.1, VE.out.2.1, VE.out.2.2.1, VE.out.2.2.2.1, VE.out.2.2.2.2], below_thru HB (below_box _ _)⟩
end Go.Proofs.Ytgkajbelekjahaa
