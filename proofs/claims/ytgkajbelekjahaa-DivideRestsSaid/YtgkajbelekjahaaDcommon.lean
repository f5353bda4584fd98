/- The document's answer of layer 3: greatest common divisors. -/
import Derived.Test.YtgkajbelekjahaaDbox
import Derived.Test.YtgkajbelekjahaaWtold
import Derived.Deep.RegionHeld3
namespace Go.Proofs.Ytgkajbelekjahaa
open Go.RowKit

theorem behind3 {s b : Nat} (h : s + 1 + 1 < b) : b ≠ s ∧ b + 1 ≠ s ∧ b ≠ s + 1 ∧ b + 1 ≠ s + 1 := by omega

set_option maxRecDepth 100000 in
set_option maxHeartbeats 8000000 in
theorem common_ind (N : Nat) : ∀ (p q : Bool) (A B : Option Addr) (n m c d : Nat) (x y : Int) (w : World), y.natAbs = N → Zs w p A n c x → Zs w q B m d y → x.natAbs < 65536 ^ 9 → y.natAbs < 65536 ^ 9 →
    Calls Try.prog 19 #[.agg #[.bool p, .slice A n c], .agg #[.bool q, .slice B m d]] w (RetZ w (gcdZ x y)) := by
  induction N using Nat.strongRecOn with
  | _ N ih =>
    intro p q A B n m c d x y w hN hx hy sx sy
    have lx := hx.small sx
    have ly := hy.small sy
    by_cases h0 : y = 0
    · have SG := Lib.hid (show ∀ p A m c W, Zs W p A m c y → m ≤ 900000 → Calls Try.prog 30 #[.agg #[.bool p, .slice A m c]] W (RetV W (.int .i64 0)) from fun p A m c W h1 h2 => by have := sign_any p A m c y W h1 h2; rwa [h0, cmpZ_eq rfl] at this)
      have G := Lib.hid (show gcdZ x y = (x.natAbs : Int) by rw [h0]; exact gcdZ_zero x)
      clear ih h0 hN sx sy
      have KK := (((BZ.nil w [(p, A, n, c, x), (q, B, m, d, y)] (by simp [hx, hy])).more p (.slice A n c) 42).more q (.slice B m d) 42).more false (.slice none 0 0) 42
      simp only [World.size_alloc] at KK
      clear hx hy
      go_enter Try.func19, Try.ntmps19
      go_wp2_with fail
      generalize ((w.alloc (.cells #[.bool p, .slice A n c] 42)).alloc (.cells #[.bool q, .slice B m d] 42)).alloc (.cells #[.bool false, .slice none 0 0] 42) = w0 at *
      refine (SG.out _ _ _ _ _ KK.nt.num (by omega)).mono ?_
      rintro e w1 ⟨rfl, k⟩
      replace KK := KK.below k
      clear k
      obtain ⟨_, a0, a1, _, _⟩ := KK.tail.tail.head
      go_wp2_with fail
      refine (abs_any p A n c x _ KK.num (by omega)).mono ?_
      rintro e w2 ⟨p1, A1, n1, c1, rfl, z1, k⟩
      rw [← G.out] at z1
      replace KK := KK.below k
      clear k a0 a1
      obtain ⟨_, s2, s3, t2, t3⟩ := KK.head
      go_wp2
      have R2 := KK.head
      have P2 := R2.self2 p1 (.slice A1 n1 c1)
      exact bodyPost_ret (v := .agg #[.bool p1, .slice A1 n1 c1]) (by simp [results, Try.results19, go_sem, P2.c0, P2.c1]) rfl ⟨p1, A1, n1, c1, rfl, z1.set2 R2.c0 _ _, (KK.hb.setCell (p := ⟨w.heap.size + 1 + 1, 0, none⟩) (by show _ ≤ w.heap.size + 1 + 1; omega) (.bool p1)).setCell (p := ⟨w.heap.size + 1 + 1, 1, none⟩) (by show _ ≤ w.heap.size + 1 + 1; omega) (.slice A1 n1 c1)⟩
    · obtain ⟨v, hv0, hv1⟩ : ∃ v : Int, v = cmpZ y 0 ∧ (v == 0) = false := ⟨_, rfl, by rw [beq_eq_false_iff_ne]; rcases Int.lt_trichotomy y 0 with h | h | h; rw [cmpZ_lt h]; decide; exact absurd h h0; rw [cmpZ_gt h]; decide⟩
      have SG := Lib.hid (show ∀ p A m c W, Zs W p A m c y → m ≤ 900000 → Calls Try.prog 30 #[.agg #[.bool p, .slice A m c]] W (RetV W (.int .i64 v)) from fun p A m c W h1 h2 => by rw [hv0]; exact sign_any p A m c y W h1 h2)
      have SQ := Lib.hid (show (((x.natAbs : Int)).fdiv (y.natAbs : Int)).natAbs < 65536 ^ 9 from quot_small (by rw [Int.natAbs_natCast]; exact sx) (by omega))
      have SR := Lib.hid (show (((x.natAbs : Int)).fmod (y.natAbs : Int)).natAbs < 65536 ^ 9 from rest_small (by rw [Int.natAbs_natCast]; exact sy) (by omega))
      have SX' := Lib.hid (show ((x.natAbs : Int)).natAbs < 65536 ^ 9 by rw [Int.natAbs_natCast]; exact sx)
      have SY' := Lib.hid (show ((y.natAbs : Int)).natAbs < 65536 ^ 9 by rw [Int.natAbs_natCast]; exact sy)
      have H0 := Lib.hid (show (y.natAbs : Int) ≠ 0 by omega)
      have hlt : (((x.natAbs : Int)).fmod (y.natAbs : Int)).natAbs < N := by
        have := (fdiv_le (x.natAbs : Int) (y.natAbs : Int) (by omega)).2
        rw [Int.natAbs_natCast] at this
        omega
      have IH := Lib.hid (fun p1 q1 A1 B1 n1 m1 c1 d1 W h1 h2 => ih _ hlt p1 q1 A1 B1 n1 m1 c1 d1 y (((x.natAbs : Int)).fmod (y.natAbs : Int)) W rfl h1 h2 sy SR.out)
      have G := Lib.hid (gcdZ_step x y)
      clear ih h0 hN sx sy hv0 hlt
      have KK := (((BZ.nil w [(p, A, n, c, x), (q, B, m, d, y)] (by simp [hx, hy])).more p (.slice A n c) 42).more q (.slice B m d) 42).more false (.slice none 0 0) 42
      simp only [World.size_alloc] at KK
      clear hx hy
      go_enter Try.func19, Try.ntmps19
      go_wp2_with fail
      generalize ((w.alloc (.cells #[.bool p, .slice A n c] 42)).alloc (.cells #[.bool q, .slice B m d] 42)).alloc (.cells #[.bool false, .slice none 0 0] 42) = w0 at *
      refine (SG.out _ _ _ _ _ KK.nt.num (by omega)).mono ?_
      rintro e w1 ⟨rfl, k⟩
      replace KK := KK.below k
      clear k
      go_wp2_with fail
      have st : PreD (w.heap.size + 1 + 1) (BZ w [(w.heap.size + 1 + 1, false, .slice none 0 0), (w.heap.size + 1, q, .slice B m d), (w.heap.size, p, .slice A n c)] [(p, A, n, c, x), (q, B, m, d, y)]) _ [] := KK.pre _ (by simp <;> omega) (by omega) (by first | omega | (have := KK.head.lt; omega))
      clear KK
      go_cut [5, 6] (fun v v' wx => DivCutD (w.heap.size + 1 + 1) (BZ w [(w.heap.size + 1 + 1, false, .slice none 0 0), (w.heap.size + 1, q, .slice B m d), (w.heap.size, p, .slice A n c)] [(p, A, n, c, x), (q, B, m, d, y)]) ((x.natAbs : Int).fdiv (y.natAbs : Int)) ((x.natAbs : Int).fmod (y.natAbs : Int)) v v' wx)
      case first =>
        obtain ⟨_, ja0, jb0, _, _⟩ := st.k.tail.tail.head
        obtain ⟨_, ja1, jb1, _, _⟩ := st.k.tail.head
        obtain ⟨gn1, gn2, gn3, gn4⟩ := behind3 st.lt
        try obtain ⟨gm1, gm2, gm3, gm4⟩ := behind3 (st.ge _ (List.mem_cons_self ..))
        try obtain ⟨gk1, gk2, gk3, gk4⟩ := behind3 (st.ge _ (List.mem_cons_of_mem _ (List.mem_cons_self ..)))
        go_region_held3 (fun w' => w'.cell? ⟨w.heap.size, 0, none⟩ = some (.bool p) ∧ w'.cell? ⟨w.heap.size, 1, none⟩ = some (.slice A n c) ∧ w'.cell? ⟨w.heap.size + 1, 0, none⟩ = some (.bool q) ∧ w'.cell? ⟨w.heap.size + 1, 1, none⟩ = some (.slice B m d)) (first | (with_reducible exact ⟨st.k.tail.tail.head.c0, st.k.tail.tail.head.c1, st.k.tail.head.c0, st.k.tail.head.c1⟩) | (with_reducible exact ⟨st.alloc1.k.tail.tail.head.c0, st.alloc1.k.tail.tail.head.c1, st.alloc1.k.tail.head.c0, st.alloc1.k.tail.head.c1⟩) | (with_reducible exact ⟨st.alloc2.k.tail.tail.head.c0, st.alloc2.k.tail.tail.head.c1, st.alloc2.k.tail.head.c0, st.alloc2.k.tail.head.c1⟩) | (with_reducible exact ⟨st.drew.k.tail.tail.head.c0, st.drew.k.tail.tail.head.c1, st.drew.k.tail.head.c0, st.drew.k.tail.head.c1⟩) | (with_reducible exact ⟨st.alloc1.drew.k.tail.tail.head.c0, st.alloc1.drew.k.tail.tail.head.c1, st.alloc1.drew.k.tail.head.c0, st.alloc1.drew.k.tail.head.c1⟩) | (with_reducible exact ⟨st.alloc2.drew.k.tail.tail.head.c0, st.alloc2.drew.k.tail.tail.head.c1, st.alloc2.drew.k.tail.head.c0, st.alloc2.drew.k.tail.head.c1⟩) | go_keep)
          (first
            | (go_at_call 27; (with_reducible refine (abs_any p A n c x _ (by with_reducible first | exact st.k.num | exact st.alloc1.k.num | exact st.alloc2.k.num | exact st.drew.k.num | exact st.alloc1.drew.k.num | exact st.alloc2.drew.k.num) (by omega)).mono ?_); rintro e x1 ⟨p1, A1, n1, c1, rfl, z1, k⟩
               have l1 := z1.small SX'.out
               with_reducible (first | replace st := st.below k | replace st := st.alloc1.below k | replace st := st.alloc2.below k | replace st := st.drew.below k | replace st := st.alloc1.drew.below k | replace st := st.alloc2.drew.below k)
               clear k
               obtain ⟨_, ka0, kb0, _, _⟩ := st.k.tail.tail.head
               obtain ⟨_, ka1, kb1, _, _⟩ := st.k.tail.head
               obtain ⟨gn1, gn2, gn3, gn4⟩ := behind3 st.lt
               try obtain ⟨gm1, gm2, gm3, gm4⟩ := behind3 (st.ge _ (List.mem_cons_self ..))
               try obtain ⟨gk1, gk2, gk3, gk4⟩ := behind3 (st.ge _ (List.mem_cons_of_mem _ (List.mem_cons_self ..)))
               try obtain ⟨_, y0, y1, y2, y3⟩ := st.al _ (List.mem_cons_self ..)
               try obtain ⟨_, y4, y5, y6, y7⟩ := st.al _ (List.mem_cons_of_mem _ (List.mem_cons_self ..)))
            | (go_at_call 27; (with_reducible refine (abs_any q B m d y _ (by with_reducible first | exact st.k.nt.num | exact st.alloc1.k.nt.num | exact st.alloc2.k.nt.num | exact st.drew.k.nt.num | exact st.alloc1.drew.k.nt.num | exact st.alloc2.drew.k.nt.num) (by omega)).mono ?_); rintro e x2 ⟨p2, A2, n2, c2, rfl, z2, k⟩
               have l2 := z2.small SY'.out
               with_reducible (first | replace z1 := z1.below k | replace z1 := (z1.below (below_box _ _)).below k | replace z1 := z1.drew.below k | replace z1 := (z1.below (below_box _ _)).drew.below k | replace z1 := ((z1.below (below_box _ _)).below (below_box _ _)).below k | replace z1 := ((z1.below (below_box _ _)).below (below_box _ _)).drew.below k)
               with_reducible (first | replace st := st.below k | replace st := st.alloc1.below k | replace st := st.alloc2.below k | replace st := st.drew.below k | replace st := st.alloc1.drew.below k | replace st := st.alloc2.drew.below k)
               clear k
               obtain ⟨_, ka0, kb0, _, _⟩ := st.k.tail.tail.head
               obtain ⟨_, ka1, kb1, _, _⟩ := st.k.tail.head
               obtain ⟨gn1, gn2, gn3, gn4⟩ := behind3 st.lt
               try obtain ⟨gm1, gm2, gm3, gm4⟩ := behind3 (st.ge _ (List.mem_cons_self ..))
               try obtain ⟨gk1, gk2, gk3, gk4⟩ := behind3 (st.ge _ (List.mem_cons_of_mem _ (List.mem_cons_self ..)))
               try obtain ⟨_, y0, y1, y2, y3⟩ := st.al _ (List.mem_cons_self ..)
               try obtain ⟨_, y4, y5, y6, y7⟩ := st.al _ (List.mem_cons_of_mem _ (List.mem_cons_self ..)))
            | (go_at_call 31; (with_reducible refine (div_any p1 p2 A1 A2 n1 n2 c1 c2 _ _ _ (by with_reducible first | exact z1 | exact (z1.below (below_box _ _)) | exact z1.drew | exact (z1.below (below_box _ _)).drew | exact ((z1.below (below_box _ _)).below (below_box _ _)) | exact ((z1.below (below_box _ _)).below (below_box _ _)).drew) (by with_reducible first | exact z2 | exact (z2.below (below_box _ _)) | exact z2.drew | exact (z2.below (below_box _ _)).drew | exact ((z2.below (below_box _ _)).below (below_box _ _)) | exact ((z2.below (below_box _ _)).below (below_box _ _)).drew) (by omega) (by omega) H0.out).mono ?_); rintro e x3 ⟨p3, A3, n3, c3, p4, A4, n4, c4, rfl, z3, z4, k⟩
               have l3 := z3.small SQ.out
               have l4 := z4.small SR.out
               with_reducible (first | replace st := st.below k | replace st := st.alloc1.below k | replace st := st.alloc2.below k | replace st := st.drew.below k | replace st := st.alloc1.drew.below k | replace st := st.alloc2.drew.below k)
               clear k
               obtain ⟨_, ka0, kb0, _, _⟩ := st.k.tail.tail.head
               obtain ⟨_, ka1, kb1, _, _⟩ := st.k.tail.head
               obtain ⟨gn1, gn2, gn3, gn4⟩ := behind3 st.lt
               try obtain ⟨gm1, gm2, gm3, gm4⟩ := behind3 (st.ge _ (List.mem_cons_self ..))
               try obtain ⟨gk1, gk2, gk3, gk4⟩ := behind3 (st.ge _ (List.mem_cons_of_mem _ (List.mem_cons_self ..)))
               try obtain ⟨_, y0, y1, y2, y3⟩ := st.al _ (List.mem_cons_self ..)
               try obtain ⟨_, y4, y5, y6, y7⟩ := st.al _ (List.mem_cons_of_mem _ (List.mem_cons_self ..))))
        all_goals
          go_wp2_with fail
          go_meet
          refine ⟨_, _, p3, A3, n3, c3, p4, A4, n4, c4, rfl, rfl, ?_⟩
          with_reducible first | exact st.fin1a z3 z4 | exact st.fin1b z3 z4 | exact st.fin2a z3 z4 | exact st.fin2b z3 z4 | exact st.fin3a z3 z4 | exact st.fin3b z3 z4
      case rest =>
      obtain ⟨g, h, pq, Aq, nq, cq, pr, Ar, nr, cr, rfl, rfl, s0⟩ := hcut
      clear st
      have KK := (s0.k.cons s0.br).ncons s0.zr
      have gg := s0.gh
      clear s0
      obtain ⟨_, b0, b1, _, _⟩ := KK.tail.tail.head
      obtain ⟨_, g0, g1, _, _⟩ := KK.head
      go_wp2_with fail
      refine (IH.out _ _ _ _ _ _ _ _ _ KK.nt.nt.num KK.num).mono ?_
      rintro e w5 ⟨p5, A5, n5, c5, rfl, z5, k⟩
      rw [G.out] at z5
      replace KK := KK.below k
      clear k b0 b1 g0 g1
      obtain ⟨_, s2, s3, t2, t3⟩ := KK.tail.head
      go_wp2
      have R2 := KK.tail.head
      have P2 := R2.self2 p5 (.slice A5 n5 c5)
      exact bodyPost_ret (v := .agg #[.bool p5, .slice A5 n5 c5]) (by simp [results, Try.results19, go_sem, P2.c0, P2.c1]) rfl ⟨p5, A5, n5, c5, rfl, z5.set2 R2.c0 _ _, (KK.tail.hb.setCell (p := ⟨w.heap.size + 1 + 1, 0, none⟩) (by show _ ≤ w.heap.size + 1 + 1; omega) (.bool p5)).setCell (p := ⟨w.heap.size + 1 + 1, 1, none⟩) (by show _ ≤ w.heap.size + 1 + 1; omega) (.slice A5 n5 c5)⟩
theorem common_any (p q : Bool) (A B : Option Addr) (n m c d : Nat) (x y : Int) (w : World) (hx : Zs w p A n c x) (hy : Zs w q B m d y) (sx : x.natAbs < 65536 ^ 9) (sy : y.natAbs < 65536 ^ 9) :
    Calls Try.prog 19 #[.agg #[.bool p, .slice A n c], .agg #[.bool q, .slice B m d]] w (RetZ w (gcdZ x y)) := common_ind _ p q A B n m c d x y w rfl hx hy sx sy
end Go.Proofs.Ytgkajbelekjahaa
