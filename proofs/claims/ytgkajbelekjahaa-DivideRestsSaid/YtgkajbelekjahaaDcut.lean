/- The document's answer of layer 3: quotients that are cut towards 0. -/
import Derived.Test.YtgkajbelekjahaaDbox
import Derived.Test.YtgkajbelekjahaaMul
import Derived.Deep.RegionHeld3
namespace Go.Proofs.Ytgkajbelekjahaa
open Go.RowKit

set_option maxRecDepth 100000 in
set_option maxHeartbeats 8000000 in
theorem cut_any (p q : Bool) (A B : Option Addr) (n m c d : Nat) (x y : Int) (w : World) (hx : Zs w p A n c x) (hy : Zs w q B m d y) (sx : x.natAbs < 65536 ^ 9) (sy : y.natAbs < 65536 ^ 9) (h0 : y ≠ 0) :
    Calls Try.prog 37 #[.agg #[.bool p, .slice A n c], .agg #[.bool q, .slice B m d]] w (RetQR w (x.tdiv y) (x.tmod y)) := by
  have lx := hx.small sx
  have ly := hy.small sy
  have hp := hx.sign
  have hq := hy.sign
  obtain ⟨e1, e2, e3⟩ := cut_eq x y
  rw [← hp, ← hq] at e1 e2
  have SX := Lib.hid sx
  have SY := Lib.hid sy
  have SQ := Lib.hid (show (((x.natAbs : Int)).fdiv (y.natAbs : Int)).natAbs < 65536 ^ 9 from quot_small (by rw [Int.natAbs_natCast]; exact sx) (by omega))
  have SR := Lib.hid (show (((x.natAbs : Int)).fmod (y.natAbs : Int)).natAbs < 65536 ^ 9 from rest_small (by rw [Int.natAbs_natCast]; exact sy) (by omega))
  have ST := Lib.hid (show (x.tdiv y).natAbs < 65536 ^ 9 from Nat.lt_of_le_of_lt (tdiv_le x y) sx)
  have SM := Lib.hid (show (x.tdiv y * y).natAbs < 65536 ^ 18 by
    rw [Int.natAbs_mul, show (65536 : Nat) ^ 18 = 65536 ^ 9 * 65536 ^ 9 from by decide]
    exact Nat.mul_lt_mul'' ST.out sy)
  have E1 := Lib.hid e1
  have E2 := Lib.hid e2
  have E3 := Lib.hid e3
  have SX' := Lib.hid (show ((x.natAbs : Int)).natAbs < 65536 ^ 9 by rw [Int.natAbs_natCast]; exact sx)
  have SY' := Lib.hid (show ((y.natAbs : Int)).natAbs < 65536 ^ 9 by rw [Int.natAbs_natCast]; exact sy)
  have H0 := Lib.hid (show (y.natAbs : Int) ≠ 0 by omega)
  clear e1 e2 e3 sx sy h0 hp hq
  have KK := ((((BZ.nil w [(p, A, n, c, x), (q, B, m, d, y)] (by simp [hx, hy])).more p (.slice A n c) 42).more q (.slice B m d) 42).more false (.slice none 0 0) 42).more false (.slice none 0 0) 42
  simp only [World.size_alloc] at KK
  clear hx hy
  go_enter Try.func37, Try.ntmps37
  go_wp2_with fail
  generalize (((w.alloc (.cells #[.bool p, .slice A n c] 42)).alloc (.cells #[.bool q, .slice B m d] 42)).alloc (.cells #[.bool false, .slice none 0 0] 42)).alloc (.cells #[.bool false, .slice none 0 0] 42) = w0 at *
  have st : PreD (w.heap.size + 1 + 1 + 1) (BZ w [(w.heap.size + 1 + 1 + 1, false, .slice none 0 0), (w.heap.size + 1 + 1, false, .slice none 0 0), (w.heap.size + 1, q, .slice B m d), (w.heap.size, p, .slice A n c)] [(p, A, n, c, x), (q, B, m, d, y)]) _ [] := KK.pre _ (by simp <;> omega) (by omega) (by first | omega | (have := KK.head.lt; omega))
  clear KK
  go_cut [6, 7] (fun v v' wx => DivCutD (w.heap.size + 1 + 1 + 1) (BZ w [(w.heap.size + 1 + 1 + 1, false, .slice none 0 0), (w.heap.size + 1 + 1, false, .slice none 0 0), (w.heap.size + 1, q, .slice B m d), (w.heap.size, p, .slice A n c)] [(p, A, n, c, x), (q, B, m, d, y)]) ((x.natAbs : Int).fdiv (y.natAbs : Int)) ((x.natAbs : Int).fmod (y.natAbs : Int)) v v' wx)
  case first =>
    obtain ⟨_, ja0, jb0, _, _⟩ := st.k.tail.tail.tail.head
    obtain ⟨_, ja1, jb1, _, _⟩ := st.k.tail.tail.head
    obtain ⟨gn1, gn2, gn3, gn4⟩ := behind4 st.lt
    try obtain ⟨gm1, gm2, gm3, gm4⟩ := behind4 (st.ge _ (List.mem_cons_self ..))
    try obtain ⟨gk1, gk2, gk3, gk4⟩ := behind4 (st.ge _ (List.mem_cons_of_mem _ (List.mem_cons_self ..)))
    go_region_held3 (fun w' => w'.cell? ⟨w.heap.size, 0, none⟩ = some (.bool p) ∧ w'.cell? ⟨w.heap.size, 1, none⟩ = some (.slice A n c) ∧ w'.cell? ⟨w.heap.size + 1, 0, none⟩ = some (.bool q) ∧ w'.cell? ⟨w.heap.size + 1, 1, none⟩ = some (.slice B m d)) (first | (with_reducible exact ⟨st.k.tail.tail.tail.head.c0, st.k.tail.tail.tail.head.c1, st.k.tail.tail.head.c0, st.k.tail.tail.head.c1⟩) | (with_reducible exact ⟨st.alloc1.k.tail.tail.tail.head.c0, st.alloc1.k.tail.tail.tail.head.c1, st.alloc1.k.tail.tail.head.c0, st.alloc1.k.tail.tail.head.c1⟩) | (with_reducible exact ⟨st.alloc2.k.tail.tail.tail.head.c0, st.alloc2.k.tail.tail.tail.head.c1, st.alloc2.k.tail.tail.head.c0, st.alloc2.k.tail.tail.head.c1⟩) | (with_reducible exact ⟨st.drew.k.tail.tail.tail.head.c0, st.drew.k.tail.tail.tail.head.c1, st.drew.k.tail.tail.head.c0, st.drew.k.tail.tail.head.c1⟩) | (with_reducible exact ⟨st.alloc1.drew.k.tail.tail.tail.head.c0, st.alloc1.drew.k.tail.tail.tail.head.c1, st.alloc1.drew.k.tail.tail.head.c0, st.alloc1.drew.k.tail.tail.head.c1⟩) | (with_reducible exact ⟨st.alloc2.drew.k.tail.tail.tail.head.c0, st.alloc2.drew.k.tail.tail.tail.head.c1, st.alloc2.drew.k.tail.tail.head.c0, st.alloc2.drew.k.tail.tail.head.c1⟩) | go_keep)
      (first
        | (go_at_call 27; (with_reducible refine (abs_any p A n c x _ (by with_reducible first | exact st.k.num | exact st.alloc1.k.num | exact st.alloc2.k.num | exact st.drew.k.num | exact st.alloc1.drew.k.num | exact st.alloc2.drew.k.num) (by omega)).mono ?_); rintro e x1 ⟨p1, A1, n1, c1, rfl, z1, k⟩
           have l1 := z1.small SX'.out
           with_reducible (first | replace st := st.below k | replace st := st.alloc1.below k | replace st := st.alloc2.below k | replace st := st.drew.below k | replace st := st.alloc1.drew.below k | replace st := st.alloc2.drew.below k)
           clear k
           obtain ⟨_, ka0, kb0, _, _⟩ := st.k.tail.tail.tail.head
           obtain ⟨_, ka1, kb1, _, _⟩ := st.k.tail.tail.head
           obtain ⟨gn1, gn2, gn3, gn4⟩ := behind4 st.lt
           try obtain ⟨gm1, gm2, gm3, gm4⟩ := behind4 (st.ge _ (List.mem_cons_self ..))
           try obtain ⟨gk1, gk2, gk3, gk4⟩ := behind4 (st.ge _ (List.mem_cons_of_mem _ (List.mem_cons_self ..)))
           try obtain ⟨_, y0, y1, y2, y3⟩ := st.al _ (List.mem_cons_self ..)
           try obtain ⟨_, y4, y5, y6, y7⟩ := st.al _ (List.mem_cons_of_mem _ (List.mem_cons_self ..)))
        | (go_at_call 27; (with_reducible refine (abs_any q B m d y _ (by with_reducible first | exact st.k.nt.num | exact st.alloc1.k.nt.num | exact st.alloc2.k.nt.num | exact st.drew.k.nt.num | exact st.alloc1.drew.k.nt.num | exact st.alloc2.drew.k.nt.num) (by omega)).mono ?_); rintro e x2 ⟨p2, A2, n2, c2, rfl, z2, k⟩
           have l2 := z2.small SY'.out
           with_reducible (first | replace z1 := z1.below k | replace z1 := (z1.below (below_box _ _)).below k | replace z1 := z1.drew.below k | replace z1 := (z1.below (below_box _ _)).drew.below k | replace z1 := ((z1.below (below_box _ _)).below (below_box _ _)).below k | replace z1 := ((z1.below (below_box _ _)).below (below_box _ _)).drew.below k)
           with_reducible (first | replace st := st.below k | replace st := st.alloc1.below k | replace st := st.alloc2.below k | replace st := st.drew.below k | replace st := st.alloc1.drew.below k | replace st := st.alloc2.drew.below k)
           clear k
           obtain ⟨_, ka0, kb0, _, _⟩ := st.k.tail.tail.tail.head
           obtain ⟨_, ka1, kb1, _, _⟩ := st.k.tail.tail.head
           obtain ⟨gn1, gn2, gn3, gn4⟩ := behind4 st.lt
           try obtain ⟨gm1, gm2, gm3, gm4⟩ := behind4 (st.ge _ (List.mem_cons_self ..))
           try obtain ⟨gk1, gk2, gk3, gk4⟩ := behind4 (st.ge _ (List.mem_cons_of_mem _ (List.mem_cons_self ..)))
           try obtain ⟨_, y0, y1, y2, y3⟩ := st.al _ (List.mem_cons_self ..)
           try obtain ⟨_, y4, y5, y6, y7⟩ := st.al _ (List.mem_cons_of_mem _ (List.mem_cons_self ..)))
        | (go_at_call 31; (with_reducible refine (div_any p1 p2 A1 A2 n1 n2 c1 c2 _ _ _ (by with_reducible first | exact z1 | exact (z1.below (below_box _ _)) | exact z1.drew | exact (z1.below (below_box _ _)).drew | exact ((z1.below (below_box _ _)).below (below_box _ _)) | exact ((z1.below (below_box _ _)).below (below_box _ _)).drew) (by with_reducible first | exact z2 | exact (z2.below (below_box _ _)) | exact z2.drew | exact (z2.below (below_box _ _)).drew | exact ((z2.below (below_box _ _)).below (below_box _ _)) | exact ((z2.below (below_box _ _)).below (below_box _ _)).drew) (by omega) (by omega) H0.out).mono ?_); rintro e x3 ⟨p3, A3, n3, c3, p4, A4, n4, c4, rfl, z3, z4, k⟩
           have l3 := z3.small SQ.out
           have l4 := z4.small SR.out
           with_reducible (first | replace st := st.below k | replace st := st.alloc1.below k | replace st := st.alloc2.below k | replace st := st.drew.below k | replace st := st.alloc1.drew.below k | replace st := st.alloc2.drew.below k)
           clear k
           obtain ⟨_, ka0, kb0, _, _⟩ := st.k.tail.tail.tail.head
           obtain ⟨_, ka1, kb1, _, _⟩ := st.k.tail.tail.head
           obtain ⟨gn1, gn2, gn3, gn4⟩ := behind4 st.lt
           try obtain ⟨gm1, gm2, gm3, gm4⟩ := behind4 (st.ge _ (List.mem_cons_self ..))
           try obtain ⟨gk1, gk2, gk3, gk4⟩ := behind4 (st.ge _ (List.mem_cons_of_mem _ (List.mem_cons_self ..)))
           try obtain ⟨_, y0, y1, y2, y3⟩ := st.al _ (List.mem_cons_self ..)
           try obtain ⟨_, y4, y5, y6, y7⟩ := st.al _ (List.mem_cons_of_mem _ (List.mem_cons_self ..))))
    all_goals
      go_wp2_with fail
      go_meet
      refine ⟨_, _, p3, A3, n3, c3, p4, A4, n4, c4, rfl, rfl, ?_⟩
      with_reducible first | exact st.fin1a z3 z4 | exact st.fin1b z3 z4 | exact st.fin2a z3 z4 | exact st.fin2b z3 z4 | exact st.fin3a z3 z4 | exact st.fin3b z3 z4
  case rest =>
  obtain ⟨g, h, pq, Aq, nq, cq, pr, Ar, nr, cr, rfl, rfl, s0⟩ := hcut
  clear st
  have KK := (s0.k.cons s0.bq).ncons s0.zq
  have gg := s0.gg
  clear s0
  have lq := KK.num.small SQ.out
  obtain ⟨_, c0, c1, _, _⟩ := KK.tail.tail.tail.tail.head
  obtain ⟨_, d0, d1, _, _⟩ := KK.tail.tail.tail.head
  by_cases hpq : p = q
  · have hpb : (!p == q) = false := by simp [hpq]
    have hpc : (p == q) = true := by simp [hpq]
    rw [E1.out hpq] at KK
    clear hpq E1 E2
    go_wp2_with fail
    clear c0 c1 d0 d1
    obtain ⟨_, a0, a1, _, _⟩ := KK.tail.tail.tail.tail.head
    obtain ⟨_, b0, b1, _, _⟩ := KK.tail.tail.tail.head
    obtain ⟨_, g0, g1, _, _⟩ := KK.head
    replace KK := KK.drew
    have i1 : w.heap.size + 1 + 1 ≠ w.heap.size := by omega
    have i2 : w.heap.size + 1 + 1 ≠ w.heap.size + 1 := by omega
    have i3 : w.heap.size + 1 + 1 + 1 ≠ w.heap.size := by omega
    have i4 : w.heap.size + 1 + 1 + 1 ≠ w.heap.size + 1 := by omega
    have i5 : w.heap.size + 1 + 1 ≠ g := by omega
    have i6 : w.heap.size + 1 + 1 + 1 ≠ g := by omega
    have i7 : w.heap.size + 1 + 1 ≠ w.heap.size + 1 + 1 + 1 := by omega
    go_region_held3 (fun w' => w'.cell? ⟨w.heap.size, 0, none⟩ = some (.bool p) ∧ w'.cell? ⟨w.heap.size, 1, none⟩ = some (.slice A n c) ∧ w'.cell? ⟨w.heap.size + 1, 0, none⟩ = some (.bool q) ∧ w'.cell? ⟨w.heap.size + 1, 1, none⟩ = some (.slice B m d) ∧ w'.cell? ⟨g, 0, none⟩ = some (.bool pq) ∧ w'.cell? ⟨g, 1, none⟩ = some (.slice Aq nq cq)) (first | (with_reducible exact ⟨KK.tail.tail.tail.tail.head.c0, KK.tail.tail.tail.tail.head.c1, KK.tail.tail.tail.head.c0, KK.tail.tail.tail.head.c1, KK.head.c0, KK.head.c1⟩) | go_keep)
      (first
        | (go_at_call 25; (with_reducible refine (mul_any pq q Aq B nq m cq d _ _ _ KK.num KK.nt.nt.num (by omega) (by omega)).mono ?_); rintro e x6 ⟨p6, A6, n6, c6, rfl, z6, k⟩
           have l6 := z6.small SM.out
           replace KK := KK.below k
           clear k)
        | (go_at_call 51; (with_reducible refine (sub_any p p6 A A6 n n6 c c6 _ _ _ KK.nt.num z6 (by omega) (by omega)).mono ?_); rintro e x7 ⟨p7, A7, n7, c7, rfl, z7, k⟩
           rw [E3.out] at z7
           replace KK := KK.below k
           clear k
           obtain ⟨_, k0, k1, _, _⟩ := KK.tail.tail.tail.tail.head
           obtain ⟨_, k2, k3, _, _⟩ := KK.tail.tail.tail.head
           obtain ⟨_, k4, k5, _, _⟩ := KK.head
           obtain ⟨_, s2, s3, t2, t3⟩ := KK.tail.tail.head
           obtain ⟨_, s4, s5, t4, t5⟩ := KK.tail.head))
    go_wp2
    have R2 := KK.tail.tail.head
    have R3 := KK.tail.head
    have P2 := (R2.self2 pq (.slice Aq nq cq)).far2 (Ne.symm i7) (.bool p7) (.slice A7 n7 c7)
    have P3 := (R3.far2 i7 (.bool pq) (.slice Aq nq cq)).self2 p7 (.slice A7 n7 c7)
    have HB := ((((KK.hb.setCell (p := ⟨w.heap.size + 1 + 1, 0, none⟩) (by show _ ≤ w.heap.size + 1 + 1; omega) (.bool pq)).setCell (p := ⟨w.heap.size + 1 + 1, 1, none⟩) (by show _ ≤ w.heap.size + 1 + 1; omega) (.slice Aq nq cq)).setCell (p := ⟨w.heap.size + 1 + 1 + 1, 0, none⟩) (by show _ ≤ w.heap.size + 1 + 1 + 1; omega) (.bool p7)).setCell (p := ⟨w.heap.size + 1 + 1 + 1, 1, none⟩) (by show _ ≤ w.heap.size + 1 + 1 + 1; omega) (.slice A7 n7 c7))
    have b3 := R3.far2 i7 (.bool pq) (.slice Aq nq cq)
    exact bodyPost_ret (v := .tuple #[.agg #[.bool pq, .slice Aq nq cq], .agg #[.bool p7, .slice A7 n7 c7]]) (by simp [results, Try.results37, go_sem, P2.c0, P2.c1, P3.c0, P3.c1]) rfl ⟨pq, Aq, nq, cq, p7, A7, n7, c7, rfl, (KK.num.set2 R2.c0 _ _).set2 b3.c0 _ _, (z7.set2 R2.c0 _ _).set2 b3.c0 _ _, HB⟩
  · have hpb : (!p == q) = true := by simpa using hpq
    have hpc : (p == q) = false := by simpa using hpq
    obtain ⟨_, g0, g1, _, _⟩ := KK.head
    go_wp2_with fail
    refine (neg_any pq Aq nq cq _ _ KK.num (by omega)).mono ?_
    rintro e w5 ⟨p5, A5, n5, c5, rfl, z5, k⟩
    rw [E2.out hpq] at z5
    replace KK := KK.below k
    clear k g0 g1 c0 c1 d0 d1
    obtain ⟨_, g0, g1, f0, f1⟩ := id KK.head
    go_wp2_with fail
    replace KK := (((BZ.kept (w.heap.size + 1 + 1 + 1) (by simp <;> omega) (by omega)).set2 _ _ _ _ p5 (.slice A5 n5 c5) KK.tail.nt KK.head gg).cons (KK.head.self2 p5 (.slice A5 n5 c5))).ncons (z5.set2 KK.head.c0 p5 (.slice A5 n5 c5))
    have l5 := KK.num.small ST.out
    clear g0 g1 f0 f1 z5 hpq E1 E2
    generalize (w5.setCell ⟨g, 0, none⟩ (.bool p5)).setCell ⟨g, 1, none⟩ (.slice A5 n5 c5) = w6 at *
    obtain ⟨_, a0, a1, _, _⟩ := KK.tail.tail.tail.tail.head
    obtain ⟨_, b0, b1, _, _⟩ := KK.tail.tail.tail.head
    obtain ⟨_, g0, g1, _, _⟩ := KK.head
    replace KK := KK.drew
    have i1 : w.heap.size + 1 + 1 ≠ w.heap.size := by omega
    have i2 : w.heap.size + 1 + 1 ≠ w.heap.size + 1 := by omega
    have i3 : w.heap.size + 1 + 1 + 1 ≠ w.heap.size := by omega
    have i4 : w.heap.size + 1 + 1 + 1 ≠ w.heap.size + 1 := by omega
    have i5 : w.heap.size + 1 + 1 ≠ g := by omega
    have i6 : w.heap.size + 1 + 1 + 1 ≠ g := by omega
    have i7 : w.heap.size + 1 + 1 ≠ w.heap.size + 1 + 1 + 1 := by omega
    go_region_held3 (fun w' => w'.cell? ⟨w.heap.size, 0, none⟩ = some (.bool p) ∧ w'.cell? ⟨w.heap.size, 1, none⟩ = some (.slice A n c) ∧ w'.cell? ⟨w.heap.size + 1, 0, none⟩ = some (.bool q) ∧ w'.cell? ⟨w.heap.size + 1, 1, none⟩ = some (.slice B m d) ∧ w'.cell? ⟨g, 0, none⟩ = some (.bool p5) ∧ w'.cell? ⟨g, 1, none⟩ = some (.slice A5 n5 c5)) (first | (with_reducible exact ⟨KK.tail.tail.tail.tail.head.c0, KK.tail.tail.tail.tail.head.c1, KK.tail.tail.tail.head.c0, KK.tail.tail.tail.head.c1, KK.head.c0, KK.head.c1⟩) | go_keep)
      (first
        | (go_at_call 25; (with_reducible refine (mul_any p5 q A5 B n5 m c5 d _ _ _ KK.num KK.nt.nt.num (by omega) (by omega)).mono ?_); rintro e x6 ⟨p6, A6, n6, c6, rfl, z6, k⟩
           have l6 := z6.small SM.out
           replace KK := KK.below k
           clear k)
        | (go_at_call 51; (with_reducible refine (sub_any p p6 A A6 n n6 c c6 _ _ _ KK.nt.num z6 (by omega) (by omega)).mono ?_); rintro e x7 ⟨p7, A7, n7, c7, rfl, z7, k⟩
           rw [E3.out] at z7
           replace KK := KK.below k
           clear k
           obtain ⟨_, k0, k1, _, _⟩ := KK.tail.tail.tail.tail.head
           obtain ⟨_, k2, k3, _, _⟩ := KK.tail.tail.tail.head
           obtain ⟨_, k4, k5, _, _⟩ := KK.head
           obtain ⟨_, s2, s3, t2, t3⟩ := KK.tail.tail.head
           obtain ⟨_, s4, s5, t4, t5⟩ := KK.tail.head))
    go_wp2
    have R2 := KK.tail.tail.head
    have R3 := KK.tail.head
    have P2 := (R2.self2 p5 (.slice A5 n5 c5)).far2 (Ne.symm i7) (.bool p7) (.slice A7 n7 c7)
    have P3 := (R3.far2 i7 (.bool p5) (.slice A5 n5 c5)).self2 p7 (.slice A7 n7 c7)
    have HB := ((((KK.hb.setCell (p := ⟨w.heap.size + 1 + 1, 0, none⟩) (by show _ ≤ w.heap.size + 1 + 1; omega) (.bool p5)).setCell (p := ⟨w.heap.size + 1 + 1, 1, none⟩) (by show _ ≤ w.heap.size + 1 + 1; omega) (.slice A5 n5 c5)).setCell (p := ⟨w.heap.size + 1 + 1 + 1, 0, none⟩) (by show _ ≤ w.heap.size + 1 + 1 + 1; omega) (.bool p7)).setCell (p := ⟨w.heap.size + 1 + 1 + 1, 1, none⟩) (by show _ ≤ w.heap.size + 1 + 1 + 1; omega) (.slice A7 n7 c7))
    have b3 := R3.far2 i7 (.bool p5) (.slice A5 n5 c5)
    exact bodyPost_ret (v := .tuple #[.agg #[.bool p5, .slice A5 n5 c5], .agg #[.bool p7, .slice A7 n7 c7]]) (by simp [results, Try.results37, go_sem, P2.c0, P2.c1, P3.c0, P3.c1]) rfl ⟨p5, A5, n5, c5, p7, A7, n7, c7, rfl, (KK.num.set2 R2.c0 _ _).set2 b3.c0 _ _, (z7.set2 R2.c0 _ _).set2 b3.c0 _ _, HB⟩
end Go.Proofs.Ytgkajbelekjahaa
