/- Package divide's Fraction, at any wide numbers. -/
import Derived.Test.YtgkajbelekjahaaVby
import Derived.Test.YtgkajbelekjahaaDfrac
namespace Go.Proofs.Ytgkajbelekjahaa
open Go.RowKit

theorem gcdZ_pos (x y : Int) (h : y ≠ 0) : 0 < gcdZ x y := by
  unfold gcdZ
  have := Nat.gcd_pos_of_pos_right x.natAbs (n := y.natAbs) (by omega)
  omega
theorem gcdS_parts (x y : Int) (h : y ≠ 0) : decide (gcdS x y < 0) = decide (y < 0) ∧ ((gcdS x y).natAbs : Int) = gcdZ x y := by
  have g := gcdZ_pos x y h
  unfold gcdS
  by_cases hy : y < 0
  · rw [if_pos hy, decide_eq_true hy]
    exact ⟨decide_eq_true (by omega), by omega⟩
  · rw [if_neg hy, decide_eq_false hy]
    exact ⟨decide_eq_false (by omega), by omega⟩
theorem gcdS_dvd (x y : Int) : gcdS x y ∣ x ∧ gcdS x y ∣ y := by
  have e : (gcdS x y).natAbs = Nat.gcd x.natAbs y.natAbs := by unfold gcdS gcdZ; split <;> omega
  exact ⟨Int.natAbs_dvd_natAbs.1 (by rw [e]; exact Nat.gcd_dvd_left _ _), Int.natAbs_dvd_natAbs.1 (by rw [e]; exact Nat.gcd_dvd_right _ _)⟩
theorem fdiv_dvd {a c : Int} (hc : c ≠ 0) (h : c ∣ a) : a.fdiv c = sg (decide (a < 0) != decide (c < 0)) ((a.natAbs : Int) / (c.natAbs : Int)) := by
  rw [(floor_same hc (.inl (Int.tmod_eq_zero_of_dvd h))).1, tdiv_sg]
theorem frac_parts (a b : Int) (hb : b ≠ 0) : a.fdiv (gcdS a b) = sg (decide (a < 0) != decide (b < 0)) ((a.natAbs : Int) / gcdZ a b) ∧ b.fdiv (gcdS a b) = (b.natAbs : Int) / gcdZ a b := by
  obtain ⟨g1, g2⟩ := gcdS_parts a b hb
  obtain ⟨d1, d2⟩ := gcdS_dvd a b
  have hc := gcdS_ne a b hb
  rw [fdiv_dvd hc d1, fdiv_dvd hc d2, g1, g2]
  refine ⟨rfl, ?_⟩
  simp [sg]

set_option maxRecDepth 100000 in
set_option maxHeartbeats 8000000 in
theorem fracW_zero (a : Int) (w : World) :
    Calls Try.prog 21 #[.agg #[.int .i64 (hiW a), .int .u64 (loW a)], .agg #[.int .i64 0, .int .u64 0]] w (RetRef w 3) := by
  have KK := (((((PairsK.nil w).more (.int .i64 (hiW a)) (.int .u64 (loW a)) 24).more (.int .i64 0) (.int .u64 0) 24).more (.int .i64 0) (.int .u64 0) 24).more (.int .i64 0) (.int .u64 0) 24)
  simp only [World.size_alloc] at KK
  go_enter Try.func21, Try.ntmps21
  go_wp2
  exact bodyPost_ret (v := .tuple #[.agg #[.int .i64 0, .int .u64 0], .agg #[.int .i64 0, .int .u64 0], .int .i64 3]) (by simp [results, Try.results21, go_sem]) rfl ⟨rfl, KK.hb⟩

set_option maxRecDepth 100000 in
set_option maxHeartbeats 8000000 in
theorem fracW_any (a b : Int) (ha : InW a) (hb : InW b) (hb0 : b ≠ 0) (w : World) :
    Calls Try.prog 21 #[.agg #[.int .i64 (hiW a), .int .u64 (loW a)], .agg #[.int .i64 (hiW b), .int .u64 (loW b)]] w (RetFr w (a.fdiv (gcdS a b)) (b.fdiv (gcdS a b))) := by
  have aa := abs_w ha
  have ab := abs_w hb
  have SA := Lib.hid (fun W => sizeOf_any a ha W)
  have SB := Lib.hid (fun W => sizeOf_any b hb W)
  obtain ⟨e1, e2⟩ := frac_parts a b hb0
  have gp := gcdZ_pos a b hb0
  obtain ⟨_, g1⟩ := gcdZ_bound aa ab
  have CM := Lib.hid (fun W => show Calls Try.prog 39 #[.agg #[.int .u64 (hiW (a.natAbs : Int)), .int .u64 (loW (a.natAbs : Int))], .agg #[.int .u64 (hiW (b.natAbs : Int)), .int .u64 (loW (b.natAbs : Int))]] W (RetSz W (gcdZ a b)) from by rw [← gcd_nat]; exact common_sz (a.natAbs : Int) (b.natAbs : Int) (by omega) (by omega) (by omega) (by omega) W)
  have hw : hiW b = 0 → loW b = 0 → False := fun h k => hb0 (wide_zero h k)
  generalize gcdZ a b = G at *
  have X1 := Lib.hid (fun W => split_any (a.natAbs : Int) G (by omega) (by omega) gp g1 W)
  have X2 := Lib.hid (fun W => split_any (b.natAbs : Int) G (by omega) (by omega) gp g1 W)
  have p0 : 0 ≤ (a.natAbs : Int) / G := Int.ediv_nonneg (by omega) (by omega)
  have p1 : (a.natAbs : Int) / G ≤ 170141183460469231731687303715884105728 := Int.le_trans (Int.ediv_le_self _ (by omega)) (by omega)
  have q0 : 0 ≤ (b.natAbs : Int) / G := Int.ediv_nonneg (by omega) (by omega)
  have q1 : (b.natAbs : Int) / G ≤ 170141183460469231731687303715884105728 := Int.le_trans (Int.ediv_le_self _ (by omega)) (by omega)
  have BA := Lib.hid (fun W => below_w a W)
  have BB := Lib.hid (fun W => below_w b W)
  generalize hpa : decide (a < 0) = pa at *
  generalize hpb : decide (b < 0) = pb at *
  generalize hm : (pa != pb) = m at *
  have m1 : (!pa == pb) = m := by rw [← hm]; cases pa <;> cases pb <;> rfl
  have m2 : (pa == pb) = !m := by rw [← hm]; cases pa <;> cases pb <;> rfl
  generalize (a.natAbs : Int) / G = p at *
  generalize (a.natAbs : Int) % G = p' at *
  generalize (b.natAbs : Int) / G = q at *
  generalize (b.natAbs : Int) % G = q' at *
  have G1 := Lib.hid (fun W => signed_any p m p0 p1 W)
  have G2 := Lib.hid (fun W => show Calls Try.prog 35 #[.agg #[.int .u64 (hiW q), .int .u64 (loW q)], .bool false] W (RetWE W q) from signed_any q false q0 q1 W)
  rw [← e1] at G1
  have E2 := Lib.hid e2
  generalize a.fdiv (gcdS a b) = P at *
  have M1 := Lib.hid m1
  have M2 := Lib.hid m2
  rw [e2]
  clear ha hb hb0 aa ab p0 p1 q0 q1 e1 e2 E2 gp g1 hpa hpb hm m1 m2
  generalize (a.natAbs : Int) = na at *
  generalize (b.natAbs : Int) = nb at *
  go_enter Try.func21, Try.ntmps21
  go_upto_region 1 with (fail)
  have KK := (((((PairsK.nil w).more (.int .i64 (hiW a)) (.int .u64 (loW a)) 24).more (.int .i64 (hiW b)) (.int .u64 (loW b)) 24).more (.int .i64 0) (.int .u64 0) 24).more (.int .i64 0) (.int .u64 0) 24)
  simp only [World.size_alloc] at KK
  generalize ((((w.alloc (.cells #[.int .i64 (hiW a), .int .u64 (loW a)] 24)).alloc (.cells #[.int .i64 (hiW b), .int .u64 (loW b)] 24)).alloc (.cells #[.int .i64 0, .int .u64 0] 24)).alloc (.cells #[.int .i64 0, .int .u64 0] 24)) = w0 at *
  go_cut [17] (fun v17 wx => v17 = .bool false ∧ PairsK w [(w.heap.size + 1 + 1 + 1, .int .i64 0, .int .u64 0), (w.heap.size + 1 + 1, .int .i64 0, .int .u64 0), (w.heap.size + 1, .int .i64 (hiW b), .int .u64 (loW b)), (w.heap.size, .int .i64 (hiW a), .int .u64 (loW a))] wx)
  case first =>
    obtain ⟨_, c0, c1, _, _⟩ := KK.tail.tail.head
    by_cases hx : hiW b = 0
    · have hz : ¬ loW b = 0 := fun k => hw hx k
      have hz' : (loW b == 0) = false := by rw [beq_eq_false_iff_ne]; exact hz
      rw [hx] at c0
      go_wp2_with fail
      go_meet
      exact ⟨rfl, KK⟩
    · have hx' : (hiW b == 0) = false := by rw [beq_eq_false_iff_ne]; exact hx
      go_wp2_with fail
      go_meet
      exact ⟨rfl, KK⟩
  case rest =>
  clear KK hw
  obtain ⟨rfl, KK⟩ := hcut
  go_wp2_with fail
  obtain ⟨lo, st, hlo⟩ := KK.preG (KK.tail.tail.tail.head).lt 53 (.int .u64 0) (.int .u64 0)
  have la0 : w.heap.size + 1 + 1 + 1 ≤ lo := hlo (w.heap.size + 1 + 1 + 1, .int .i64 0, .int .u64 0) (by simp)
  have la1 : w.heap.size + 1 + 1 ≤ lo := hlo (w.heap.size + 1 + 1, .int .i64 0, .int .u64 0) (by simp)
  have la2 : w.heap.size + 1 ≤ lo := hlo (w.heap.size + 1, .int .i64 (hiW b), .int .u64 (loW b)) (by simp)
  have la3 : w.heap.size ≤ lo := hlo (w.heap.size, .int .i64 (hiW a), .int .u64 (loW a)) (by simp)
  clear hlo
  go_cut [7] (fun v7 wx => CutOne lo (PairsK w [(w.heap.size + 1 + 1 + 1, .int .i64 0, .int .u64 0), (w.heap.size + 1 + 1, .int .i64 0, .int .u64 0), (w.heap.size + 1, .int .i64 (hiW b), .int .u64 (loW b)), (w.heap.size, .int .i64 (hiW a), .int .u64 (loW a))]) (.int .u64 (hiW G)) (.int .u64 (loW G)) v7 wx)
  case first =>
    obtain ⟨_, ja0, jb0, _, _⟩ := KK.tail.tail.tail.head
    obtain ⟨_, ja1, jb1, _, _⟩ := KK.tail.tail.head
    clear KK
    have ⟨gp0, gq0⟩ := behindG st.lt la3
    have ⟨gp1, gq1⟩ := behindG st.lt la2
    go_region_held3 (fun w' => w'.cell? ⟨w.heap.size, 0, none⟩ = some (.int .i64 (hiW a)) ∧ w'.cell? ⟨w.heap.size, 1, none⟩ = some (.int .u64 (loW a)) ∧ w'.cell? ⟨w.heap.size + 1, 0, none⟩ = some (.int .i64 (hiW b)) ∧ w'.cell? ⟨w.heap.size + 1, 1, none⟩ = some (.int .u64 (loW b))) (first | (with_reducible exact ⟨st.k.tail.tail.tail.head.c0, st.k.tail.tail.tail.head.c1, st.k.tail.tail.head.c0, st.k.tail.tail.head.c1⟩) | (with_reducible exact ⟨st.alloc1.k.tail.tail.tail.head.c0, st.alloc1.k.tail.tail.tail.head.c1, st.alloc1.k.tail.tail.head.c0, st.alloc1.k.tail.tail.head.c1⟩) | (with_reducible exact ⟨st.alloc2.k.tail.tail.tail.head.c0, st.alloc2.k.tail.tail.tail.head.c1, st.alloc2.k.tail.tail.head.c0, st.alloc2.k.tail.tail.head.c1⟩) | (with_reducible exact ⟨st.drew.k.tail.tail.tail.head.c0, st.drew.k.tail.tail.tail.head.c1, st.drew.k.tail.tail.head.c0, st.drew.k.tail.tail.head.c1⟩) | (with_reducible exact ⟨st.alloc1.drew.k.tail.tail.tail.head.c0, st.alloc1.drew.k.tail.tail.tail.head.c1, st.alloc1.drew.k.tail.tail.head.c0, st.alloc1.drew.k.tail.tail.head.c1⟩) | (with_reducible exact ⟨st.alloc2.drew.k.tail.tail.tail.head.c0, st.alloc2.drew.k.tail.tail.tail.head.c1, st.alloc2.drew.k.tail.tail.head.c0, st.alloc2.drew.k.tail.tail.head.c1⟩) | go_keep)
      (first
        | (go_at_call 34; (with_reducible refine (SA.out _).mono ?_); rintro e x ⟨rfl, k⟩
           with_reducible (first | replace st := st.below k | replace st := st.alloc1.below k | replace st := st.alloc2.below k | replace st := st.drew.below k | replace st := st.alloc1.drew.below k | replace st := st.alloc2.drew.below k)
           clear k
           obtain ⟨_, ka0, kb0, _, _⟩ := st.k.tail.tail.tail.head
           obtain ⟨_, ka1, kb1, _, _⟩ := st.k.tail.tail.head
           obtain ⟨gp0, gq0⟩ := behindG st.lt la3
           try obtain ⟨gr0, gs0⟩ := behindG (st.ge _ (List.mem_cons_self ..)) la3
           try obtain ⟨gt0, gu0⟩ := behindG (st.ge _ (List.mem_cons_of_mem _ (List.mem_cons_self ..))) la3
           obtain ⟨gp1, gq1⟩ := behindG st.lt la2
           try obtain ⟨gr1, gs1⟩ := behindG (st.ge _ (List.mem_cons_self ..)) la2
           try obtain ⟨gt1, gu1⟩ := behindG (st.ge _ (List.mem_cons_of_mem _ (List.mem_cons_self ..))) la2
           try obtain ⟨_, y0, y1, y2, y3⟩ := st.al _ (List.mem_cons_self ..)
           try obtain ⟨_, y4, y5, y6, y7⟩ := st.al _ (List.mem_cons_of_mem _ (List.mem_cons_self ..)))
        | (go_at_call 34; (with_reducible refine (SB.out _).mono ?_); rintro e x ⟨rfl, k⟩
           with_reducible (first | replace st := st.below k | replace st := st.alloc1.below k | replace st := st.alloc2.below k | replace st := st.drew.below k | replace st := st.alloc1.drew.below k | replace st := st.alloc2.drew.below k)
           clear k
           obtain ⟨_, ka0, kb0, _, _⟩ := st.k.tail.tail.tail.head
           obtain ⟨_, ka1, kb1, _, _⟩ := st.k.tail.tail.head
           obtain ⟨gp0, gq0⟩ := behindG st.lt la3
           try obtain ⟨gr0, gs0⟩ := behindG (st.ge _ (List.mem_cons_self ..)) la3
           try obtain ⟨gt0, gu0⟩ := behindG (st.ge _ (List.mem_cons_of_mem _ (List.mem_cons_self ..))) la3
           obtain ⟨gp1, gq1⟩ := behindG st.lt la2
           try obtain ⟨gr1, gs1⟩ := behindG (st.ge _ (List.mem_cons_self ..)) la2
           try obtain ⟨gt1, gu1⟩ := behindG (st.ge _ (List.mem_cons_of_mem _ (List.mem_cons_self ..))) la2
           try obtain ⟨_, y0, y1, y2, y3⟩ := st.al _ (List.mem_cons_self ..)
           try obtain ⟨_, y4, y5, y6, y7⟩ := st.al _ (List.mem_cons_of_mem _ (List.mem_cons_self ..)))
        | (go_at_call 39; (with_reducible refine (CM.out _).mono ?_); rintro e x ⟨rfl, k⟩
           with_reducible (first | replace st := st.below k | replace st := st.alloc1.below k | replace st := st.alloc2.below k | replace st := st.drew.below k | replace st := st.alloc1.drew.below k | replace st := st.alloc2.drew.below k)
           clear k
           obtain ⟨_, ka0, kb0, _, _⟩ := st.k.tail.tail.tail.head
           obtain ⟨_, ka1, kb1, _, _⟩ := st.k.tail.tail.head
           obtain ⟨gp0, gq0⟩ := behindG st.lt la3
           try obtain ⟨gr0, gs0⟩ := behindG (st.ge _ (List.mem_cons_self ..)) la3
           try obtain ⟨gt0, gu0⟩ := behindG (st.ge _ (List.mem_cons_of_mem _ (List.mem_cons_self ..))) la3
           obtain ⟨gp1, gq1⟩ := behindG st.lt la2
           try obtain ⟨gr1, gs1⟩ := behindG (st.ge _ (List.mem_cons_self ..)) la2
           try obtain ⟨gt1, gu1⟩ := behindG (st.ge _ (List.mem_cons_of_mem _ (List.mem_cons_self ..))) la2
           try obtain ⟨_, y0, y1, y2, y3⟩ := st.al _ (List.mem_cons_self ..)
           try obtain ⟨_, y4, y5, y6, y7⟩ := st.al _ (List.mem_cons_of_mem _ (List.mem_cons_self ..))))
    all_goals
      go_wp2_with fail
      go_meet
      refine ⟨_, rfl, ?_⟩
      with_reducible first | exact st.one1 _ _ | exact st.one2 _ _
  case rest =>
  obtain ⟨g, rfl, s0⟩ := hcut
  clear st
  have KK := s0.k.cons s0.bg
  have ggg := s0.gg
  have ng0 : g ≠ w.heap.size + 1 + 1 + 1 := by omega
  have ng1 : g ≠ w.heap.size + 1 + 1 := by omega
  have ng2 : g ≠ w.heap.size + 1 := by omega
  have ng3 : g ≠ w.heap.size := by omega
  clear s0 la0 la1 la2 la3 ggg
  clear lo
  clear CM
  go_wp2_with fail
  obtain ⟨lo, st, hlo⟩ := KK.preG (KK.tail.tail.tail.tail.head).lt 53 (.int .u64 0) (.int .u64 0)
  have la0 : g ≤ lo := hlo (g, .int .u64 (hiW G), .int .u64 (loW G)) (by simp)
  have la1 : w.heap.size + 1 + 1 + 1 ≤ lo := hlo (w.heap.size + 1 + 1 + 1, .int .i64 0, .int .u64 0) (by simp)
  have la2 : w.heap.size + 1 + 1 ≤ lo := hlo (w.heap.size + 1 + 1, .int .i64 0, .int .u64 0) (by simp)
  have la3 : w.heap.size + 1 ≤ lo := hlo (w.heap.size + 1, .int .i64 (hiW b), .int .u64 (loW b)) (by simp)
  have la4 : w.heap.size ≤ lo := hlo (w.heap.size, .int .i64 (hiW a), .int .u64 (loW a)) (by simp)
  clear hlo
  go_cut [8, 9] (fun v8 v9 wx => CutTwo lo (PairsK w [(g, .int .u64 (hiW G), .int .u64 (loW G)), (w.heap.size + 1 + 1 + 1, .int .i64 0, .int .u64 0), (w.heap.size + 1 + 1, .int .i64 0, .int .u64 0), (w.heap.size + 1, .int .i64 (hiW b), .int .u64 (loW b)), (w.heap.size, .int .i64 (hiW a), .int .u64 (loW a))]) (.int .u64 (hiW p)) (.int .u64 (loW p)) (.int .u64 (hiW p')) (.int .u64 (loW p')) v8 v9 wx)
  case first =>
    obtain ⟨_, ja0, jb0, _, _⟩ := KK.tail.tail.tail.tail.head
    obtain ⟨_, ja1, jb1, _, _⟩ := KK.head
    clear KK
    have ⟨gp0, gq0⟩ := behindG st.lt la4
    have ⟨gp1, gq1⟩ := behindG st.lt la0
    go_region_held3 (fun w' => w'.cell? ⟨w.heap.size, 0, none⟩ = some (.int .i64 (hiW a)) ∧ w'.cell? ⟨w.heap.size, 1, none⟩ = some (.int .u64 (loW a)) ∧ w'.cell? ⟨g, 0, none⟩ = some (.int .u64 (hiW G)) ∧ w'.cell? ⟨g, 1, none⟩ = some (.int .u64 (loW G))) (first | (with_reducible exact ⟨st.k.tail.tail.tail.tail.head.c0, st.k.tail.tail.tail.tail.head.c1, st.k.head.c0, st.k.head.c1⟩) | (with_reducible exact ⟨st.alloc1.k.tail.tail.tail.tail.head.c0, st.alloc1.k.tail.tail.tail.tail.head.c1, st.alloc1.k.head.c0, st.alloc1.k.head.c1⟩) | (with_reducible exact ⟨st.alloc2.k.tail.tail.tail.tail.head.c0, st.alloc2.k.tail.tail.tail.tail.head.c1, st.alloc2.k.head.c0, st.alloc2.k.head.c1⟩) | (with_reducible exact ⟨st.drew.k.tail.tail.tail.tail.head.c0, st.drew.k.tail.tail.tail.tail.head.c1, st.drew.k.head.c0, st.drew.k.head.c1⟩) | (with_reducible exact ⟨st.alloc1.drew.k.tail.tail.tail.tail.head.c0, st.alloc1.drew.k.tail.tail.tail.tail.head.c1, st.alloc1.drew.k.head.c0, st.alloc1.drew.k.head.c1⟩) | (with_reducible exact ⟨st.alloc2.drew.k.tail.tail.tail.tail.head.c0, st.alloc2.drew.k.tail.tail.tail.tail.head.c1, st.alloc2.drew.k.head.c0, st.alloc2.drew.k.head.c1⟩) | go_keep)
      (first
        | (go_at_call 34; (with_reducible refine (SA.out _).mono ?_); rintro e x ⟨rfl, k⟩
           with_reducible (first | replace st := st.below k | replace st := st.alloc1.below k | replace st := st.alloc2.below k | replace st := st.drew.below k | replace st := st.alloc1.drew.below k | replace st := st.alloc2.drew.below k)
           clear k
           obtain ⟨_, ka0, kb0, _, _⟩ := st.k.tail.tail.tail.tail.head
           obtain ⟨_, ka1, kb1, _, _⟩ := st.k.head
           obtain ⟨gp0, gq0⟩ := behindG st.lt la4
           try obtain ⟨gr0, gs0⟩ := behindG (st.ge _ (List.mem_cons_self ..)) la4
           try obtain ⟨gt0, gu0⟩ := behindG (st.ge _ (List.mem_cons_of_mem _ (List.mem_cons_self ..))) la4
           obtain ⟨gp1, gq1⟩ := behindG st.lt la0
           try obtain ⟨gr1, gs1⟩ := behindG (st.ge _ (List.mem_cons_self ..)) la0
           try obtain ⟨gt1, gu1⟩ := behindG (st.ge _ (List.mem_cons_of_mem _ (List.mem_cons_self ..))) la0
           try obtain ⟨_, y0, y1, y2, y3⟩ := st.al _ (List.mem_cons_self ..)
           try obtain ⟨_, y4, y5, y6, y7⟩ := st.al _ (List.mem_cons_of_mem _ (List.mem_cons_self ..)))
        | (go_at_call 33; (with_reducible refine (X1.out _).mono ?_); rintro e x ⟨rfl, k⟩
           with_reducible (first | replace st := st.below k | replace st := st.alloc1.below k | replace st := st.alloc2.below k | replace st := st.drew.below k | replace st := st.alloc1.drew.below k | replace st := st.alloc2.drew.below k)
           clear k
           obtain ⟨_, ka0, kb0, _, _⟩ := st.k.tail.tail.tail.tail.head
           obtain ⟨_, ka1, kb1, _, _⟩ := st.k.head
           obtain ⟨gp0, gq0⟩ := behindG st.lt la4
           try obtain ⟨gr0, gs0⟩ := behindG (st.ge _ (List.mem_cons_self ..)) la4
           try obtain ⟨gt0, gu0⟩ := behindG (st.ge _ (List.mem_cons_of_mem _ (List.mem_cons_self ..))) la4
           obtain ⟨gp1, gq1⟩ := behindG st.lt la0
           try obtain ⟨gr1, gs1⟩ := behindG (st.ge _ (List.mem_cons_self ..)) la0
           try obtain ⟨gt1, gu1⟩ := behindG (st.ge _ (List.mem_cons_of_mem _ (List.mem_cons_self ..))) la0
           try obtain ⟨_, y0, y1, y2, y3⟩ := st.al _ (List.mem_cons_self ..)
           try obtain ⟨_, y4, y5, y6, y7⟩ := st.al _ (List.mem_cons_of_mem _ (List.mem_cons_self ..))))
    all_goals
      go_wp2_with fail
      go_meet
      refine ⟨_, _, rfl, rfl, ?_⟩
      with_reducible first | exact st.fin1a _ _ _ _ | exact st.fin1b _ _ _ _ | exact st.fin2a _ _ _ _ | exact st.fin2b _ _ _ _ | exact st.fin3a _ _ _ _ | exact st.fin3b _ _ _ _
  case rest =>
  obtain ⟨h, j, rfl, rfl, s0⟩ := hcut
  clear st
  have KK := (s0.k.cons s0.bg).cons s0.bh
  have ggh := s0.gg
  have ggj := s0.gh
  have neh := s0.ne
  have nh0 : h ≠ g := by omega
  have nj0 : j ≠ g := by omega
  have nh1 : h ≠ w.heap.size + 1 + 1 + 1 := by omega
  have nj1 : j ≠ w.heap.size + 1 + 1 + 1 := by omega
  have nh2 : h ≠ w.heap.size + 1 + 1 := by omega
  have nj2 : j ≠ w.heap.size + 1 + 1 := by omega
  have nh3 : h ≠ w.heap.size + 1 := by omega
  have nj3 : j ≠ w.heap.size + 1 := by omega
  have nh4 : h ≠ w.heap.size := by omega
  have nj4 : j ≠ w.heap.size := by omega
  clear s0 la0 la1 la2 la3 la4 ggh ggj
  clear lo
  clear SA X1
  go_wp2_with fail
  obtain ⟨lo, st, hlo⟩ := KK.preG (KK.tail.tail.tail.tail.tail.tail.head).lt 53 (.int .u64 0) (.int .u64 0)
  have la0 : j ≤ lo := hlo (j, .int .u64 (hiW p'), .int .u64 (loW p')) (by simp)
  have la1 : h ≤ lo := hlo (h, .int .u64 (hiW p), .int .u64 (loW p)) (by simp)
  have la2 : g ≤ lo := hlo (g, .int .u64 (hiW G), .int .u64 (loW G)) (by simp)
  have la3 : w.heap.size + 1 + 1 + 1 ≤ lo := hlo (w.heap.size + 1 + 1 + 1, .int .i64 0, .int .u64 0) (by simp)
  have la4 : w.heap.size + 1 + 1 ≤ lo := hlo (w.heap.size + 1 + 1, .int .i64 0, .int .u64 0) (by simp)
  have la5 : w.heap.size + 1 ≤ lo := hlo (w.heap.size + 1, .int .i64 (hiW b), .int .u64 (loW b)) (by simp)
  have la6 : w.heap.size ≤ lo := hlo (w.heap.size, .int .i64 (hiW a), .int .u64 (loW a)) (by simp)
  clear hlo
  go_cut [10, 11] (fun v10 v11 wx => CutTwo lo (PairsK w [(j, .int .u64 (hiW p'), .int .u64 (loW p')), (h, .int .u64 (hiW p), .int .u64 (loW p)), (g, .int .u64 (hiW G), .int .u64 (loW G)), (w.heap.size + 1 + 1 + 1, .int .i64 0, .int .u64 0), (w.heap.size + 1 + 1, .int .i64 0, .int .u64 0), (w.heap.size + 1, .int .i64 (hiW b), .int .u64 (loW b)), (w.heap.size, .int .i64 (hiW a), .int .u64 (loW a))]) (.int .u64 (hiW q)) (.int .u64 (loW q)) (.int .u64 (hiW q')) (.int .u64 (loW q')) v10 v11 wx)
  case first =>
    obtain ⟨_, ja0, jb0, _, _⟩ := KK.tail.tail.tail.tail.tail.head
    obtain ⟨_, ja1, jb1, _, _⟩ := KK.tail.tail.head
    clear KK
    have ⟨gp0, gq0⟩ := behindG st.lt la5
    have ⟨gp1, gq1⟩ := behindG st.lt la2
    have ⟨gp2, gq2⟩ := behindG st.lt la6
    go_region_held3 (fun w' => w'.cell? ⟨w.heap.size + 1, 0, none⟩ = some (.int .i64 (hiW b)) ∧ w'.cell? ⟨w.heap.size + 1, 1, none⟩ = some (.int .u64 (loW b)) ∧ w'.cell? ⟨g, 0, none⟩ = some (.int .u64 (hiW G)) ∧ w'.cell? ⟨g, 1, none⟩ = some (.int .u64 (loW G))) (first | (with_reducible exact ⟨st.k.tail.tail.tail.tail.tail.head.c0, st.k.tail.tail.tail.tail.tail.head.c1, st.k.tail.tail.head.c0, st.k.tail.tail.head.c1⟩) | (with_reducible exact ⟨st.alloc1.k.tail.tail.tail.tail.tail.head.c0, st.alloc1.k.tail.tail.tail.tail.tail.head.c1, st.alloc1.k.tail.tail.head.c0, st.alloc1.k.tail.tail.head.c1⟩) | (with_reducible exact ⟨st.alloc2.k.tail.tail.tail.tail.tail.head.c0, st.alloc2.k.tail.tail.tail.tail.tail.head.c1, st.alloc2.k.tail.tail.head.c0, st.alloc2.k.tail.tail.head.c1⟩) | (with_reducible exact ⟨st.drew.k.tail.tail.tail.tail.tail.head.c0, st.drew.k.tail.tail.tail.tail.tail.head.c1, st.drew.k.tail.tail.head.c0, st.drew.k.tail.tail.head.c1⟩) | (with_reducible exact ⟨st.alloc1.drew.k.tail.tail.tail.tail.tail.head.c0, st.alloc1.drew.k.tail.tail.tail.tail.tail.head.c1, st.alloc1.drew.k.tail.tail.head.c0, st.alloc1.drew.k.tail.tail.head.c1⟩) | (with_reducible exact ⟨st.alloc2.drew.k.tail.tail.tail.tail.tail.head.c0, st.alloc2.drew.k.tail.tail.tail.tail.tail.head.c1, st.alloc2.drew.k.tail.tail.head.c0, st.alloc2.drew.k.tail.tail.head.c1⟩) | go_keep)
      (first
        | (go_at_call 34; (with_reducible refine (SB.out _).mono ?_); rintro e x ⟨rfl, k⟩
           with_reducible (first | replace st := st.below k | replace st := st.alloc1.below k | replace st := st.alloc2.below k | replace st := st.drew.below k | replace st := st.alloc1.drew.below k | replace st := st.alloc2.drew.below k)
           clear k
           obtain ⟨_, ka0, kb0, _, _⟩ := st.k.tail.tail.tail.tail.tail.head
           obtain ⟨_, ka1, kb1, _, _⟩ := st.k.tail.tail.head
           obtain ⟨gp0, gq0⟩ := behindG st.lt la5
           try obtain ⟨gr0, gs0⟩ := behindG (st.ge _ (List.mem_cons_self ..)) la5
           try obtain ⟨gt0, gu0⟩ := behindG (st.ge _ (List.mem_cons_of_mem _ (List.mem_cons_self ..))) la5
           obtain ⟨gp1, gq1⟩ := behindG st.lt la2
           try obtain ⟨gr1, gs1⟩ := behindG (st.ge _ (List.mem_cons_self ..)) la2
           try obtain ⟨gt1, gu1⟩ := behindG (st.ge _ (List.mem_cons_of_mem _ (List.mem_cons_self ..))) la2
           obtain ⟨gp2, gq2⟩ := behindG st.lt la6
           try obtain ⟨gr2, gs2⟩ := behindG (st.ge _ (List.mem_cons_self ..)) la6
           try obtain ⟨gt2, gu2⟩ := behindG (st.ge _ (List.mem_cons_of_mem _ (List.mem_cons_self ..))) la6
           try obtain ⟨_, y0, y1, y2, y3⟩ := st.al _ (List.mem_cons_self ..)
           try obtain ⟨_, y4, y5, y6, y7⟩ := st.al _ (List.mem_cons_of_mem _ (List.mem_cons_self ..)))
        | (go_at_call 33; (with_reducible refine (X2.out _).mono ?_); rintro e x ⟨rfl, k⟩
           with_reducible (first | replace st := st.below k | replace st := st.alloc1.below k | replace st := st.alloc2.below k | replace st := st.drew.below k | replace st := st.alloc1.drew.below k | replace st := st.alloc2.drew.below k)
           clear k
           obtain ⟨_, ka0, kb0, _, _⟩ := st.k.tail.tail.tail.tail.tail.head
           obtain ⟨_, ka1, kb1, _, _⟩ := st.k.tail.tail.head
           obtain ⟨gp0, gq0⟩ := behindG st.lt la5
           try obtain ⟨gr0, gs0⟩ := behindG (st.ge _ (List.mem_cons_self ..)) la5
           try obtain ⟨gt0, gu0⟩ := behindG (st.ge _ (List.mem_cons_of_mem _ (List.mem_cons_self ..))) la5
           obtain ⟨gp1, gq1⟩ := behindG st.lt la2
           try obtain ⟨gr1, gs1⟩ := behindG (st.ge _ (List.mem_cons_self ..)) la2
           try obtain ⟨gt1, gu1⟩ := behindG (st.ge _ (List.mem_cons_of_mem _ (List.mem_cons_self ..))) la2
           obtain ⟨gp2, gq2⟩ := behindG st.lt la6
           try obtain ⟨gr2, gs2⟩ := behindG (st.ge _ (List.mem_cons_self ..)) la6
           try obtain ⟨gt2, gu2⟩ := behindG (st.ge _ (List.mem_cons_of_mem _ (List.mem_cons_self ..))) la6
           try obtain ⟨_, y0, y1, y2, y3⟩ := st.al _ (List.mem_cons_self ..)
           try obtain ⟨_, y4, y5, y6, y7⟩ := st.al _ (List.mem_cons_of_mem _ (List.mem_cons_self ..))))
    all_goals
      go_wp2_with fail
      go_meet
      refine ⟨_, _, rfl, rfl, ?_⟩
      with_reducible first | exact st.fin1a _ _ _ _ | exact st.fin1b _ _ _ _ | exact st.fin2a _ _ _ _ | exact st.fin2b _ _ _ _ | exact st.fin3a _ _ _ _ | exact st.fin3b _ _ _ _
  case rest =>
  obtain ⟨c, l, rfl, rfl, s0⟩ := hcut
  clear st
  have KK := (s0.k.cons s0.bg).cons s0.bh
  have ggc := s0.gg
  have ggl := s0.gh
  have nec := s0.ne
  have nc0 : c ≠ j := by omega
  have nl0 : l ≠ j := by omega
  have nc1 : c ≠ h := by omega
  have nl1 : l ≠ h := by omega
  have nc2 : c ≠ g := by omega
  have nl2 : l ≠ g := by omega
  have nc3 : c ≠ w.heap.size + 1 + 1 + 1 := by omega
  have nl3 : l ≠ w.heap.size + 1 + 1 + 1 := by omega
  have nc4 : c ≠ w.heap.size + 1 + 1 := by omega
  have nl4 : l ≠ w.heap.size + 1 + 1 := by omega
  have nc5 : c ≠ w.heap.size + 1 := by omega
  have nl5 : l ≠ w.heap.size + 1 := by omega
  have nc6 : c ≠ w.heap.size := by omega
  have nl6 : l ≠ w.heap.size := by omega
  clear s0 la0 la1 la2 la3 la4 la5 la6 ggc ggl
  clear lo
  clear SB X2
  have m1 := M1.out
  have m2 := M2.out
  go_wp2_with fail
  obtain ⟨lo, st, hlo⟩ := KK.preG (KK.tail.tail.tail.tail.tail.tail.tail.tail.head).lt 24 (.int .i64 0) (.int .u64 0)
  have la0 : l ≤ lo := hlo (l, .int .u64 (hiW q'), .int .u64 (loW q')) (by simp)
  have la1 : c ≤ lo := hlo (c, .int .u64 (hiW q), .int .u64 (loW q)) (by simp)
  have la2 : j ≤ lo := hlo (j, .int .u64 (hiW p'), .int .u64 (loW p')) (by simp)
  have la3 : h ≤ lo := hlo (h, .int .u64 (hiW p), .int .u64 (loW p)) (by simp)
  have la4 : g ≤ lo := hlo (g, .int .u64 (hiW G), .int .u64 (loW G)) (by simp)
  have la5 : w.heap.size + 1 + 1 + 1 ≤ lo := hlo (w.heap.size + 1 + 1 + 1, .int .i64 0, .int .u64 0) (by simp)
  have la6 : w.heap.size + 1 + 1 ≤ lo := hlo (w.heap.size + 1 + 1, .int .i64 0, .int .u64 0) (by simp)
  have la7 : w.heap.size + 1 ≤ lo := hlo (w.heap.size + 1, .int .i64 (hiW b), .int .u64 (loW b)) (by simp)
  have la8 : w.heap.size ≤ lo := hlo (w.heap.size, .int .i64 (hiW a), .int .u64 (loW a)) (by simp)
  clear hlo
  go_cut [12, 13] (fun v12 v13 wx => CutOne lo (PairsK w [(l, .int .u64 (hiW q'), .int .u64 (loW q')), (c, .int .u64 (hiW q), .int .u64 (loW q)), (j, .int .u64 (hiW p'), .int .u64 (loW p')), (h, .int .u64 (hiW p), .int .u64 (loW p)), (g, .int .u64 (hiW G), .int .u64 (loW G)), (w.heap.size + 1 + 1 + 1, .int .i64 0, .int .u64 0), (w.heap.size + 1 + 1, .int .i64 0, .int .u64 0), (w.heap.size + 1, .int .i64 (hiW b), .int .u64 (loW b)), (w.heap.size, .int .i64 (hiW a), .int .u64 (loW a))]) (.int .i64 (hv P)) (.int .u64 (lv P)) v12 wx ∧ v13 = .int .i64 (ev P))
  case first =>
    obtain ⟨_, ja0, jb0, _, _⟩ := KK.tail.tail.tail.head
    obtain ⟨_, ja1, jb1, _, _⟩ := KK.tail.tail.tail.tail.tail.tail.tail.tail.head
    obtain ⟨_, ja2, jb2, _, _⟩ := KK.tail.tail.tail.tail.tail.tail.tail.head
    clear KK
    have ⟨gp0, gq0⟩ := behindG st.lt la3
    have ⟨gp1, gq1⟩ := behindG st.lt la8
    have ⟨gp2, gq2⟩ := behindG st.lt la7
    go_region_held3 (fun w' => w'.cell? ⟨h, 0, none⟩ = some (.int .u64 (hiW p)) ∧ w'.cell? ⟨h, 1, none⟩ = some (.int .u64 (loW p)) ∧ w'.cell? ⟨w.heap.size, 0, none⟩ = some (.int .i64 (hiW a)) ∧ w'.cell? ⟨w.heap.size, 1, none⟩ = some (.int .u64 (loW a)) ∧ w'.cell? ⟨w.heap.size + 1, 0, none⟩ = some (.int .i64 (hiW b)) ∧ w'.cell? ⟨w.heap.size + 1, 1, none⟩ = some (.int .u64 (loW b))) (first | (with_reducible exact ⟨st.k.tail.tail.tail.head.c0, st.k.tail.tail.tail.head.c1, st.k.tail.tail.tail.tail.tail.tail.tail.tail.head.c0, st.k.tail.tail.tail.tail.tail.tail.tail.tail.head.c1, st.k.tail.tail.tail.tail.tail.tail.tail.head.c0, st.k.tail.tail.tail.tail.tail.tail.tail.head.c1⟩) | (with_reducible exact ⟨st.alloc1.k.tail.tail.tail.head.c0, st.alloc1.k.tail.tail.tail.head.c1, st.alloc1.k.tail.tail.tail.tail.tail.tail.tail.tail.head.c0, st.alloc1.k.tail.tail.tail.tail.tail.tail.tail.tail.head.c1, st.alloc1.k.tail.tail.tail.tail.tail.tail.tail.head.c0, st.alloc1.k.tail.tail.tail.tail.tail.tail.tail.head.c1⟩) | (with_reducible exact ⟨st.alloc2.k.tail.tail.tail.head.c0, st.alloc2.k.tail.tail.tail.head.c1, st.alloc2.k.tail.tail.tail.tail.tail.tail.tail.tail.head.c0, st.alloc2.k.tail.tail.tail.tail.tail.tail.tail.tail.head.c1, st.alloc2.k.tail.tail.tail.tail.tail.tail.tail.head.c0, st.alloc2.k.tail.tail.tail.tail.tail.tail.tail.head.c1⟩) | (with_reducible exact ⟨st.drew.k.tail.tail.tail.head.c0, st.drew.k.tail.tail.tail.head.c1, st.drew.k.tail.tail.tail.tail.tail.tail.tail.tail.head.c0, st.drew.k.tail.tail.tail.tail.tail.tail.tail.tail.head.c1, st.drew.k.tail.tail.tail.tail.tail.tail.tail.head.c0, st.drew.k.tail.tail.tail.tail.tail.tail.tail.head.c1⟩) | (with_reducible exact ⟨st.alloc1.drew.k.tail.tail.tail.head.c0, st.alloc1.drew.k.tail.tail.tail.head.c1, st.alloc1.drew.k.tail.tail.tail.tail.tail.tail.tail.tail.head.c0, st.alloc1.drew.k.tail.tail.tail.tail.tail.tail.tail.tail.head.c1, st.alloc1.drew.k.tail.tail.tail.tail.tail.tail.tail.head.c0, st.alloc1.drew.k.tail.tail.tail.tail.tail.tail.tail.head.c1⟩) | (with_reducible exact ⟨st.alloc2.drew.k.tail.tail.tail.head.c0, st.alloc2.drew.k.tail.tail.tail.head.c1, st.alloc2.drew.k.tail.tail.tail.tail.tail.tail.tail.tail.head.c0, st.alloc2.drew.k.tail.tail.tail.tail.tail.tail.tail.tail.head.c1, st.alloc2.drew.k.tail.tail.tail.tail.tail.tail.tail.head.c0, st.alloc2.drew.k.tail.tail.tail.tail.tail.tail.tail.head.c1⟩) | go_keep)
      (first
        | (go_at_call 36; (with_reducible refine (BA.out _).mono ?_); rintro e x ⟨rfl, k⟩
           with_reducible (first | replace st := st.below k | replace st := st.alloc1.below k | replace st := st.alloc2.below k | replace st := st.drew.below k | replace st := st.alloc1.drew.below k | replace st := st.alloc2.drew.below k)
           clear k
           obtain ⟨_, ka0, kb0, _, _⟩ := st.k.tail.tail.tail.head
           obtain ⟨_, ka1, kb1, _, _⟩ := st.k.tail.tail.tail.tail.tail.tail.tail.tail.head
           obtain ⟨_, ka2, kb2, _, _⟩ := st.k.tail.tail.tail.tail.tail.tail.tail.head
           obtain ⟨gp0, gq0⟩ := behindG st.lt la3
           try obtain ⟨gr0, gs0⟩ := behindG (st.ge _ (List.mem_cons_self ..)) la3
           try obtain ⟨gt0, gu0⟩ := behindG (st.ge _ (List.mem_cons_of_mem _ (List.mem_cons_self ..))) la3
           obtain ⟨gp1, gq1⟩ := behindG st.lt la8
           try obtain ⟨gr1, gs1⟩ := behindG (st.ge _ (List.mem_cons_self ..)) la8
           try obtain ⟨gt1, gu1⟩ := behindG (st.ge _ (List.mem_cons_of_mem _ (List.mem_cons_self ..))) la8
           obtain ⟨gp2, gq2⟩ := behindG st.lt la7
           try obtain ⟨gr2, gs2⟩ := behindG (st.ge _ (List.mem_cons_self ..)) la7
           try obtain ⟨gt2, gu2⟩ := behindG (st.ge _ (List.mem_cons_of_mem _ (List.mem_cons_self ..))) la7
           try obtain ⟨_, y0, y1, y2, y3⟩ := st.al _ (List.mem_cons_self ..)
           try obtain ⟨_, y4, y5, y6, y7⟩ := st.al _ (List.mem_cons_of_mem _ (List.mem_cons_self ..)))
        | (go_at_call 36; (with_reducible refine (BB.out _).mono ?_); rintro e x ⟨rfl, k⟩
           with_reducible (first | replace st := st.below k | replace st := st.alloc1.below k | replace st := st.alloc2.below k | replace st := st.drew.below k | replace st := st.alloc1.drew.below k | replace st := st.alloc2.drew.below k)
           clear k
           obtain ⟨_, ka0, kb0, _, _⟩ := st.k.tail.tail.tail.head
           obtain ⟨_, ka1, kb1, _, _⟩ := st.k.tail.tail.tail.tail.tail.tail.tail.tail.head
           obtain ⟨_, ka2, kb2, _, _⟩ := st.k.tail.tail.tail.tail.tail.tail.tail.head
           obtain ⟨gp0, gq0⟩ := behindG st.lt la3
           try obtain ⟨gr0, gs0⟩ := behindG (st.ge _ (List.mem_cons_self ..)) la3
           try obtain ⟨gt0, gu0⟩ := behindG (st.ge _ (List.mem_cons_of_mem _ (List.mem_cons_self ..))) la3
           obtain ⟨gp1, gq1⟩ := behindG st.lt la8
           try obtain ⟨gr1, gs1⟩ := behindG (st.ge _ (List.mem_cons_self ..)) la8
           try obtain ⟨gt1, gu1⟩ := behindG (st.ge _ (List.mem_cons_of_mem _ (List.mem_cons_self ..))) la8
           obtain ⟨gp2, gq2⟩ := behindG st.lt la7
           try obtain ⟨gr2, gs2⟩ := behindG (st.ge _ (List.mem_cons_self ..)) la7
           try obtain ⟨gt2, gu2⟩ := behindG (st.ge _ (List.mem_cons_of_mem _ (List.mem_cons_self ..))) la7
           try obtain ⟨_, y0, y1, y2, y3⟩ := st.al _ (List.mem_cons_self ..)
           try obtain ⟨_, y4, y5, y6, y7⟩ := st.al _ (List.mem_cons_of_mem _ (List.mem_cons_self ..)))
        | (go_at_call 35; (with_reducible refine (G1.out _).mono ?_); rintro e x ⟨rfl, k⟩
           with_reducible (first | replace st := st.below k | replace st := st.alloc1.below k | replace st := st.alloc2.below k | replace st := st.drew.below k | replace st := st.alloc1.drew.below k | replace st := st.alloc2.drew.below k)
           clear k
           obtain ⟨_, ka0, kb0, _, _⟩ := st.k.tail.tail.tail.head
           obtain ⟨_, ka1, kb1, _, _⟩ := st.k.tail.tail.tail.tail.tail.tail.tail.tail.head
           obtain ⟨_, ka2, kb2, _, _⟩ := st.k.tail.tail.tail.tail.tail.tail.tail.head
           obtain ⟨gp0, gq0⟩ := behindG st.lt la3
           try obtain ⟨gr0, gs0⟩ := behindG (st.ge _ (List.mem_cons_self ..)) la3
           try obtain ⟨gt0, gu0⟩ := behindG (st.ge _ (List.mem_cons_of_mem _ (List.mem_cons_self ..))) la3
           obtain ⟨gp1, gq1⟩ := behindG st.lt la8
           try obtain ⟨gr1, gs1⟩ := behindG (st.ge _ (List.mem_cons_self ..)) la8
           try obtain ⟨gt1, gu1⟩ := behindG (st.ge _ (List.mem_cons_of_mem _ (List.mem_cons_self ..))) la8
           obtain ⟨gp2, gq2⟩ := behindG st.lt la7
           try obtain ⟨gr2, gs2⟩ := behindG (st.ge _ (List.mem_cons_self ..)) la7
           try obtain ⟨gt2, gu2⟩ := behindG (st.ge _ (List.mem_cons_of_mem _ (List.mem_cons_self ..))) la7
           try obtain ⟨_, y0, y1, y2, y3⟩ := st.al _ (List.mem_cons_self ..)
           try obtain ⟨_, y4, y5, y6, y7⟩ := st.al _ (List.mem_cons_of_mem _ (List.mem_cons_self ..))))
    all_goals
      go_wp2_with fail
      go_meet
      refine ⟨⟨_, rfl, ?_⟩, rfl⟩
      with_reducible first | exact st.one1 _ _ | exact st.one2 _ _
  case rest =>
  obtain ⟨⟨d, rfl, s0⟩, rfl⟩ := hcut
  clear st
  have KK := s0.k.cons s0.bg
  have ggd := s0.gg
  have nd0 : d ≠ l := by omega
  have nd1 : d ≠ c := by omega
  have nd2 : d ≠ j := by omega
  have nd3 : d ≠ h := by omega
  have nd4 : d ≠ g := by omega
  have nd5 : d ≠ w.heap.size + 1 + 1 + 1 := by omega
  have nd6 : d ≠ w.heap.size + 1 + 1 := by omega
  have nd7 : d ≠ w.heap.size + 1 := by omega
  have nd8 : d ≠ w.heap.size := by omega
  clear s0 la0 la1 la2 la3 la4 la5 la6 la7 la8 ggd
  clear lo
  clear m1 m2 G1 BA BB
  by_cases hP : InW P
  · have T := Lib.hid (told_in hP)
    rw [T.out.2.2]
    obtain ⟨_, c0, c1, _, _⟩ := KK.tail.tail.head
    go_wp2_with fail
    refine (G2.out _).mono ?_
    rintro e w1 ⟨rfl, k⟩
    replace KK := KK.below k
    clear k c0 c1 G2
    by_cases hQ : InW q
    · have U := Lib.hid (told_in hQ)
      have VE := Lib.hid (show fv P q (hiW P) = hv P ∧ fv P q (loW P) = lv P ∧ fv P q (hiW q) = hv q ∧ fv P q (loW q) = lv q ∧ fe P q = 0 by unfold fv fe hv lv; simp [hP, hQ])
      rw [U.out.2.2]
      clear hP hQ
      go_wp2_with fail
      have hl6 : w.heap.size + 1 + 1 + 1 < w1.heap.size := (KK.tail.tail.tail.tail.tail.tail.head).lt
      have hl7 : w.heap.size + 1 + 1 < w1.heap.size := (KK.tail.tail.tail.tail.tail.tail.tail.head).lt
      replace KK := KK.more (.int .i64 (hv q)) (.int .u64 (lv q)) 24
      generalize hw1 : w1.alloc (.cells #[.int .i64 (hv q), .int .u64 (lv q)] 24) = w2 at *
      clear hw1
      have o1 : w1.heap.size ≠ w.heap.size + 1 + 1 + 1 := by omega
      have o2 : w1.heap.size ≠ w.heap.size + 1 + 1 := by omega
      generalize w1.heap.size = f at *
      clear hl6 hl7
      have o3 := Ne.symm o1
      have o4 := Ne.symm o2
      have o5 := Ne.symm nd6
      have o6 := Ne.symm nd5
      obtain ⟨_, xa, xb, xc, xd⟩ := KK.head
      obtain ⟨_, ya, yb, yc, yd⟩ := KK.tail.head
      obtain ⟨_, sa, sb, sc, sd⟩ := KK.tail.tail.tail.tail.tail.tail.tail.head
      obtain ⟨_, za, zb, zc, zd⟩ := KK.tail.tail.tail.tail.tail.tail.tail.tail.head
      have i5 : w.heap.size + 1 + 1 ≠ w.heap.size + 1 + 1 + 1 := by omega
      have P2 := ((KK.tail.tail.tail.tail.tail.tail.tail.tail.head.self2 (.int .i64 (hv P)) (.int .u64 (lv P))).far2 (Ne.symm i5) (.int .i64 (hv q)) (.int .u64 (lv q)))
      have P3 := ((KK.tail.tail.tail.tail.tail.tail.tail.head.far2 i5 (.int .i64 (hv P)) (.int .u64 (lv P))).self2 (.int .i64 (hv q)) (.int .u64 (lv q)))
      have HB := ((((KK.hb.setCell (p := ⟨w.heap.size + 1 + 1, 0, none⟩) (by show _ ≤ w.heap.size + 1 + 1; omega) (.int .i64 (hv P))).setCell (p := ⟨w.heap.size + 1 + 1, 1, none⟩) (by show _ ≤ w.heap.size + 1 + 1; omega) (.int .u64 (lv P))).setCell (p := ⟨w.heap.size + 1 + 1 + 1, 0, none⟩) (by show _ ≤ w.heap.size + 1 + 1 + 1; omega) (.int .i64 (hv q))).setCell (p := ⟨w.heap.size + 1 + 1 + 1, 1, none⟩) (by show _ ≤ w.heap.size + 1 + 1 + 1; omega) (.int .u64 (lv q)))
      replace P2 := P2.drew
      replace P3 := P3.drew
      replace HB := HB.drew
      go_region
      all_goals
        go_wp2
        exact bodyPost_ret (v := .tuple #[.agg #[.int .i64 (hv P), .int .u64 (lv P)], .agg #[.int .i64 (hv q), .int .u64 (lv q)], .int .i64 0]) (by simp [results, Try.results21, go_sem, P2.c0, P2.c1, P3.c0, P3.c1]) rfl (⟨by rw [VE.out.1, VE.out.2.1, VE.out.2.2.1, VE.out.2.2.2.1, VE.out.2.2.2.2], HB⟩)
    · have U := Lib.hid (told_no hQ)
      have VE := Lib.hid (show fv P q (hiW P) = 0 ∧ fv P q (loW P) = 0 ∧ fv P q (hiW q) = 0 ∧ fv P q (loW q) = 0 ∧ fe P q = 2 by unfold fv fe; simp [hQ])
      rw [U.out.2.2]
      clear hP hQ
      obtain ⟨_, sa, sb, sc, sd⟩ := KK.tail.tail.tail.tail.tail.tail.head
      obtain ⟨_, za, zb, zc, zd⟩ := KK.tail.tail.tail.tail.tail.tail.tail.head
      have i5 : w.heap.size + 1 + 1 ≠ w.heap.size + 1 + 1 + 1 := by omega
      have P2 := ((KK.tail.tail.tail.tail.tail.tail.tail.head.self2 (.int .i64 0) (.int .u64 0)).far2 (Ne.symm i5) (.int .i64 0) (.int .u64 0))
      have P3 := ((KK.tail.tail.tail.tail.tail.tail.head.far2 i5 (.int .i64 0) (.int .u64 0)).self2 (.int .i64 0) (.int .u64 0))
      have HB := ((((KK.hb.setCell (p := ⟨w.heap.size + 1 + 1, 0, none⟩) (by show _ ≤ w.heap.size + 1 + 1; omega) (.int .i64 0)).setCell (p := ⟨w.heap.size + 1 + 1, 1, none⟩) (by show _ ≤ w.heap.size + 1 + 1; omega) (.int .u64 0)).setCell (p := ⟨w.heap.size + 1 + 1 + 1, 0, none⟩) (by show _ ≤ w.heap.size + 1 + 1 + 1; omega) (.int .i64 0)).setCell (p := ⟨w.heap.size + 1 + 1 + 1, 1, none⟩) (by show _ ≤ w.heap.size + 1 + 1 + 1; omega) (.int .u64 0))
      go_wp2
      replace P2 := P2.below (below_box _ (.cells #[.int .i64 (hv q), .int .u64 (lv q)] 24))
      replace P3 := P3.below (below_box _ (.cells #[.int .i64 (hv q), .int .u64 (lv q)] 24))
      replace HB := below_thru HB (below_box _ (.cells #[.int .i64 (hv q), .int .u64 (lv q)] 24))
      exact bodyPost_ret (v := .tuple #[.agg #[.int .i64 0, .int .u64 0], .agg #[.int .i64 0, .int .u64 0], .int .i64 2]) (by simp [results, Try.results21, go_sem, P2.c0, P2.c1, P3.c0, P3.c1]) rfl (⟨by rw [VE.out.1, VE.out.2.1, VE.out.2.2.1, VE.out.2.2.2.1, VE.out.2.2.2.2], HB⟩)
  · have T := Lib.hid (told_no hP)
    have VE := Lib.hid (show fv P q (hiW P) = 0 ∧ fv P q (loW P) = 0 ∧ fv P q (hiW q) = 0 ∧ fv P q (loW q) = 0 ∧ fe P q = 2 by unfold fv fe; simp [hP])
    rw [T.out.2.2]
    clear hP
    obtain ⟨_, sa, sb, sc, sd⟩ := KK.tail.tail.tail.tail.tail.tail.head
    obtain ⟨_, za, zb, zc, zd⟩ := KK.tail.tail.tail.tail.tail.tail.tail.head
    have i5 : w.heap.size + 1 + 1 ≠ w.heap.size + 1 + 1 + 1 := by omega
    have P2 := ((KK.tail.tail.tail.tail.tail.tail.tail.head.self2 (.int .i64 0) (.int .u64 0)).far2 (Ne.symm i5) (.int .i64 0) (.int .u64 0))
    have P3 := ((KK.tail.tail.tail.tail.tail.tail.head.far2 i5 (.int .i64 0) (.int .u64 0)).self2 (.int .i64 0) (.int .u64 0))
    have HB := ((((KK.hb.setCell (p := ⟨w.heap.size + 1 + 1, 0, none⟩) (by show _ ≤ w.heap.size + 1 + 1; omega) (.int .i64 0)).setCell (p := ⟨w.heap.size + 1 + 1, 1, none⟩) (by show _ ≤ w.heap.size + 1 + 1; omega) (.int .u64 0)).setCell (p := ⟨w.heap.size + 1 + 1 + 1, 0, none⟩) (by show _ ≤ w.heap.size + 1 + 1 + 1; omega) (.int .i64 0)).setCell (p := ⟨w.heap.size + 1 + 1 + 1, 1, none⟩) (by show _ ≤ w.heap.size + 1 + 1 + 1; omega) (.int .u64 0))
    go_wp2
    exact bodyPost_ret (v := .tuple #[.agg #[.int .i64 0, .int .u64 0], .agg #[.int .i64 0, .int .u64 0], .int .i64 2]) (by simp [results, Try.results21, go_sem, P2.c0, P2.c1, P3.c0, P3.c1]) rfl (⟨by rw [VE.out.1, VE.out.2.1, VE.out.2.2.1, VE.out.2.2.2.1, VE.out.2.2.2.2], HB⟩)
end Go.Proofs.Ytgkajbelekjahaa
