/- Package divide's Trunc, at any wide numbers. -/
import Derived.Test.YtnopgdheffnfdaaVsplit
import Derived.Test.YtnopgdheffnfdaaVtwo
import Derived.Test.YtnopgdheffnfdaaDtrunc
import Derived.Deep.RegionHeld3
namespace Go.Proofs.Ytnopgdheffnfdaa
open Go.RowKit

theorem tdiv_sg (a b : Int) : a.tdiv b = sg (decide (a < 0) != decide (b < 0)) ((a.natAbs : Int) / (b.natAbs : Int)) := by
  obtain ⟨e1, e2, _⟩ := cut_eq a b
  rw [Int.fdiv_eq_ediv_of_nonneg _ (by omega)] at e1 e2
  by_cases h : decide (a < 0) = decide (b < 0)
  · rw [← e1 h, h]; simp [sg]
  · rw [← e2 h]
    have : (decide (a < 0) != decide (b < 0)) = true := by simpa using h
    rw [this]; simp [sg]
theorem tmod_sg (a b : Int) : a.tmod b = sg (decide (a < 0)) ((a.natAbs : Int) % (b.natAbs : Int)) := by
  have h := Int.natAbs_tmod a b
  rw [← Int.natCast_emod, ← h]
  by_cases ha : a < 0
  · rw [decide_eq_true ha]
    have : a.tmod b ≤ 0 := by
      have := Int.tmod_nonneg (a := -a) b (by omega)
      rw [Int.neg_tmod] at this
      omega
    simp only [sg, if_true]; omega
  · rw [decide_eq_false ha]
    have : 0 ≤ a.tmod b := Int.tmod_nonneg b (by omega)
    simp only [sg, Bool.false_eq_true, if_false]; omega
theorem wide_zero {b : Int} (h : hiW b = 0) (k : loW b = 0) : b = 0 := by unfold hiW at h; unfold loW at k; omega

set_option maxRecDepth 100000 in
set_option maxHeartbeats 8000000 in
theorem truncW_zero (a : Int) (w : World) :
    Calls Try.prog 45 #[.agg #[.int .i64 (hiW a), .int .u64 (loW a)], .agg #[.int .i64 0, .int .u64 0]] w (RetRef w 3) := by
  have KK := (((((PairsK.nil w).more (.int .i64 (hiW a)) (.int .u64 (loW a)) 24).more (.int .i64 0) (.int .u64 0) 24).more (.int .i64 0) (.int .u64 0) 24).more (.int .i64 0) (.int .u64 0) 24)
  simp only [World.size_alloc] at KK
  go_enter Try.func45, Try.ntmps45
  go_wp2
  exact bodyPost_ret (v := .tuple #[.agg #[.int .i64 0, .int .u64 0], .agg #[.int .i64 0, .int .u64 0], .int .i64 3]) (by simp [results, Try.results45, go_sem]) rfl ⟨rfl, KK.hb⟩

set_option maxRecDepth 100000 in
set_option maxHeartbeats 8000000 in
theorem truncW_any (a b : Int) (ha : InW a) (hb : InW b) (hb0 : b ≠ 0) (w : World) :
    Calls Try.prog 45 #[.agg #[.int .i64 (hiW a), .int .u64 (loW a)], .agg #[.int .i64 (hiW b), .int .u64 (loW b)]] w (RetWWE w (a.tdiv b) (a.tmod b)) := by
  have aa := abs_w ha
  have ab := abs_w hb
  have SA := Lib.hid (fun W => sizeOf_any a ha W)
  have SB := Lib.hid (fun W => sizeOf_any b hb W)
  have SP := Lib.hid (fun W => split_any (a.natAbs : Int) (b.natAbs : Int) (by omega) (by omega) (by omega) (by omega) W)
  obtain ⟨q, hq⟩ : ∃ q : Int, q = (a.natAbs : Int) / (b.natAbs : Int) := ⟨_, rfl⟩
  obtain ⟨r, hr⟩ : ∃ r : Int, r = (a.natAbs : Int) % (b.natAbs : Int) := ⟨_, rfl⟩
  have q0 : 0 ≤ q := by rw [hq]; exact Int.ediv_nonneg (by omega) (by omega)
  have q1 : q ≤ 170141183460469231731687303715884105728 := by rw [hq]; exact Int.le_trans (Int.ediv_le_self _ (by omega)) (by omega)
  have r0 : 0 ≤ r := by rw [hr]; exact Int.emod_nonneg _ (by omega)
  have r1 : r < 170141183460469231731687303715884105728 := by rw [hr]; exact Int.lt_of_lt_of_le (Int.emod_lt_of_pos _ (by omega)) (by omega)
  have tq := tdiv_sg a b
  have tr := tmod_sg a b
  rw [← hq] at tq
  rw [← hr] at tr
  rw [← hq, ← hr] at SP
  clear hq hr
  have BA := Lib.hid (fun W => below_w a W)
  have BB := Lib.hid (fun W => below_w b W)
  have hw : hiW b = 0 → loW b = 0 → False := fun h k => hb0 (wide_zero h k)
  generalize hpa : decide (a < 0) = pa at *
  generalize hpb : decide (b < 0) = pb at *
  generalize hm : (pa != pb) = m at *
  have m1 : (!pa == pb) = m := by rw [← hm]; cases pa <;> cases pb <;> rfl
  have m2 : (pa == pb) = !m := by rw [← hm]; cases pa <;> cases pb <;> rfl
  have G1 := Lib.hid (fun W => signed_any q m q0 q1 W)
  have G2 := Lib.hid (fun W => signed_any r pa r0 (by omega) W)
  have iR : InW (a.tmod b) := by rw [tr]; unfold sg InW two127; split <;> omega
  rw [← tq] at G1
  rw [← tr] at G2
  generalize a.tdiv b = Q at *
  generalize a.tmod b = R at *
  have M1 := Lib.hid m1
  have M2 := Lib.hid m2
  clear ha hb hb0 aa ab q0 q1 r0 r1 tq tr hpa hpb hm m1 m2
  generalize (a.natAbs : Int) = na at *
  generalize (b.natAbs : Int) = nb at *
  by_cases hx : hiW b = 0
  · have hy : ¬ loW b = 0 := fun k => hw hx k
    have hy' : (loW b == 0) = false := by rw [beq_eq_false_iff_ne]; exact hy
    rw [hx] at SB BB ⊢
    clear hx hw
    go_enter Try.func45, Try.ntmps45
    go_wp2_with fail
    have KK := (((((PairsK.nil w).more (.int .i64 (hiW a)) (.int .u64 (loW a)) 24).more (.int .i64 0) (.int .u64 (loW b)) 24).more (.int .i64 0) (.int .u64 0) 24).more (.int .i64 0) (.int .u64 0) 24)
    simp only [World.size_alloc] at KK
    generalize ((((w.alloc (.cells #[.int .i64 (hiW a), .int .u64 (loW a)] 24)).alloc (.cells #[.int .i64 0, .int .u64 (loW b)] 24)).alloc (.cells #[.int .i64 0, .int .u64 0] 24)).alloc (.cells #[.int .i64 0, .int .u64 0] 24)) = w0 at *
    obtain ⟨lo, st, hlo⟩ := KK.preG (KK.tail.tail.tail.head).lt 74 (.int .u64 0) (.int .u64 0)
    have la0 : w.heap.size + 1 + 1 + 1 ≤ lo := hlo (w.heap.size + 1 + 1 + 1, .int .i64 0, .int .u64 0) (by simp)
    have la1 : w.heap.size + 1 + 1 ≤ lo := hlo (w.heap.size + 1 + 1, .int .i64 0, .int .u64 0) (by simp)
    have la2 : w.heap.size + 1 ≤ lo := hlo (w.heap.size + 1, .int .i64 0, .int .u64 (loW b)) (by simp)
    have la3 : w.heap.size ≤ lo := hlo (w.heap.size, .int .i64 (hiW a), .int .u64 (loW a)) (by simp)
    clear hlo
    go_cut [7, 8] (fun v7 v8 wx => CutTwo lo (PairsK w [(w.heap.size + 1 + 1 + 1, .int .i64 0, .int .u64 0), (w.heap.size + 1 + 1, .int .i64 0, .int .u64 0), (w.heap.size + 1, .int .i64 0, .int .u64 (loW b)), (w.heap.size, .int .i64 (hiW a), .int .u64 (loW a))]) (.int .u64 (hiW q)) (.int .u64 (loW q)) (.int .u64 (hiW r)) (.int .u64 (loW r)) v7 v8 wx)
    case first =>
      obtain ⟨_, ja0, jb0, _, _⟩ := KK.tail.tail.tail.head
      obtain ⟨_, ja1, jb1, _, _⟩ := KK.tail.tail.head
      clear KK
      have ⟨gp0, gq0⟩ := behindG st.lt la3
      have ⟨gp1, gq1⟩ := behindG st.lt la2
      go_region_held3 (fun w' => w'.cell? ⟨w.heap.size, 0, none⟩ = some (.int .i64 (hiW a)) ∧ w'.cell? ⟨w.heap.size, 1, none⟩ = some (.int .u64 (loW a)) ∧ w'.cell? ⟨w.heap.size + 1, 0, none⟩ = some (.int .i64 0) ∧ w'.cell? ⟨w.heap.size + 1, 1, none⟩ = some (.int .u64 (loW b))) (first | (with_reducible exact ⟨st.k.tail.tail.tail.head.c0, st.k.tail.tail.tail.head.c1, st.k.tail.tail.head.c0, st.k.tail.tail.head.c1⟩) | (with_reducible exact ⟨st.alloc1.k.tail.tail.tail.head.c0, st.alloc1.k.tail.tail.tail.head.c1, st.alloc1.k.tail.tail.head.c0, st.alloc1.k.tail.tail.head.c1⟩) | (with_reducible exact ⟨st.alloc2.k.tail.tail.tail.head.c0, st.alloc2.k.tail.tail.tail.head.c1, st.alloc2.k.tail.tail.head.c0, st.alloc2.k.tail.tail.head.c1⟩) | (with_reducible exact ⟨st.drew.k.tail.tail.tail.head.c0, st.drew.k.tail.tail.tail.head.c1, st.drew.k.tail.tail.head.c0, st.drew.k.tail.tail.head.c1⟩) | (with_reducible exact ⟨st.alloc1.drew.k.tail.tail.tail.head.c0, st.alloc1.drew.k.tail.tail.tail.head.c1, st.alloc1.drew.k.tail.tail.head.c0, st.alloc1.drew.k.tail.tail.head.c1⟩) | (with_reducible exact ⟨st.alloc2.drew.k.tail.tail.tail.head.c0, st.alloc2.drew.k.tail.tail.tail.head.c1, st.alloc2.drew.k.tail.tail.head.c0, st.alloc2.drew.k.tail.tail.head.c1⟩) | go_keep)
        (first
          | (go_at_call 62; (with_reducible refine (SA.out _).mono ?_); rintro e x ⟨rfl, k⟩
             with_reducible (first | replace st := st.below k | replace st := st.alloc1.below k | replace st := st.alloc2.below k | replace st := st.drew.below k | replace st := st.alloc1.drew.below k | replace st := st.alloc2.drew.below k)
             clear k
             obtain ⟨_, ka0, kb0, _, _⟩ := st.k.tail.tail.tail.head
             obtain ⟨_, ka1, kb1, _, _⟩ := st.k.tail.tail.head
             obtain ⟨gp0, gq0⟩ := behindG st.lt la3
             try obtain ⟨gr0, gs0⟩ := behindG (st.ge _ (List.mem_cons_self ..)) la3
             try obtain ⟨gt0, gu0⟩ := behindG (st.ge _ (List.mem_cons_of_mem _ (List.mem_cons_self ..))) la3
             obtain ⟨gp1, gq1⟩ := behindG st.lt la2
             try obtain ⟨gr1, gs1⟩ := behindG (st.ge _ (List.mem_cons_self ..)) la2
             try obtain ⟨gt1, gu1⟩ := behindG (st.ge _ (List.mem_cons_of_mem _ (List.mem_cons_self ..))) la2
             try obtain ⟨_, y0, y1, y2, y3⟩ := st.al _ (List.mem_cons_self ..)
             try obtain ⟨_, y4, y5, y6, y7⟩ := st.al _ (List.mem_cons_of_mem _ (List.mem_cons_self ..)))
          | (go_at_call 62; (with_reducible refine (SB.out _).mono ?_); rintro e x ⟨rfl, k⟩
             with_reducible (first | replace st := st.below k | replace st := st.alloc1.below k | replace st := st.alloc2.below k | replace st := st.drew.below k | replace st := st.alloc1.drew.below k | replace st := st.alloc2.drew.below k)
             clear k
             obtain ⟨_, ka0, kb0, _, _⟩ := st.k.tail.tail.tail.head
             obtain ⟨_, ka1, kb1, _, _⟩ := st.k.tail.tail.head
             obtain ⟨gp0, gq0⟩ := behindG st.lt la3
             try obtain ⟨gr0, gs0⟩ := behindG (st.ge _ (List.mem_cons_self ..)) la3
             try obtain ⟨gt0, gu0⟩ := behindG (st.ge _ (List.mem_cons_of_mem _ (List.mem_cons_self ..))) la3
             obtain ⟨gp1, gq1⟩ := behindG st.lt la2
             try obtain ⟨gr1, gs1⟩ := behindG (st.ge _ (List.mem_cons_self ..)) la2
             try obtain ⟨gt1, gu1⟩ := behindG (st.ge _ (List.mem_cons_of_mem _ (List.mem_cons_self ..))) la2
             try obtain ⟨_, y0, y1, y2, y3⟩ := st.al _ (List.mem_cons_self ..)
             try obtain ⟨_, y4, y5, y6, y7⟩ := st.al _ (List.mem_cons_of_mem _ (List.mem_cons_self ..)))
          | (go_at_call 61; (with_reducible refine (SP.out _).mono ?_); rintro e x ⟨rfl, k⟩
             with_reducible (first | replace st := st.below k | replace st := st.alloc1.below k | replace st := st.alloc2.below k | replace st := st.drew.below k | replace st := st.alloc1.drew.below k | replace st := st.alloc2.drew.below k)
             clear k
             obtain ⟨_, ka0, kb0, _, _⟩ := st.k.tail.tail.tail.head
             obtain ⟨_, ka1, kb1, _, _⟩ := st.k.tail.tail.head
             obtain ⟨gp0, gq0⟩ := behindG st.lt la3
             try obtain ⟨gr0, gs0⟩ := behindG (st.ge _ (List.mem_cons_self ..)) la3
             try obtain ⟨gt0, gu0⟩ := behindG (st.ge _ (List.mem_cons_of_mem _ (List.mem_cons_self ..))) la3
             obtain ⟨gp1, gq1⟩ := behindG st.lt la2
             try obtain ⟨gr1, gs1⟩ := behindG (st.ge _ (List.mem_cons_self ..)) la2
             try obtain ⟨gt1, gu1⟩ := behindG (st.ge _ (List.mem_cons_of_mem _ (List.mem_cons_self ..))) la2
             try obtain ⟨_, y0, y1, y2, y3⟩ := st.al _ (List.mem_cons_self ..)
             try obtain ⟨_, y4, y5, y6, y7⟩ := st.al _ (List.mem_cons_of_mem _ (List.mem_cons_self ..))))
      all_goals
        go_wp2_with fail
        go_meet
        refine ⟨_, _, rfl, rfl, ?_⟩
        with_reducible first | exact st.fin1a _ _ _ _ | exact st.fin1b _ _ _ _ | exact st.fin2a _ _ _ _ | exact st.fin2b _ _ _ _ | exact st.fin3a _ _ _ _ | exact st.fin3b _ _ _ _
    case rest =>
    obtain ⟨g, h, rfl, rfl, s0⟩ := hcut
    clear st
    have KK := (s0.k.cons s0.bg).cons s0.bh
    have ggg := s0.gg
    have ggh := s0.gh
    have neg := s0.ne
    have ng0 : g ≠ w.heap.size + 1 + 1 + 1 := by omega
    have nh0 : h ≠ w.heap.size + 1 + 1 + 1 := by omega
    have ng1 : g ≠ w.heap.size + 1 + 1 := by omega
    have nh1 : h ≠ w.heap.size + 1 + 1 := by omega
    have ng2 : g ≠ w.heap.size + 1 := by omega
    have nh2 : h ≠ w.heap.size + 1 := by omega
    have ng3 : g ≠ w.heap.size := by omega
    have nh3 : h ≠ w.heap.size := by omega
    clear s0 la0 la1 la2 la3 ggg ggh
    clear lo
    clear SA SB SP
    have m1 := M1.out
    have m2 := M2.out
    go_wp2_with fail
    obtain ⟨lo, st, hlo⟩ := KK.preG (KK.tail.tail.tail.tail.tail.head).lt 24 (.int .i64 0) (.int .u64 0)
    have la0 : h ≤ lo := hlo (h, .int .u64 (hiW r), .int .u64 (loW r)) (by simp)
    have la1 : g ≤ lo := hlo (g, .int .u64 (hiW q), .int .u64 (loW q)) (by simp)
    have la2 : w.heap.size + 1 + 1 + 1 ≤ lo := hlo (w.heap.size + 1 + 1 + 1, .int .i64 0, .int .u64 0) (by simp)
    have la3 : w.heap.size + 1 + 1 ≤ lo := hlo (w.heap.size + 1 + 1, .int .i64 0, .int .u64 0) (by simp)
    have la4 : w.heap.size + 1 ≤ lo := hlo (w.heap.size + 1, .int .i64 0, .int .u64 (loW b)) (by simp)
    have la5 : w.heap.size ≤ lo := hlo (w.heap.size, .int .i64 (hiW a), .int .u64 (loW a)) (by simp)
    clear hlo
    go_cut [9, 10] (fun v9 v10 wx => CutOne lo (PairsK w [(h, .int .u64 (hiW r), .int .u64 (loW r)), (g, .int .u64 (hiW q), .int .u64 (loW q)), (w.heap.size + 1 + 1 + 1, .int .i64 0, .int .u64 0), (w.heap.size + 1 + 1, .int .i64 0, .int .u64 0), (w.heap.size + 1, .int .i64 0, .int .u64 (loW b)), (w.heap.size, .int .i64 (hiW a), .int .u64 (loW a))]) (.int .i64 (hv Q)) (.int .u64 (lv Q)) v9 wx ∧ v10 = .int .i64 (ev Q))
    case first =>
      obtain ⟨_, ja0, jb0, _, _⟩ := KK.tail.head
      obtain ⟨_, ja1, jb1, _, _⟩ := KK.tail.tail.tail.tail.tail.head
      obtain ⟨_, ja2, jb2, _, _⟩ := KK.tail.tail.tail.tail.head
      clear KK
      have ⟨gp0, gq0⟩ := behindG st.lt la1
      have ⟨gp1, gq1⟩ := behindG st.lt la5
      have ⟨gp2, gq2⟩ := behindG st.lt la4
      go_region_held3 (fun w' => w'.cell? ⟨g, 0, none⟩ = some (.int .u64 (hiW q)) ∧ w'.cell? ⟨g, 1, none⟩ = some (.int .u64 (loW q)) ∧ w'.cell? ⟨w.heap.size, 0, none⟩ = some (.int .i64 (hiW a)) ∧ w'.cell? ⟨w.heap.size, 1, none⟩ = some (.int .u64 (loW a)) ∧ w'.cell? ⟨w.heap.size + 1, 0, none⟩ = some (.int .i64 0) ∧ w'.cell? ⟨w.heap.size + 1, 1, none⟩ = some (.int .u64 (loW b))) (first | (with_reducible exact ⟨st.k.tail.head.c0, st.k.tail.head.c1, st.k.tail.tail.tail.tail.tail.head.c0, st.k.tail.tail.tail.tail.tail.head.c1, st.k.tail.tail.tail.tail.head.c0, st.k.tail.tail.tail.tail.head.c1⟩) | (with_reducible exact ⟨st.alloc1.k.tail.head.c0, st.alloc1.k.tail.head.c1, st.alloc1.k.tail.tail.tail.tail.tail.head.c0, st.alloc1.k.tail.tail.tail.tail.tail.head.c1, st.alloc1.k.tail.tail.tail.tail.head.c0, st.alloc1.k.tail.tail.tail.tail.head.c1⟩) | (with_reducible exact ⟨st.alloc2.k.tail.head.c0, st.alloc2.k.tail.head.c1, st.alloc2.k.tail.tail.tail.tail.tail.head.c0, st.alloc2.k.tail.tail.tail.tail.tail.head.c1, st.alloc2.k.tail.tail.tail.tail.head.c0, st.alloc2.k.tail.tail.tail.tail.head.c1⟩) | (with_reducible exact ⟨st.drew.k.tail.head.c0, st.drew.k.tail.head.c1, st.drew.k.tail.tail.tail.tail.tail.head.c0, st.drew.k.tail.tail.tail.tail.tail.head.c1, st.drew.k.tail.tail.tail.tail.head.c0, st.drew.k.tail.tail.tail.tail.head.c1⟩) | (with_reducible exact ⟨st.alloc1.drew.k.tail.head.c0, st.alloc1.drew.k.tail.head.c1, st.alloc1.drew.k.tail.tail.tail.tail.tail.head.c0, st.alloc1.drew.k.tail.tail.tail.tail.tail.head.c1, st.alloc1.drew.k.tail.tail.tail.tail.head.c0, st.alloc1.drew.k.tail.tail.tail.tail.head.c1⟩) | (with_reducible exact ⟨st.alloc2.drew.k.tail.head.c0, st.alloc2.drew.k.tail.head.c1, st.alloc2.drew.k.tail.tail.tail.tail.tail.head.c0, st.alloc2.drew.k.tail.tail.tail.tail.tail.head.c1, st.alloc2.drew.k.tail.tail.tail.tail.head.c0, st.alloc2.drew.k.tail.tail.tail.tail.head.c1⟩) | go_keep)
        (first
          | (go_at_call 64; (with_reducible refine (BA.out _).mono ?_); rintro e x ⟨rfl, k⟩
             with_reducible (first | replace st := st.below k | replace st := st.alloc1.below k | replace st := st.alloc2.below k | replace st := st.drew.below k | replace st := st.alloc1.drew.below k | replace st := st.alloc2.drew.below k)
             clear k
             obtain ⟨_, ka0, kb0, _, _⟩ := st.k.tail.head
             obtain ⟨_, ka1, kb1, _, _⟩ := st.k.tail.tail.tail.tail.tail.head
             obtain ⟨_, ka2, kb2, _, _⟩ := st.k.tail.tail.tail.tail.head
             obtain ⟨gp0, gq0⟩ := behindG st.lt la1
             try obtain ⟨gr0, gs0⟩ := behindG (st.ge _ (List.mem_cons_self ..)) la1
             try obtain ⟨gt0, gu0⟩ := behindG (st.ge _ (List.mem_cons_of_mem _ (List.mem_cons_self ..))) la1
             obtain ⟨gp1, gq1⟩ := behindG st.lt la5
             try obtain ⟨gr1, gs1⟩ := behindG (st.ge _ (List.mem_cons_self ..)) la5
             try obtain ⟨gt1, gu1⟩ := behindG (st.ge _ (List.mem_cons_of_mem _ (List.mem_cons_self ..))) la5
             obtain ⟨gp2, gq2⟩ := behindG st.lt la4
             try obtain ⟨gr2, gs2⟩ := behindG (st.ge _ (List.mem_cons_self ..)) la4
             try obtain ⟨gt2, gu2⟩ := behindG (st.ge _ (List.mem_cons_of_mem _ (List.mem_cons_self ..))) la4
             try obtain ⟨_, y0, y1, y2, y3⟩ := st.al _ (List.mem_cons_self ..)
             try obtain ⟨_, y4, y5, y6, y7⟩ := st.al _ (List.mem_cons_of_mem _ (List.mem_cons_self ..)))
          | (go_at_call 64; (with_reducible refine (BB.out _).mono ?_); rintro e x ⟨rfl, k⟩
             with_reducible (first | replace st := st.below k | replace st := st.alloc1.below k | replace st := st.alloc2.below k | replace st := st.drew.below k | replace st := st.alloc1.drew.below k | replace st := st.alloc2.drew.below k)
             clear k
             obtain ⟨_, ka0, kb0, _, _⟩ := st.k.tail.head
             obtain ⟨_, ka1, kb1, _, _⟩ := st.k.tail.tail.tail.tail.tail.head
             obtain ⟨_, ka2, kb2, _, _⟩ := st.k.tail.tail.tail.tail.head
             obtain ⟨gp0, gq0⟩ := behindG st.lt la1
             try obtain ⟨gr0, gs0⟩ := behindG (st.ge _ (List.mem_cons_self ..)) la1
             try obtain ⟨gt0, gu0⟩ := behindG (st.ge _ (List.mem_cons_of_mem _ (List.mem_cons_self ..))) la1
             obtain ⟨gp1, gq1⟩ := behindG st.lt la5
             try obtain ⟨gr1, gs1⟩ := behindG (st.ge _ (List.mem_cons_self ..)) la5
             try obtain ⟨gt1, gu1⟩ := behindG (st.ge _ (List.mem_cons_of_mem _ (List.mem_cons_self ..))) la5
             obtain ⟨gp2, gq2⟩ := behindG st.lt la4
             try obtain ⟨gr2, gs2⟩ := behindG (st.ge _ (List.mem_cons_self ..)) la4
             try obtain ⟨gt2, gu2⟩ := behindG (st.ge _ (List.mem_cons_of_mem _ (List.mem_cons_self ..))) la4
             try obtain ⟨_, y0, y1, y2, y3⟩ := st.al _ (List.mem_cons_self ..)
             try obtain ⟨_, y4, y5, y6, y7⟩ := st.al _ (List.mem_cons_of_mem _ (List.mem_cons_self ..)))
          | (go_at_call 63; (with_reducible refine (G1.out _).mono ?_); rintro e x ⟨rfl, k⟩
             with_reducible (first | replace st := st.below k | replace st := st.alloc1.below k | replace st := st.alloc2.below k | replace st := st.drew.below k | replace st := st.alloc1.drew.below k | replace st := st.alloc2.drew.below k)
             clear k
             obtain ⟨_, ka0, kb0, _, _⟩ := st.k.tail.head
             obtain ⟨_, ka1, kb1, _, _⟩ := st.k.tail.tail.tail.tail.tail.head
             obtain ⟨_, ka2, kb2, _, _⟩ := st.k.tail.tail.tail.tail.head
             obtain ⟨gp0, gq0⟩ := behindG st.lt la1
             try obtain ⟨gr0, gs0⟩ := behindG (st.ge _ (List.mem_cons_self ..)) la1
             try obtain ⟨gt0, gu0⟩ := behindG (st.ge _ (List.mem_cons_of_mem _ (List.mem_cons_self ..))) la1
             obtain ⟨gp1, gq1⟩ := behindG st.lt la5
             try obtain ⟨gr1, gs1⟩ := behindG (st.ge _ (List.mem_cons_self ..)) la5
             try obtain ⟨gt1, gu1⟩ := behindG (st.ge _ (List.mem_cons_of_mem _ (List.mem_cons_self ..))) la5
             obtain ⟨gp2, gq2⟩ := behindG st.lt la4
             try obtain ⟨gr2, gs2⟩ := behindG (st.ge _ (List.mem_cons_self ..)) la4
             try obtain ⟨gt2, gu2⟩ := behindG (st.ge _ (List.mem_cons_of_mem _ (List.mem_cons_self ..))) la4
             try obtain ⟨_, y0, y1, y2, y3⟩ := st.al _ (List.mem_cons_self ..)
             try obtain ⟨_, y4, y5, y6, y7⟩ := st.al _ (List.mem_cons_of_mem _ (List.mem_cons_self ..))))
      all_goals
        go_wp2_with fail
        go_meet
        refine ⟨⟨_, rfl, ?_⟩, rfl⟩
        with_reducible first | exact st.one1 _ _ | exact st.one2 _ _
    case rest =>
    obtain ⟨⟨d, rfl, s0⟩, rfl⟩ := hcut
    clear st
    have KK := s0.k.cons s0.bg
    have ggd := s0.gg
    have nd0 : d ≠ h := by omega
    have nd1 : d ≠ g := by omega
    have nd2 : d ≠ w.heap.size + 1 + 1 + 1 := by omega
    have nd3 : d ≠ w.heap.size + 1 + 1 := by omega
    have nd4 : d ≠ w.heap.size + 1 := by omega
    have nd5 : d ≠ w.heap.size := by omega
    clear s0 la0 la1 la2 la3 la4 la5 ggd
    clear lo
    clear m1 m2 G1 BB
    by_cases hQ : InW Q
    · have T := Lib.hid (told_in hQ)
      have V := Lib.hid (show hv2 Q R = hv R ∧ lv2 Q R = lv R by unfold hv2 lv2; rw [if_pos hQ, if_pos hQ]; exact ⟨rfl, rfl⟩)
      rw [T.out.2.2]
      clear hQ
      go_wp2_with fail
      obtain ⟨lo, st, hlo⟩ := KK.preG (KK.tail.tail.tail.tail.tail.tail.head).lt 24 (.int .i64 0) (.int .u64 0)
      have la0 : d ≤ lo := hlo (d, .int .i64 (hv Q), .int .u64 (lv Q)) (by simp)
      have la1 : h ≤ lo := hlo (h, .int .u64 (hiW r), .int .u64 (loW r)) (by simp)
      have la2 : g ≤ lo := hlo (g, .int .u64 (hiW q), .int .u64 (loW q)) (by simp)
      have la3 : w.heap.size + 1 + 1 + 1 ≤ lo := hlo (w.heap.size + 1 + 1 + 1, .int .i64 0, .int .u64 0) (by simp)
      have la4 : w.heap.size + 1 + 1 ≤ lo := hlo (w.heap.size + 1 + 1, .int .i64 0, .int .u64 0) (by simp)
      have la5 : w.heap.size + 1 ≤ lo := hlo (w.heap.size + 1, .int .i64 0, .int .u64 (loW b)) (by simp)
      have la6 : w.heap.size ≤ lo := hlo (w.heap.size, .int .i64 (hiW a), .int .u64 (loW a)) (by simp)
      clear hlo
      go_cut [11, 12] (fun v11 v12 wx => CutOne lo (PairsK w [(d, .int .i64 (hv Q), .int .u64 (lv Q)), (h, .int .u64 (hiW r), .int .u64 (loW r)), (g, .int .u64 (hiW q), .int .u64 (loW q)), (w.heap.size + 1 + 1 + 1, .int .i64 0, .int .u64 0), (w.heap.size + 1 + 1, .int .i64 0, .int .u64 0), (w.heap.size + 1, .int .i64 0, .int .u64 (loW b)), (w.heap.size, .int .i64 (hiW a), .int .u64 (loW a))]) (.int .i64 (hv R)) (.int .u64 (lv R)) v11 wx ∧ v12 = .int .i64 (ev R))
      case first =>
        obtain ⟨_, ja0, jb0, _, _⟩ := KK.tail.head
        obtain ⟨_, ja1, jb1, _, _⟩ := KK.tail.tail.tail.tail.tail.tail.head
        clear KK
        have ⟨gp0, gq0⟩ := behindG st.lt la1
        have ⟨gp1, gq1⟩ := behindG st.lt la6
        go_region_held3 (fun w' => w'.cell? ⟨h, 0, none⟩ = some (.int .u64 (hiW r)) ∧ w'.cell? ⟨h, 1, none⟩ = some (.int .u64 (loW r)) ∧ w'.cell? ⟨w.heap.size, 0, none⟩ = some (.int .i64 (hiW a)) ∧ w'.cell? ⟨w.heap.size, 1, none⟩ = some (.int .u64 (loW a))) (first | (with_reducible exact ⟨st.k.tail.head.c0, st.k.tail.head.c1, st.k.tail.tail.tail.tail.tail.tail.head.c0, st.k.tail.tail.tail.tail.tail.tail.head.c1⟩) | (with_reducible exact ⟨st.alloc1.k.tail.head.c0, st.alloc1.k.tail.head.c1, st.alloc1.k.tail.tail.tail.tail.tail.tail.head.c0, st.alloc1.k.tail.tail.tail.tail.tail.tail.head.c1⟩) | (with_reducible exact ⟨st.alloc2.k.tail.head.c0, st.alloc2.k.tail.head.c1, st.alloc2.k.tail.tail.tail.tail.tail.tail.head.c0, st.alloc2.k.tail.tail.tail.tail.tail.tail.head.c1⟩) | (with_reducible exact ⟨st.drew.k.tail.head.c0, st.drew.k.tail.head.c1, st.drew.k.tail.tail.tail.tail.tail.tail.head.c0, st.drew.k.tail.tail.tail.tail.tail.tail.head.c1⟩) | (with_reducible exact ⟨st.alloc1.drew.k.tail.head.c0, st.alloc1.drew.k.tail.head.c1, st.alloc1.drew.k.tail.tail.tail.tail.tail.tail.head.c0, st.alloc1.drew.k.tail.tail.tail.tail.tail.tail.head.c1⟩) | (with_reducible exact ⟨st.alloc2.drew.k.tail.head.c0, st.alloc2.drew.k.tail.head.c1, st.alloc2.drew.k.tail.tail.tail.tail.tail.tail.head.c0, st.alloc2.drew.k.tail.tail.tail.tail.tail.tail.head.c1⟩) | go_keep)
          (first
            | (go_at_call 64; (with_reducible refine (BA.out _).mono ?_); rintro e x ⟨rfl, k⟩
               with_reducible (first | replace st := st.below k | replace st := st.alloc1.below k | replace st := st.alloc2.below k | replace st := st.drew.below k | replace st := st.alloc1.drew.below k | replace st := st.alloc2.drew.below k)
               clear k
               obtain ⟨_, ka0, kb0, _, _⟩ := st.k.tail.head
               obtain ⟨_, ka1, kb1, _, _⟩ := st.k.tail.tail.tail.tail.tail.tail.head
               obtain ⟨gp0, gq0⟩ := behindG st.lt la1
               try obtain ⟨gr0, gs0⟩ := behindG (st.ge _ (List.mem_cons_self ..)) la1
               try obtain ⟨gt0, gu0⟩ := behindG (st.ge _ (List.mem_cons_of_mem _ (List.mem_cons_self ..))) la1
               obtain ⟨gp1, gq1⟩ := behindG st.lt la6
               try obtain ⟨gr1, gs1⟩ := behindG (st.ge _ (List.mem_cons_self ..)) la6
               try obtain ⟨gt1, gu1⟩ := behindG (st.ge _ (List.mem_cons_of_mem _ (List.mem_cons_self ..))) la6
               try obtain ⟨_, y0, y1, y2, y3⟩ := st.al _ (List.mem_cons_self ..)
               try obtain ⟨_, y4, y5, y6, y7⟩ := st.al _ (List.mem_cons_of_mem _ (List.mem_cons_self ..)))
            | (go_at_call 63; (with_reducible refine (G2.out _).mono ?_); rintro e x ⟨rfl, k⟩
               with_reducible (first | replace st := st.below k | replace st := st.alloc1.below k | replace st := st.alloc2.below k | replace st := st.drew.below k | replace st := st.alloc1.drew.below k | replace st := st.alloc2.drew.below k)
               clear k
               obtain ⟨_, ka0, kb0, _, _⟩ := st.k.tail.head
               obtain ⟨_, ka1, kb1, _, _⟩ := st.k.tail.tail.tail.tail.tail.tail.head
               obtain ⟨gp0, gq0⟩ := behindG st.lt la1
               try obtain ⟨gr0, gs0⟩ := behindG (st.ge _ (List.mem_cons_self ..)) la1
               try obtain ⟨gt0, gu0⟩ := behindG (st.ge _ (List.mem_cons_of_mem _ (List.mem_cons_self ..))) la1
               obtain ⟨gp1, gq1⟩ := behindG st.lt la6
               try obtain ⟨gr1, gs1⟩ := behindG (st.ge _ (List.mem_cons_self ..)) la6
               try obtain ⟨gt1, gu1⟩ := behindG (st.ge _ (List.mem_cons_of_mem _ (List.mem_cons_self ..))) la6
               try obtain ⟨_, y0, y1, y2, y3⟩ := st.al _ (List.mem_cons_self ..)
               try obtain ⟨_, y4, y5, y6, y7⟩ := st.al _ (List.mem_cons_of_mem _ (List.mem_cons_self ..))))
        all_goals
          go_wp2_with fail
          go_meet
          refine ⟨⟨_, rfl, ?_⟩, rfl⟩
          with_reducible first | exact st.one1 _ _ | exact st.one2 _ _
      case rest =>
      obtain ⟨⟨f, rfl, s0⟩, rfl⟩ := hcut
      clear st
      have KK := s0.k.cons s0.bg
      have ggf := s0.gg
      have nf0 : f ≠ d := by omega
      have nf1 : f ≠ h := by omega
      have nf2 : f ≠ g := by omega
      have nf3 : f ≠ w.heap.size + 1 + 1 + 1 := by omega
      have nf4 : f ≠ w.heap.size + 1 + 1 := by omega
      have nf5 : f ≠ w.heap.size + 1 := by omega
      have nf6 : f ≠ w.heap.size := by omega
      clear s0 la0 la1 la2 la3 la4 la5 la6 ggf
      clear lo
      go_wp2_with fail
      obtain ⟨_, xa, xb, xc, xd⟩ := KK.head
      obtain ⟨_, ya, yb, yc, yd⟩ := KK.tail.head
      obtain ⟨_, sa, sb, sc, sd⟩ := KK.tail.tail.tail.tail.head
      obtain ⟨_, za, zb, zc, zd⟩ := KK.tail.tail.tail.tail.tail.head
      have o1 := Ne.symm nf4
      have o2 := Ne.symm nf3
      have o3 := Ne.symm nd3
      have o4 := Ne.symm nd2
      have i5 : w.heap.size + 1 + 1 ≠ w.heap.size + 1 + 1 + 1 := by omega
      have P2 := ((KK.tail.tail.tail.tail.tail.head.self2 (.int .i64 (hv Q)) (.int .u64 (lv Q))).far2 (Ne.symm i5) (.int .i64 (hv R)) (.int .u64 (lv R)))
      have P3 := ((KK.tail.tail.tail.tail.head.far2 i5 (.int .i64 (hv Q)) (.int .u64 (lv Q))).self2 (.int .i64 (hv R)) (.int .u64 (lv R)))
      have HB := ((((KK.hb.setCell (p := ⟨w.heap.size + 1 + 1, 0, none⟩) (by show _ ≤ w.heap.size + 1 + 1; omega) (.int .i64 (hv Q))).setCell (p := ⟨w.heap.size + 1 + 1, 1, none⟩) (by show _ ≤ w.heap.size + 1 + 1; omega) (.int .u64 (lv Q))).setCell (p := ⟨w.heap.size + 1 + 1 + 1, 0, none⟩) (by show _ ≤ w.heap.size + 1 + 1 + 1; omega) (.int .i64 (hv R))).setCell (p := ⟨w.heap.size + 1 + 1 + 1, 1, none⟩) (by show _ ≤ w.heap.size + 1 + 1 + 1; omega) (.int .u64 (lv R)))
      replace P2 := P2.drew
      replace P3 := P3.drew
      replace HB := HB.drew
      go_region
      all_goals
        go_wp2
        exact bodyPost_ret (v := .tuple #[.agg #[.int .i64 (hv Q), .int .u64 (lv Q)], .agg #[.int .i64 (hv R), .int .u64 (lv R)], .int .i64 0]) (by simp [results, Try.results45, go_sem, P2.c0, P2.c1, P3.c0, P3.c1]) rfl (⟨by rw [T.out.2.2, V.out.1, V.out.2], HB⟩)
    · have T := Lib.hid (told_no hQ)
      have V := Lib.hid (show hv2 Q R = 0 ∧ lv2 Q R = 0 by unfold hv2 lv2; rw [if_neg hQ, if_neg hQ]; exact ⟨rfl, rfl⟩)
      rw [T.out.2.2]
      clear hQ
      obtain ⟨_, sa, sb, sc, sd⟩ := KK.tail.tail.tail.head
      obtain ⟨_, za, zb, zc, zd⟩ := KK.tail.tail.tail.tail.head
      have i5 : w.heap.size + 1 + 1 ≠ w.heap.size + 1 + 1 + 1 := by omega
      have P2 := ((KK.tail.tail.tail.tail.head.self2 (.int .i64 0) (.int .u64 0)).far2 (Ne.symm i5) (.int .i64 0) (.int .u64 0))
      have P3 := ((KK.tail.tail.tail.head.far2 i5 (.int .i64 0) (.int .u64 0)).self2 (.int .i64 0) (.int .u64 0))
      have HB := ((((KK.hb.setCell (p := ⟨w.heap.size + 1 + 1, 0, none⟩) (by show _ ≤ w.heap.size + 1 + 1; omega) (.int .i64 0)).setCell (p := ⟨w.heap.size + 1 + 1, 1, none⟩) (by show _ ≤ w.heap.size + 1 + 1; omega) (.int .u64 0)).setCell (p := ⟨w.heap.size + 1 + 1 + 1, 0, none⟩) (by show _ ≤ w.heap.size + 1 + 1 + 1; omega) (.int .i64 0)).setCell (p := ⟨w.heap.size + 1 + 1 + 1, 1, none⟩) (by show _ ≤ w.heap.size + 1 + 1 + 1; omega) (.int .u64 0))
      go_wp2
      exact bodyPost_ret (v := .tuple #[.agg #[.int .i64 0, .int .u64 0], .agg #[.int .i64 0, .int .u64 0], .int .i64 2]) (by simp [results, Try.results45, go_sem, P2.c0, P2.c1, P3.c0, P3.c1]) rfl (⟨by rw [T.out.1, T.out.2.1, T.out.2.2, V.out.1, V.out.2], HB⟩)
  · have hx' : (hiW b == 0) = false := by rw [beq_eq_false_iff_ne]; exact hx
    clear hw
    go_enter Try.func45, Try.ntmps45
    go_wp2_with fail
    have KK := (((((PairsK.nil w).more (.int .i64 (hiW a)) (.int .u64 (loW a)) 24).more (.int .i64 (hiW b)) (.int .u64 (loW b)) 24).more (.int .i64 0) (.int .u64 0) 24).more (.int .i64 0) (.int .u64 0) 24)
    simp only [World.size_alloc] at KK
    generalize ((((w.alloc (.cells #[.int .i64 (hiW a), .int .u64 (loW a)] 24)).alloc (.cells #[.int .i64 (hiW b), .int .u64 (loW b)] 24)).alloc (.cells #[.int .i64 0, .int .u64 0] 24)).alloc (.cells #[.int .i64 0, .int .u64 0] 24)) = w0 at *
    obtain ⟨lo, st, hlo⟩ := KK.preG (KK.tail.tail.tail.head).lt 74 (.int .u64 0) (.int .u64 0)
    have la0 : w.heap.size + 1 + 1 + 1 ≤ lo := hlo (w.heap.size + 1 + 1 + 1, .int .i64 0, .int .u64 0) (by simp)
    have la1 : w.heap.size + 1 + 1 ≤ lo := hlo (w.heap.size + 1 + 1, .int .i64 0, .int .u64 0) (by simp)
    have la2 : w.heap.size + 1 ≤ lo := hlo (w.heap.size + 1, .int .i64 (hiW b), .int .u64 (loW b)) (by simp)
    have la3 : w.heap.size ≤ lo := hlo (w.heap.size, .int .i64 (hiW a), .int .u64 (loW a)) (by simp)
    clear hlo
    go_cut [7, 8] (fun v7 v8 wx => CutTwo lo (PairsK w [(w.heap.size + 1 + 1 + 1, .int .i64 0, .int .u64 0), (w.heap.size + 1 + 1, .int .i64 0, .int .u64 0), (w.heap.size + 1, .int .i64 (hiW b), .int .u64 (loW b)), (w.heap.size, .int .i64 (hiW a), .int .u64 (loW a))]) (.int .u64 (hiW q)) (.int .u64 (loW q)) (.int .u64 (hiW r)) (.int .u64 (loW r)) v7 v8 wx)
    case first =>
      obtain ⟨_, ja0, jb0, _, _⟩ := KK.tail.tail.tail.head
      obtain ⟨_, ja1, jb1, _, _⟩ := KK.tail.tail.head
      clear KK
      have ⟨gp0, gq0⟩ := behindG st.lt la3
      have ⟨gp1, gq1⟩ := behindG st.lt la2
      go_region_held3 (fun w' => w'.cell? ⟨w.heap.size, 0, none⟩ = some (.int .i64 (hiW a)) ∧ w'.cell? ⟨w.heap.size, 1, none⟩ = some (.int .u64 (loW a)) ∧ w'.cell? ⟨w.heap.size + 1, 0, none⟩ = some (.int .i64 (hiW b)) ∧ w'.cell? ⟨w.heap.size + 1, 1, none⟩ = some (.int .u64 (loW b))) (first | (with_reducible exact ⟨st.k.tail.tail.tail.head.c0, st.k.tail.tail.tail.head.c1, st.k.tail.tail.head.c0, st.k.tail.tail.head.c1⟩) | (with_reducible exact ⟨st.alloc1.k.tail.tail.tail.head.c0, st.alloc1.k.tail.tail.tail.head.c1, st.alloc1.k.tail.tail.head.c0, st.alloc1.k.tail.tail.head.c1⟩) | (with_reducible exact ⟨st.alloc2.k.tail.tail.tail.head.c0, st.alloc2.k.tail.tail.tail.head.c1, st.alloc2.k.tail.tail.head.c0, st.alloc2.k.tail.tail.head.c1⟩) | (with_reducible exact ⟨st.drew.k.tail.tail.tail.head.c0, st.drew.k.tail.tail.tail.head.c1, st.drew.k.tail.tail.head.c0, st.drew.k.tail.tail.head.c1⟩) | (with_reducible exact ⟨st.alloc1.drew.k.tail.tail.tail.head.c0, st.alloc1.drew.k.tail.tail.tail.head.c1, st.alloc1.drew.k.tail.tail.head.c0, st.alloc1.drew.k.tail.tail.head.c1⟩) | (with_reducible exact ⟨st.alloc2.drew.k.tail.tail.tail.head.c0, st.alloc2.drew.k.tail.tail.tail.head.c1, st.alloc2.drew.k.tail.tail.head.c0, st.alloc2.drew.k.tail.tail.head.c1⟩) | go_keep)
        (first
          | (go_at_call 62; (with_reducible refine (SA.out _).mono ?_); rintro e x ⟨rfl, k⟩
             with_reducible (first | replace st := st.below k | replace st := st.alloc1.below k | replace st := st.alloc2.below k | replace st := st.drew.below k | replace st := st.alloc1.drew.below k | replace st := st.alloc2.drew.below k)
             clear k
             obtain ⟨_, ka0, kb0, _, _⟩ := st.k.tail.tail.tail.head
             obtain ⟨_, ka1, kb1, _, _⟩ := st.k.tail.tail.head
             obtain ⟨gp0, gq0⟩ := behindG st.lt la3
             try obtain ⟨gr0, gs0⟩ := behindG (st.ge _ (List.mem_cons_self ..)) la3
             try obtain ⟨gt0, gu0⟩ := behindG (st.ge _ (List.mem_cons_of_mem _ (List.mem_cons_self ..))) la3
             obtain ⟨gp1, gq1⟩ := behindG st.lt la2
             try obtain ⟨gr1, gs1⟩ := behindG (st.ge _ (List.mem_cons_self ..)) la2
             try obtain ⟨gt1, gu1⟩ := behindG (st.ge _ (List.mem_cons_of_mem _ (List.mem_cons_self ..))) la2
             try obtain ⟨_, y0, y1, y2, y3⟩ := st.al _ (List.mem_cons_self ..)
             try obtain ⟨_, y4, y5, y6, y7⟩ := st.al _ (List.mem_cons_of_mem _ (List.mem_cons_self ..)))
          | (go_at_call 62; (with_reducible refine (SB.out _).mono ?_); rintro e x ⟨rfl, k⟩
             with_reducible (first | replace st := st.below k | replace st := st.alloc1.below k | replace st := st.alloc2.below k | replace st := st.drew.below k | replace st := st.alloc1.drew.below k | replace st := st.alloc2.drew.below k)
             clear k
             obtain ⟨_, ka0, kb0, _, _⟩ := st.k.tail.tail.tail.head
             obtain ⟨_, ka1, kb1, _, _⟩ := st.k.tail.tail.head
             obtain ⟨gp0, gq0⟩ := behindG st.lt la3
             try obtain ⟨gr0, gs0⟩ := behindG (st.ge _ (List.mem_cons_self ..)) la3
             try obtain ⟨gt0, gu0⟩ := behindG (st.ge _ (List.mem_cons_of_mem _ (List.mem_cons_self ..))) la3
             obtain ⟨gp1, gq1⟩ := behindG st.lt la2
             try obtain ⟨gr1, gs1⟩ := behindG (st.ge _ (List.mem_cons_self ..)) la2
             try obtain ⟨gt1, gu1⟩ := behindG (st.ge _ (List.mem_cons_of_mem _ (List.mem_cons_self ..))) la2
             try obtain ⟨_, y0, y1, y2, y3⟩ := st.al _ (List.mem_cons_self ..)
             try obtain ⟨_, y4, y5, y6, y7⟩ := st.al _ (List.mem_cons_of_mem _ (List.mem_cons_self ..)))
          | (go_at_call 61; (with_reducible refine (SP.out _).mono ?_); rintro e x ⟨rfl, k⟩
             with_reducible (first | replace st := st.below k | replace st := st.alloc1.below k | replace st := st.alloc2.below k | replace st := st.drew.below k | replace st := st.alloc1.drew.below k | replace st := st.alloc2.drew.below k)
             clear k
             obtain ⟨_, ka0, kb0, _, _⟩ := st.k.tail.tail.tail.head
             obtain ⟨_, ka1, kb1, _, _⟩ := st.k.tail.tail.head
             obtain ⟨gp0, gq0⟩ := behindG st.lt la3
             try obtain ⟨gr0, gs0⟩ := behindG (st.ge _ (List.mem_cons_self ..)) la3
             try obtain ⟨gt0, gu0⟩ := behindG (st.ge _ (List.mem_cons_of_mem _ (List.mem_cons_self ..))) la3
             obtain ⟨gp1, gq1⟩ := behindG st.lt la2
             try obtain ⟨gr1, gs1⟩ := behindG (st.ge _ (List.mem_cons_self ..)) la2
             try obtain ⟨gt1, gu1⟩ := behindG (st.ge _ (List.mem_cons_of_mem _ (List.mem_cons_self ..))) la2
             try obtain ⟨_, y0, y1, y2, y3⟩ := st.al _ (List.mem_cons_self ..)
             try obtain ⟨_, y4, y5, y6, y7⟩ := st.al _ (List.mem_cons_of_mem _ (List.mem_cons_self ..))))
      all_goals
        go_wp2_with fail
        go_meet
        refine ⟨_, _, rfl, rfl, ?_⟩
        with_reducible first | exact st.fin1a _ _ _ _ | exact st.fin1b _ _ _ _ | exact st.fin2a _ _ _ _ | exact st.fin2b _ _ _ _ | exact st.fin3a _ _ _ _ | exact st.fin3b _ _ _ _
    case rest =>
    obtain ⟨g, h, rfl, rfl, s0⟩ := hcut
    clear st
    have KK := (s0.k.cons s0.bg).cons s0.bh
    have ggg := s0.gg
    have ggh := s0.gh
    have neg := s0.ne
    have ng0 : g ≠ w.heap.size + 1 + 1 + 1 := by omega
    have nh0 : h ≠ w.heap.size + 1 + 1 + 1 := by omega
    have ng1 : g ≠ w.heap.size + 1 + 1 := by omega
    have nh1 : h ≠ w.heap.size + 1 + 1 := by omega
    have ng2 : g ≠ w.heap.size + 1 := by omega
    have nh2 : h ≠ w.heap.size + 1 := by omega
    have ng3 : g ≠ w.heap.size := by omega
    have nh3 : h ≠ w.heap.size := by omega
    clear s0 la0 la1 la2 la3 ggg ggh
    clear lo
    clear SA SB SP
    have m1 := M1.out
    have m2 := M2.out
    go_wp2_with fail
    obtain ⟨lo, st, hlo⟩ := KK.preG (KK.tail.tail.tail.tail.tail.head).lt 24 (.int .i64 0) (.int .u64 0)
    have la0 : h ≤ lo := hlo (h, .int .u64 (hiW r), .int .u64 (loW r)) (by simp)
    have la1 : g ≤ lo := hlo (g, .int .u64 (hiW q), .int .u64 (loW q)) (by simp)
    have la2 : w.heap.size + 1 + 1 + 1 ≤ lo := hlo (w.heap.size + 1 + 1 + 1, .int .i64 0, .int .u64 0) (by simp)
    have la3 : w.heap.size + 1 + 1 ≤ lo := hlo (w.heap.size + 1 + 1, .int .i64 0, .int .u64 0) (by simp)
    have la4 : w.heap.size + 1 ≤ lo := hlo (w.heap.size + 1, .int .i64 (hiW b), .int .u64 (loW b)) (by simp)
    have la5 : w.heap.size ≤ lo := hlo (w.heap.size, .int .i64 (hiW a), .int .u64 (loW a)) (by simp)
    clear hlo
    go_cut [9, 10] (fun v9 v10 wx => CutOne lo (PairsK w [(h, .int .u64 (hiW r), .int .u64 (loW r)), (g, .int .u64 (hiW q), .int .u64 (loW q)), (w.heap.size + 1 + 1 + 1, .int .i64 0, .int .u64 0), (w.heap.size + 1 + 1, .int .i64 0, .int .u64 0), (w.heap.size + 1, .int .i64 (hiW b), .int .u64 (loW b)), (w.heap.size, .int .i64 (hiW a), .int .u64 (loW a))]) (.int .i64 (hv Q)) (.int .u64 (lv Q)) v9 wx ∧ v10 = .int .i64 (ev Q))
    case first =>
      obtain ⟨_, ja0, jb0, _, _⟩ := KK.tail.head
      obtain ⟨_, ja1, jb1, _, _⟩ := KK.tail.tail.tail.tail.tail.head
      obtain ⟨_, ja2, jb2, _, _⟩ := KK.tail.tail.tail.tail.head
      clear KK
      have ⟨gp0, gq0⟩ := behindG st.lt la1
      have ⟨gp1, gq1⟩ := behindG st.lt la5
      have ⟨gp2, gq2⟩ := behindG st.lt la4
      go_region_held3 (fun w' => w'.cell? ⟨g, 0, none⟩ = some (.int .u64 (hiW q)) ∧ w'.cell? ⟨g, 1, none⟩ = some (.int .u64 (loW q)) ∧ w'.cell? ⟨w.heap.size, 0, none⟩ = some (.int .i64 (hiW a)) ∧ w'.cell? ⟨w.heap.size, 1, none⟩ = some (.int .u64 (loW a)) ∧ w'.cell? ⟨w.heap.size + 1, 0, none⟩ = some (.int .i64 (hiW b)) ∧ w'.cell? ⟨w.heap.size + 1, 1, none⟩ = some (.int .u64 (loW b))) (first | (with_reducible exact ⟨st.k.tail.head.c0, st.k.tail.head.c1, st.k.tail.tail.tail.tail.tail.head.c0, st.k.tail.tail.tail.tail.tail.head.c1, st.k.tail.tail.tail.tail.head.c0, st.k.tail.tail.tail.tail.head.c1⟩) | (with_reducible exact ⟨st.alloc1.k.tail.head.c0, st.alloc1.k.tail.head.c1, st.alloc1.k.tail.tail.tail.tail.tail.head.c0, st.alloc1.k.tail.tail.tail.tail.tail.head.c1, st.alloc1.k.tail.tail.tail.tail.head.c0, st.alloc1.k.tail.tail.tail.tail.head.c1⟩) | (with_reducible exact ⟨st.alloc2.k.tail.head.c0, st.alloc2.k.tail.head.c1, st.alloc2.k.tail.tail.tail.tail.tail.head.c0, st.alloc2.k.tail.tail.tail.tail.tail.head.c1, st.alloc2.k.tail.tail.tail.tail.head.c0, st.alloc2.k.tail.tail.tail.tail.head.c1⟩) | (with_reducible exact ⟨st.drew.k.tail.head.c0, st.drew.k.tail.head.c1, st.drew.k.tail.tail.tail.tail.tail.head.c0, st.drew.k.tail.tail.tail.tail.tail.head.c1, st.drew.k.tail.tail.tail.tail.head.c0, st.drew.k.tail.tail.tail.tail.head.c1⟩) | (with_reducible exact ⟨st.alloc1.drew.k.tail.head.c0, st.alloc1.drew.k.tail.head.c1, st.alloc1.drew.k.tail.tail.tail.tail.tail.head.c0, st.alloc1.drew.k.tail.tail.tail.tail.tail.head.c1, st.alloc1.drew.k.tail.tail.tail.tail.head.c0, st.alloc1.drew.k.tail.tail.tail.tail.head.c1⟩) | (with_reducible exact ⟨st.alloc2.drew.k.tail.head.c0, st.alloc2.drew.k.tail.head.c1, st.alloc2.drew.k.tail.tail.tail.tail.tail.head.c0, st.alloc2.drew.k.tail.tail.tail.tail.tail.head.c1, st.alloc2.drew.k.tail.tail.tail.tail.head.c0, st.alloc2.drew.k.tail.tail.tail.tail.head.c1⟩) | go_keep)
        (first
          | (go_at_call 64; (with_reducible refine (BA.out _).mono ?_); rintro e x ⟨rfl, k⟩
             with_reducible (first | replace st := st.below k | replace st := st.alloc1.below k | replace st := st.alloc2.below k | replace st := st.drew.below k | replace st := st.alloc1.drew.below k | replace st := st.alloc2.drew.below k)
             clear k
             obtain ⟨_, ka0, kb0, _, _⟩ := st.k.tail.head
             obtain ⟨_, ka1, kb1, _, _⟩ := st.k.tail.tail.tail.tail.tail.head
             obtain ⟨_, ka2, kb2, _, _⟩ := st.k.tail.tail.tail.tail.head
             obtain ⟨gp0, gq0⟩ := behindG st.lt la1
             try obtain ⟨gr0, gs0⟩ := behindG (st.ge _ (List.mem_cons_self ..)) la1
             try obtain ⟨gt0, gu0⟩ := behindG (st.ge _ (List.mem_cons_of_mem _ (List.mem_cons_self ..))) la1
             obtain ⟨gp1, gq1⟩ := behindG st.lt la5
             try obtain ⟨gr1, gs1⟩ := behindG (st.ge _ (List.mem_cons_self ..)) la5
             try obtain ⟨gt1, gu1⟩ := behindG (st.ge _ (List.mem_cons_of_mem _ (List.mem_cons_self ..))) la5
             obtain ⟨gp2, gq2⟩ := behindG st.lt la4
             try obtain ⟨gr2, gs2⟩ := behindG (st.ge _ (List.mem_cons_self ..)) la4
             try obtain ⟨gt2, gu2⟩ := behindG (st.ge _ (List.mem_cons_of_mem _ (List.mem_cons_self ..))) la4
             try obtain ⟨_, y0, y1, y2, y3⟩ := st.al _ (List.mem_cons_self ..)
             try obtain ⟨_, y4, y5, y6, y7⟩ := st.al _ (List.mem_cons_of_mem _ (List.mem_cons_self ..)))
          | (go_at_call 64; (with_reducible refine (BB.out _).mono ?_); rintro e x ⟨rfl, k⟩
             with_reducible (first | replace st := st.below k | replace st := st.alloc1.below k | replace st := st.alloc2.below k | replace st := st.drew.below k | replace st := st.alloc1.drew.below k | replace st := st.alloc2.drew.below k)
             clear k
             obtain ⟨_, ka0, kb0, _, _⟩ := st.k.tail.head
             obtain ⟨_, ka1, kb1, _, _⟩ := st.k.tail.tail.tail.tail.tail.head
             obtain ⟨_, ka2, kb2, _, _⟩ := st.k.tail.tail.tail.tail.head
             obtain ⟨gp0, gq0⟩ := behindG st.lt la1
             try obtain ⟨gr0, gs0⟩ := behindG (st.ge _ (List.mem_cons_self ..)) la1
             try obtain ⟨gt0, gu0⟩ := behindG (st.ge _ (List.mem_cons_of_mem _ (List.mem_cons_self ..))) la1
             obtain ⟨gp1, gq1⟩ := behindG st.lt la5
             try obtain ⟨gr1, gs1⟩ := behindG (st.ge _ (List.mem_cons_self ..)) la5
             try obtain ⟨gt1, gu1⟩ := behindG (st.ge _ (List.mem_cons_of_mem _ (List.mem_cons_self ..))) la5
             obtain ⟨gp2, gq2⟩ := behindG st.lt la4
             try obtain ⟨gr2, gs2⟩ := behindG (st.ge _ (List.mem_cons_self ..)) la4
             try obtain ⟨gt2, gu2⟩ := behindG (st.ge _ (List.mem_cons_of_mem _ (List.mem_cons_self ..))) la4
             try obtain ⟨_, y0, y1, y2, y3⟩ := st.al _ (List.mem_cons_self ..)
             try obtain ⟨_, y4, y5, y6, y7⟩ := st.al _ (List.mem_cons_of_mem _ (List.mem_cons_self ..)))
          | (go_at_call 63; (with_reducible refine (G1.out _).mono ?_); rintro e x ⟨rfl, k⟩
             with_reducible (first | replace st := st.below k | replace st := st.alloc1.below k | replace st := st.alloc2.below k | replace st := st.drew.below k | replace st := st.alloc1.drew.below k | replace st := st.alloc2.drew.below k)
             clear k
             obtain ⟨_, ka0, kb0, _, _⟩ := st.k.tail.head
             obtain ⟨_, ka1, kb1, _, _⟩ := st.k.tail.tail.tail.tail.tail.head
             obtain ⟨_, ka2, kb2, _, _⟩ := st.k.tail.tail.tail.tail.head
             obtain ⟨gp0, gq0⟩ := behindG st.lt la1
             try obtain ⟨gr0, gs0⟩ := behindG (st.ge _ (List.mem_cons_self ..)) la1
             try obtain ⟨gt0, gu0⟩ := behindG (st.ge _ (List.mem_cons_of_mem _ (List.mem_cons_self ..))) la1
             obtain ⟨gp1, gq1⟩ := behindG st.lt la5
             try obtain ⟨gr1, gs1⟩ := behindG (st.ge _ (List.mem_cons_self ..)) la5
             try obtain ⟨gt1, gu1⟩ := behindG (st.ge _ (List.mem_cons_of_mem _ (List.mem_cons_self ..))) la5
             obtain ⟨gp2, gq2⟩ := behindG st.lt la4
             try obtain ⟨gr2, gs2⟩ := behindG (st.ge _ (List.mem_cons_self ..)) la4
             try obtain ⟨gt2, gu2⟩ := behindG (st.ge _ (List.mem_cons_of_mem _ (List.mem_cons_self ..))) la4
             try obtain ⟨_, y0, y1, y2, y3⟩ := st.al _ (List.mem_cons_self ..)
             try obtain ⟨_, y4, y5, y6, y7⟩ := st.al _ (List.mem_cons_of_mem _ (List.mem_cons_self ..))))
      all_goals
        go_wp2_with fail
        go_meet
        refine ⟨⟨_, rfl, ?_⟩, rfl⟩
        with_reducible first | exact st.one1 _ _ | exact st.one2 _ _
    case rest =>
    obtain ⟨⟨d, rfl, s0⟩, rfl⟩ := hcut
    clear st
    have KK := s0.k.cons s0.bg
    have ggd := s0.gg
    have nd0 : d ≠ h := by omega
    have nd1 : d ≠ g := by omega
    have nd2 : d ≠ w.heap.size + 1 + 1 + 1 := by omega
    have nd3 : d ≠ w.heap.size + 1 + 1 := by omega
    have nd4 : d ≠ w.heap.size + 1 := by omega
    have nd5 : d ≠ w.heap.size := by omega
    clear s0 la0 la1 la2 la3 la4 la5 ggd
    clear lo
    clear m1 m2 G1 BB
    by_cases hQ : InW Q
    · have T := Lib.hid (told_in hQ)
      have V := Lib.hid (show hv2 Q R = hv R ∧ lv2 Q R = lv R by unfold hv2 lv2; rw [if_pos hQ, if_pos hQ]; exact ⟨rfl, rfl⟩)
      rw [T.out.2.2]
      clear hQ
      go_wp2_with fail
      obtain ⟨lo, st, hlo⟩ := KK.preG (KK.tail.tail.tail.tail.tail.tail.head).lt 24 (.int .i64 0) (.int .u64 0)
      have la0 : d ≤ lo := hlo (d, .int .i64 (hv Q), .int .u64 (lv Q)) (by simp)
      have la1 : h ≤ lo := hlo (h, .int .u64 (hiW r), .int .u64 (loW r)) (by simp)
      have la2 : g ≤ lo := hlo (g, .int .u64 (hiW q), .int .u64 (loW q)) (by simp)
      have la3 : w.heap.size + 1 + 1 + 1 ≤ lo := hlo (w.heap.size + 1 + 1 + 1, .int .i64 0, .int .u64 0) (by simp)
      have la4 : w.heap.size + 1 + 1 ≤ lo := hlo (w.heap.size + 1 + 1, .int .i64 0, .int .u64 0) (by simp)
      have la5 : w.heap.size + 1 ≤ lo := hlo (w.heap.size + 1, .int .i64 (hiW b), .int .u64 (loW b)) (by simp)
      have la6 : w.heap.size ≤ lo := hlo (w.heap.size, .int .i64 (hiW a), .int .u64 (loW a)) (by simp)
      clear hlo
      go_cut [11, 12] (fun v11 v12 wx => CutOne lo (PairsK w [(d, .int .i64 (hv Q), .int .u64 (lv Q)), (h, .int .u64 (hiW r), .int .u64 (loW r)), (g, .int .u64 (hiW q), .int .u64 (loW q)), (w.heap.size + 1 + 1 + 1, .int .i64 0, .int .u64 0), (w.heap.size + 1 + 1, .int .i64 0, .int .u64 0), (w.heap.size + 1, .int .i64 (hiW b), .int .u64 (loW b)), (w.heap.size, .int .i64 (hiW a), .int .u64 (loW a))]) (.int .i64 (hv R)) (.int .u64 (lv R)) v11 wx ∧ v12 = .int .i64 (ev R))
      case first =>
        obtain ⟨_, ja0, jb0, _, _⟩ := KK.tail.head
        obtain ⟨_, ja1, jb1, _, _⟩ := KK.tail.tail.tail.tail.tail.tail.head
        clear KK
        have ⟨gp0, gq0⟩ := behindG st.lt la1
        have ⟨gp1, gq1⟩ := behindG st.lt la6
        go_region_held3 (fun w' => w'.cell? ⟨h, 0, none⟩ = some (.int .u64 (hiW r)) ∧ w'.cell? ⟨h, 1, none⟩ = some (.int .u64 (loW r)) ∧ w'.cell? ⟨w.heap.size, 0, none⟩ = some (.int .i64 (hiW a)) ∧ w'.cell? ⟨w.heap.size, 1, none⟩ = some (.int .u64 (loW a))) (first | (with_reducible exact ⟨st.k.tail.head.c0, st.k.tail.head.c1, st.k.tail.tail.tail.tail.tail.tail.head.c0, st.k.tail.tail.tail.tail.tail.tail.head.c1⟩) | (with_reducible exact ⟨st.alloc1.k.tail.head.c0, st.alloc1.k.tail.head.c1, st.alloc1.k.tail.tail.tail.tail.tail.tail.head.c0, st.alloc1.k.tail.tail.tail.tail.tail.tail.head.c1⟩) | (with_reducible exact ⟨st.alloc2.k.tail.head.c0, st.alloc2.k.tail.head.c1, st.alloc2.k.tail.tail.tail.tail.tail.tail.head.c0, st.alloc2.k.tail.tail.tail.tail.tail.tail.head.c1⟩) | (with_reducible exact ⟨st.drew.k.tail.head.c0, st.drew.k.tail.head.c1, st.drew.k.tail.tail.tail.tail.tail.tail.head.c0, st.drew.k.tail.tail.tail.tail.tail.tail.head.c1⟩) | (with_reducible exact ⟨st.alloc1.drew.k.tail.head.c0, st.alloc1.drew.k.tail.head.c1, st.alloc1.drew.k.tail.tail.tail.tail.tail.tail.head.c0, st.alloc1.drew.k.tail.tail.tail.tail.tail.tail.head.c1⟩) | (with_reducible exact ⟨st.alloc2.drew.k.tail.head.c0, st.alloc2.drew.k.tail.head.c1, st.alloc2.drew.k.tail.tail.tail.tail.tail.tail.head.c0, st.alloc2.drew.k.tail.tail.tail.tail.tail.tail.head.c1⟩) | go_keep)
          (first
            | (go_at_call 64; (with_reducible refine (BA.out _).mono ?_); rintro e x ⟨rfl, k⟩
               with_reducible (first | replace st := st.below k | replace st := st.alloc1.below k | replace st := st.alloc2.below k | replace st := st.drew.below k | replace st := st.alloc1.drew.below k | replace st := st.alloc2.drew.below k)
               clear k
               obtain ⟨_, ka0, kb0, _, _⟩ := st.k.tail.head
               obtain ⟨_, ka1, kb1, _, _⟩ := st.k.tail.tail.tail.tail.tail.tail.head
               obtain ⟨gp0, gq0⟩ := behindG st.lt la1
               try obtain ⟨gr0, gs0⟩ := behindG (st.ge _ (List.mem_cons_self ..)) la1
               try obtain ⟨gt0, gu0⟩ := behindG (st.ge _ (List.mem_cons_of_mem _ (List.mem_cons_self ..))) la1
               obtain ⟨gp1, gq1⟩ := behindG st.lt la6
               try obtain ⟨gr1, gs1⟩ := behindG (st.ge _ (List.mem_cons_self ..)) la6
               try obtain ⟨gt1, gu1⟩ := behindG (st.ge _ (List.mem_cons_of_mem _ (List.mem_cons_self ..))) la6
               try obtain ⟨_, y0, y1, y2, y3⟩ := st.al _ (List.mem_cons_self ..)
               try obtain ⟨_, y4, y5, y6, y7⟩ := st.al _ (List.mem_cons_of_mem _ (List.mem_cons_self ..)))
            | (go_at_call 63; (with_reducible refine (G2.out _).mono ?_); rintro e x ⟨rfl, k⟩
               with_reducible (first | replace st := st.below k | replace st := st.alloc1.below k | replace st := st.alloc2.below k | replace st := st.drew.below k | replace st := st.alloc1.drew.below k | replace st := st.alloc2.drew.below k)
               clear k
               obtain ⟨_, ka0, kb0, _, _⟩ := st.k.tail.head
               obtain ⟨_, ka1, kb1, _, _⟩ := st.k.tail.tail.tail.tail.tail.tail.head
               obtain ⟨gp0, gq0⟩ := behindG st.lt la1
               try obtain ⟨gr0, gs0⟩ := behindG (st.ge _ (List.mem_cons_self ..)) la1
               try obtain ⟨gt0, gu0⟩ := behindG (st.ge _ (List.mem_cons_of_mem _ (List.mem_cons_self ..))) la1
               obtain ⟨gp1, gq1⟩ := behindG st.lt la6
               try obtain ⟨gr1, gs1⟩ := behindG (st.ge _ (List.mem_cons_self ..)) la6
               try obtain ⟨gt1, gu1⟩ := behindG (st.ge _ (List.mem_cons_of_mem _ (List.mem_cons_self ..))) la6
               try obtain ⟨_, y0, y1, y2, y3⟩ := st.al _ (List.mem_cons_self ..)
               try obtain ⟨_, y4, y5, y6, y7⟩ := st.al _ (List.mem_cons_of_mem _ (List.mem_cons_self ..))))
        all_goals
          go_wp2_with fail
          go_meet
          refine ⟨⟨_, rfl, ?_⟩, rfl⟩
          with_reducible first | exact st.one1 _ _ | exact st.one2 _ _
      case rest =>
      obtain ⟨⟨f, rfl, s0⟩, rfl⟩ := hcut
      clear st
      have KK := s0.k.cons s0.bg
      have ggf := s0.gg
      have nf0 : f ≠ d := by omega
      have nf1 : f ≠ h := by omega
      have nf2 : f ≠ g := by omega
      have nf3 : f ≠ w.heap.size + 1 + 1 + 1 := by omega
      have nf4 : f ≠ w.heap.size + 1 + 1 := by omega
      have nf5 : f ≠ w.heap.size + 1 := by omega
      have nf6 : f ≠ w.heap.size := by omega
      clear s0 la0 la1 la2 la3 la4 la5 la6 ggf
      clear lo
      go_wp2_with fail
      obtain ⟨_, xa, xb, xc, xd⟩ := KK.head
      obtain ⟨_, ya, yb, yc, yd⟩ := KK.tail.head
      obtain ⟨_, sa, sb, sc, sd⟩ := KK.tail.tail.tail.tail.head
      obtain ⟨_, za, zb, zc, zd⟩ := KK.tail.tail.tail.tail.tail.head
      have o1 := Ne.symm nf4
      have o2 := Ne.symm nf3
      have o3 := Ne.symm nd3
      have o4 := Ne.symm nd2
      have i5 : w.heap.size + 1 + 1 ≠ w.heap.size + 1 + 1 + 1 := by omega
      have P2 := ((KK.tail.tail.tail.tail.tail.head.self2 (.int .i64 (hv Q)) (.int .u64 (lv Q))).far2 (Ne.symm i5) (.int .i64 (hv R)) (.int .u64 (lv R)))
      have P3 := ((KK.tail.tail.tail.tail.head.far2 i5 (.int .i64 (hv Q)) (.int .u64 (lv Q))).self2 (.int .i64 (hv R)) (.int .u64 (lv R)))
      have HB := ((((KK.hb.setCell (p := ⟨w.heap.size + 1 + 1, 0, none⟩) (by show _ ≤ w.heap.size + 1 + 1; omega) (.int .i64 (hv Q))).setCell (p := ⟨w.heap.size + 1 + 1, 1, none⟩) (by show _ ≤ w.heap.size + 1 + 1; omega) (.int .u64 (lv Q))).setCell (p := ⟨w.heap.size + 1 + 1 + 1, 0, none⟩) (by show _ ≤ w.heap.size + 1 + 1 + 1; omega) (.int .i64 (hv R))).setCell (p := ⟨w.heap.size + 1 + 1 + 1, 1, none⟩) (by show _ ≤ w.heap.size + 1 + 1 + 1; omega) (.int .u64 (lv R)))
      replace P2 := P2.drew
      replace P3 := P3.drew
      replace HB := HB.drew
      go_region
      all_goals
        go_wp2
        exact bodyPost_ret (v := .tuple #[.agg #[.int .i64 (hv Q), .int .u64 (lv Q)], .agg #[.int .i64 (hv R), .int .u64 (lv R)], .int .i64 0]) (by simp [results, Try.results45, go_sem, P2.c0, P2.c1, P3.c0, P3.c1]) rfl (⟨by rw [T.out.2.2, V.out.1, V.out.2], HB⟩)
    · have T := Lib.hid (told_no hQ)
      have V := Lib.hid (show hv2 Q R = 0 ∧ lv2 Q R = 0 by unfold hv2 lv2; rw [if_neg hQ, if_neg hQ]; exact ⟨rfl, rfl⟩)
      rw [T.out.2.2]
      clear hQ
      obtain ⟨_, sa, sb, sc, sd⟩ := KK.tail.tail.tail.head
      obtain ⟨_, za, zb, zc, zd⟩ := KK.tail.tail.tail.tail.head
      have i5 : w.heap.size + 1 + 1 ≠ w.heap.size + 1 + 1 + 1 := by omega
      have P2 := ((KK.tail.tail.tail.tail.head.self2 (.int .i64 0) (.int .u64 0)).far2 (Ne.symm i5) (.int .i64 0) (.int .u64 0))
      have P3 := ((KK.tail.tail.tail.head.far2 i5 (.int .i64 0) (.int .u64 0)).self2 (.int .i64 0) (.int .u64 0))
      have HB := ((((KK.hb.setCell (p := ⟨w.heap.size + 1 + 1, 0, none⟩) (by show _ ≤ w.heap.size + 1 + 1; omega) (.int .i64 0)).setCell (p := ⟨w.heap.size + 1 + 1, 1, none⟩) (by show _ ≤ w.heap.size + 1 + 1; omega) (.int .u64 0)).setCell (p := ⟨w.heap.size + 1 + 1 + 1, 0, none⟩) (by show _ ≤ w.heap.size + 1 + 1 + 1; omega) (.int .i64 0)).setCell (p := ⟨w.heap.size + 1 + 1 + 1, 1, none⟩) (by show _ ≤ w.heap.size + 1 + 1 + 1; omega) (.int .u64 0))
      go_wp2
      exact bodyPost_ret (v := .tuple #[.agg #[.int .i64 0, .int .u64 0], .agg #[.int .i64 0, .int .u64 0], .int .i64 2]) (by simp [results, Try.results45, go_sem, P2.c0, P2.c1, P3.c0, P3.c1]) rfl (⟨by rw [T.out.1, T.out.2.1, T.out.2.2, V.out.1, V.out.2], HB⟩)
end Go.Proofs.Ytnopgdheffnfdaa
