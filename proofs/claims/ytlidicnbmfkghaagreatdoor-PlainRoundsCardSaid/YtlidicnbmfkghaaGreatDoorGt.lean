import Derived.Test.YtlidicnbmfkghaaGreatDoorGv
import Derived.Test.YtlidicnbmfkghaaGreatDoorGd
import Derived.Deep.RegionHeld3
import Derived.Deep.DeepCutAuto
/- Package divide's Trunc, at any wide numbers. -/
namespace Go.Proofs.YtlidicnbmfkghaaGreatDoor
open Go.RowKit

theorem tdiv_sg (a b : Int) : a.tdiv b = sg (decide (a < 0) != decide (b < 0)) ((a.natAbs : Int) / (b.natAbs : Int)) := by
  obtain ⟨e1, e2, _⟩ := cut_eq a b
  rw [Int.fdiv_eq_ediv_of_nonneg _ (by omega)] at e1 e2
  by_cases h : decide (a < 0) = decide (b < 0)
  · rw [← e1 h, h]; simp [sg]
  · rw [← e2 h]
    have : (decide (a < 0) != decide (b < 0)) = true := by simpa using h
    rw [this]; simp [sg]
theorem tmod_sg (a b : Int) : a.tmod b = sg (decide (a < 0)) ((a.natAbs : Int) % (b.natAbs : Int)) := by
  have h := Int.natAbs_tmod a b
  rw [← Int.natCast_emod, ← h]
  by_cases ha : a < 0
  · rw [decide_eq_true ha]
    have : a.tmod b ≤ 0 := by
      have := Int.tmod_nonneg (a := -a) b (by omega)
      rw [Int.neg_tmod] at this
      omega
    simp only [sg, if_true]; omega
  · rw [decide_eq_false ha]
    have : 0 ≤ a.tmod b := Int.tmod_nonneg b (by omega)
    simp only [sg, Bool.false_eq_true, if_false]; omega
theorem wide_zero {b : Int} (h : hiW b = 0) (k : loW b = 0) : b = 0 := by unfold hiW at h; unfold loW at k; omega

set_option maxRecDepth 100000 in
set_option maxHeartbeats 8000000 in
theorem truncW_zero (a : Int) (w : World) :
    Calls Tryz.prog 67 #[.agg #[.int .i64 (hiW a), .int .u64 (loW a)], .agg #[.int .i64 0, .int .u64 0]] w (RetRef w 3) := by
  have KK := (((((PairsK.nil w).more (.int .i64 (hiW a)) (.int .u64 (loW a)) 45).more (.int .i64 0) (.int .u64 0) 45).more (.int .i64 0) (.int .u64 0) 45).more (.int .i64 0) (.int .u64 0) 45)
  simp only [World.size_alloc] at KK
  go_enter Tryz.func67, Tryz.ntmps67
  go_wp2
  exact bodyPost_ret (v := .tuple #[.agg #[.int .i64 0, .int .u64 0], .agg #[.int .i64 0, .int .u64 0], .int .i64 3]) (by simp [results, Tryz.results67, go_sem]) rfl ⟨rfl, KK.hb⟩

set_option maxRecDepth 100000 in
set_option maxHeartbeats 8000000 in
theorem truncW_any (a b : Int) (ha : InW a) (hb : InW b) (hb0 : b ≠ 0) (w : World) :
    Calls Tryz.prog 67 #[.agg #[.int .i64 (hiW a), .int .u64 (loW a)], .agg #[.int .i64 (hiW b), .int .u64 (loW b)]] w (RetWWE w (a.tdiv b) (a.tmod b)) := by
  have aa := abs_w ha
  have ab := abs_w hb
  have SA := Lib.hid (fun W => sizeOf_any a ha W)
  have SB := Lib.hid (fun W => sizeOf_any b hb W)
  have SP := Lib.hid (fun W => split_any (a.natAbs : Int) (b.natAbs : Int) (by omega) (by omega) (by omega) (by omega) W)
  obtain ⟨q, hq⟩ : ∃ q : Int, q = (a.natAbs : Int) / (b.natAbs : Int) := ⟨_, rfl⟩
  obtain ⟨r, hr⟩ : ∃ r : Int, r = (a.natAbs : Int) % (b.natAbs : Int) := ⟨_, rfl⟩
  have q0 : 0 ≤ q := by rw [hq]; exact Int.ediv_nonneg (by omega) (by omega)
  have q1 : q ≤ 170141183460469231731687303715884105728 := by rw [hq]; exact Int.le_trans (Int.ediv_le_self _ (by omega)) (by omega)
  have r0 : 0 ≤ r := by rw [hr]; exact Int.emod_nonneg _ (by omega)
  have r1 : r < 170141183460469231731687303715884105728 := by rw [hr]; exact Int.lt_of_lt_of_le (Int.emod_lt_of_pos _ (by omega)) (by omega)
  have tq := tdiv_sg a b
  have tr := tmod_sg a b
  rw [← hq] at tq
  rw [← hr] at tr
  rw [← hq, ← hr] at SP
  clear hq hr
  have BA := Lib.hid (fun W => below_w a W)
  have BB := Lib.hid (fun W => below_w b W)
  have hw : hiW b = 0 → loW b = 0 → False := fun h k => hb0 (wide_zero h k)
  generalize hpa : decide (a < 0) = pa at *
  generalize hpb : decide (b < 0) = pb at *
  generalize hm : (pa != pb) = m at *
  have m1 : (!pa == pb) = m := by rw [← hm]; cases pa <;> cases pb <;> rfl
  have m2 : (pa == pb) = !m := by rw [← hm]; cases pa <;> cases pb <;> rfl
  have G1 := Lib.hid (fun W => signed_any q m q0 q1 W)
  have G2 := Lib.hid (fun W => signed_any r pa r0 (by omega) W)
  have iR : InW (a.tmod b) := by rw [tr]; unfold sg InW two127; split <;> omega
  rw [← tq] at G1
  rw [← tr] at G2
  generalize a.tdiv b = Q at *
  generalize a.tmod b = R at *
  have M1 := Lib.hid m1
  have M2 := Lib.hid m2
  clear ha hb hb0 aa ab q0 q1 r0 r1 tq tr hpa hpb hm m1 m2
  generalize (a.natAbs : Int) = na at *
  generalize (b.natAbs : Int) = nb at *
  by_cases hx : hiW b = 0
  · have hy : ¬ loW b = 0 := fun k => hw hx k
    have hy' : (loW b == 0) = false := by rw [beq_eq_false_iff_ne]; exact hy
    rw [hx] at SB BB ⊢
    clear hx hw
    go_enter Tryz.func67, Tryz.ntmps67
    go_wp2_with fail
    have KK := (((((PairsK.nil w).more (.int .i64 (hiW a)) (.int .u64 (loW a)) 45).more (.int .i64 0) (.int .u64 (loW b)) 45).more (.int .i64 0) (.int .u64 0) 45).more (.int .i64 0) (.int .u64 0) 45)
    simp only [World.size_alloc] at KK
    generalize ((((w.alloc (.cells #[.int .i64 (hiW a), .int .u64 (loW a)] 45)).alloc (.cells #[.int .i64 0, .int .u64 (loW b)] 45)).alloc (.cells #[.int .i64 0, .int .u64 0] 45)).alloc (.cells #[.int .i64 0, .int .u64 0] 45)) = w0 at *
    obtain ⟨lo, st, hlo⟩ := KK.preG (KK.tail.tail.tail.head).lt 118 (.int .u64 0) (.int .u64 0)
    have la0 : w.heap.size + 1 + 1 + 1 ≤ lo := hlo (w.heap.size + 1 + 1 + 1, .int .i64 0, .int .u64 0) (by simp)
    have la1 : w.heap.size + 1 + 1 ≤ lo := hlo (w.heap.size + 1 + 1, .int .i64 0, .int .u64 0) (by simp)
    have la2 : w.heap.size + 1 ≤ lo := hlo (w.heap.size + 1, .int .i64 0, .int .u64 (loW b)) (by simp)
    have la3 : w.heap.size ≤ lo := hlo (w.heap.size, .int .i64 (hiW a), .int .u64 (loW a)) (by simp)
    clear hlo
    go_cut [7, 8] (fun v7 v8 wx => CutTwo lo (PairsK w [(w.heap.size + 1 + 1 + 1, .int .i64 0, .int .u64 0), (w.heap.size + 1 + 1, .int .i64 0, .int .u64 0), (w.heap.size + 1, .int .i64 0, .int .u64 (loW b)), (w.heap.size, .int .i64 (hiW a), .int .u64 (loW a))]) (.int .u64 (hiW q)) (.int .u64 (loW q)) (.int .u64 (hiW r)) (.int .u64 (loW r)) v7 v8 wx)
    case first =>
      obtain ⟨_, ja0, jb0, _, _⟩ := KK.tail.tail.tail.head
      obtain ⟨_, ja1, jb1, _, _⟩ := KK.tail.tail.head
      clear KK
      have ⟨gp0, gq0⟩ := behindG st.lt la3
      have ⟨gp1, gq1⟩ := behindG st.lt la2
      go_region_held3 (fun w' => w'.cell? ⟨w.heap.size, 0, none⟩ = some (.int .i64 (hiW a)) ∧ w'.cell? ⟨w.heap.size, 1, none⟩ = some (.int .u64 (loW a)) ∧ w'.cell? ⟨w.heap.size + 1, 0, none⟩ = some (.int .i64 0) ∧ w'.cell? ⟨w.heap.size + 1, 1, none⟩ = some (.int .u64 (loW b))) (first | (with_reducible exact ⟨st.k.tail.tail.tail.head.c0, st.k.tail.tail.tail.head.c1, st.k.tail.tail.head.c0, st.k.tail.tail.head.c1⟩) | (with_reducible exact ⟨st.alloc1.k.tail.tail.tail.head.c0, st.alloc1.k.tail.tail.tail.head.c1, st.alloc1.k.tail.tail.head.c0, st.alloc1.k.tail.tail.head.c1⟩) | (with_reducible exact ⟨st.alloc2.k.tail.tail.tail.head.c0, st.alloc2.k.tail.tail.tail.head.c1, st.alloc2.k.tail.tail.head.c0, st.alloc2.k.tail.tail.head.c1⟩) | (with_reducible exact ⟨st.drew.k.tail.tail.tail.head.c0, st.drew.k.tail.tail.tail.head.c1, st.drew.k.tail.tail.head.c0, st.drew.k.tail.tail.head.c1⟩) | (with_reducible exact ⟨st.alloc1.drew.k.tail.tail.tail.head.c0, st.alloc1.drew.k.tail.tail.tail.head.c1, st.alloc1.drew.k.tail.tail.head.c0, st.alloc1.drew.k.tail.tail.head.c1⟩) | (with_reducible exact ⟨st.alloc2.drew.k.tail.tail.tail.head.c0, st.alloc2.drew.k.tail.tail.tail.head.c1, st.alloc2.drew.k.tail.tail.head.c0, st.alloc2.drew.k.tail.tail.head.c1⟩) | go_keep)
        (first
          | (go_at_call 92; (with_reducible refine (SA.out _).mono ?_); rintro e x ⟨rfl, k⟩
             with_reducible (first | replace st := st.below k | replace st := st.alloc1.below k | replace st := st.alloc2.below k | replace st := st.drew.below k | replace st := st.alloc1.drew.below k | replace st := st.alloc2.drew.below k)
             clear k
             obtain ⟨_, ka0, kb0, _, _⟩ := st.k.tail.tail.tail.head
             obtain ⟨_, ka1, kb1, _, _⟩ := st.k.tail.tail.head
             obtain ⟨gp0, gq0⟩ := behindG st.lt la3
             try obtain ⟨gr0, gs0⟩ := behindG (st.ge _ (List.mem_cons_self ..)) la3
             try obtain ⟨gt0, gu0⟩ := behindG (st.ge _ (List.mem_cons_of_mem _ (List.mem_cons_self ..))) la3
             obtain ⟨gp1, gq1⟩ := behindG st.lt la2
             try obtain ⟨gr1, gs1⟩ := behindG (st.ge _ (List.mem_cons_self ..)) la2
             try obtain ⟨gt1, gu1⟩ := behindG (st.ge _ (List.mem_cons_of_mem _ (List.mem_cons_self ..))) la2
             try obtain ⟨_, y0, y1, y2, y3⟩ := st.al _ (List.mem_cons_self ..)
             try obtain ⟨_, y4, y5, y6, y7⟩ := st.al _ (List.mem_cons_of_mem _ (List.mem_cons_self ..)))
          | (go_at_call 92; (with_reducible refine (SB.out _).mono ?_); rintro e x ⟨rfl, k⟩
             with_reducible (first | replace st := st.below k | replace st := st.alloc1.below k | replace st := st.alloc2.below k | replace st := st.drew.below k | replace st := st.alloc1.drew.below k | replace st := st.alloc2.drew.below k)
             clear k
             obtain ⟨_, ka0, kb0, _, _⟩ := st.k.tail.tail.tail.head
             obtain ⟨_, ka1, kb1, _, _⟩ := st.k.tail.tail.head
             obtain ⟨gp0, gq0⟩ := behindG st.lt la3
             try obtain ⟨gr0, gs0⟩ := behindG (st.ge _ (List.mem_cons_self ..)) la3
             try obtain ⟨gt0, gu0⟩ := behindG (st.ge _ (List.mem_cons_of_mem _ (List.mem_cons_self ..))) la3
             obtain ⟨gp1, gq1⟩ := behindG st.lt la2
             try obtain ⟨gr1, gs1⟩ := behindG (st.ge _ (List.mem_cons_self ..)) la2
             try obtain ⟨gt1, gu1⟩ := behindG (st.ge _ (List.mem_cons_of_mem _ (List.mem_cons_self ..))) la2
             try obtain ⟨_, y0, y1, y2, y3⟩ := st.al _ (List.mem_cons_self ..)
             try obtain ⟨_, y4, y5, y6, y7⟩ := st.al _ (List.mem_cons_of_mem _ (List.mem_cons_self ..)))
          | (go_at_call 91; (with_reducible refine (SP.out _).mono ?_); rintro e x ⟨rfl, k⟩
             with_reducible (first | replace st := st.below k | replace st := st.alloc1.below k | replace st := st.alloc2.below k | replace st := st.drew.below k | replace st := st.alloc1.drew.below k | replace st := st.alloc2.drew.below k)
             clear k
             obtain ⟨_, ka0, kb0, _, _⟩ := st.k.tail.tail.tail.head
             obtain ⟨_, ka1, kb1, _, _⟩ := st.k.tail.tail.head
             obtain ⟨gp0, gq0⟩ := behindG st.lt la3
             try obtain ⟨gr0, gs0⟩ := behindG (st.ge _ (List.mem_cons_self ..)) la3
             try obtain ⟨gt0, gu0⟩ := behindG (st.ge _ (List.mem_cons_of_mem _ (List.mem_cons_self ..))) la3
             obtain ⟨gp1, gq1⟩ := behindG st.lt la2
             try obtain ⟨gr1, gs1⟩ := behindG (st.ge _ (List.mem_cons_self ..)) la2
             try obtain ⟨gt1, gu1⟩ := behindG (st.ge _ (List.mem_cons_of_mem _ (List.mem_cons_self ..))) la2
             try obtain ⟨_, y0, y1, y2, y3⟩ := st.al _ (List.mem_cons_self ..)
             try obtain ⟨_, y4, y5, y6, y7⟩ := st.al _ (List.mem_cons_of_mem _ (List.mem_cons_self ..))))
      all_goals
        go_wp2_with fail
        go_meet
        refine ⟨_, _, rfl, rfl, ?_⟩
        with_reducible first | exact st.fin1a _ _ _ _ | exact st.fin1b _ _ _ _ | exact st.fin2a _ _ _ _ | exact st.fin2b _ _ _ _ | exact st.fin3a _ _ _ _ | exact st.fin3b _ _ _ _
    case rest =>
    obtain ⟨g, h, rfl, rfl, s0⟩ := hcut
    clear st
    have KK := (s0.k.cons s0.bg).cons s0.bh
    have ggg := s0.gg
    have ggh := s0.gh
    have neg := s0.ne
    have ng0 : g ≠ w.heap.size + 1 + 1 + 1 := by omega
    have nh0 : h ≠ w.heap.size + 1 + 1 + 1 := by omega
    have ng1 : g ≠ w.heap.size + 1 + 1 := by omega
    have nh1 : h ≠ w.heap.size + 1 + 1 := by omega
    have ng2 : g ≠ w.heap.size + 1 := by omega
    have nh2 : h ≠ w.heap.size + 1 := by omega
    have ng3 : g ≠ w.heap.size := by omega
    have nh3 : h ≠ w.heap.size := by omega
    clear s0 la0 la1 la2 la3 ggg ggh
    clear lo
    clear SA SB SP
    have m1 := M1.out
    have m2 := M2.out
    go_wp2_with fail
    obtain ⟨lo, st, hlo⟩ := KK.preG (KK.tail.tail.tail.tail.tail.head).lt 45 (.int .i64 0) (.int .u64 0)
    have la0 : h ≤ lo := hlo (h, .int .u64 (hiW r), .int .u64 (loW r)) (by simp)
    have la1 : g ≤ lo := hlo (g, .int .u64 (hiW q), .int .u64 (loW q)) (by simp)
    have la2 : w.heap.size + 1 + 1 + 1 ≤ lo := hlo (w.heap.size + 1 + 1 + 1, .int .i64 0, .int .u64 0) (by simp)
    have la3 : w.heap.size + 1 + 1 ≤ lo := hlo (w.heap.size + 1 + 1, .int .i64 0, .int .u64 0) (by simp)
    have la4 : w.heap.size + 1 ≤ lo := hlo (w.heap.size + 1, .int .i64 0, .int .u64 (loW b)) (by simp)
    have la5 : w.heap.size ≤ lo := hlo (w.heap.size, .int .i64 (hiW a), .int .u64 (loW a)) (by simp)
    clear hlo
    go_cut [9, 10] (fun v9 v10 wx => CutOne lo (PairsK w [(h, .int .u64 (hiW r), .int .u64 (loW r)), (g, .int .u64 (hiW q), .int .u64 (loW q)), (w.heap.size + 1 + 1 + 1, .int .i64 0, .int .u64 0), (w.heap.size + 1 + 1, .int .i64 0, .int .u64 0), (w.heap.size + 1, .int .i64 0, .int .u64 (loW b)), (w.heap.size, .int .i64 (hiW a), .int .u64 (loW a))]) (.int .i64 (hv Q)) (.int .u64 (lv Q)) v9 wx ∧ v10 = .int .i64 (ev Q))
    case first =>
      obtain ⟨_, ja0, jb0, _, _⟩ := KK.tail.head
      obtain ⟨_, ja1, jb1, _, _⟩ := KK.tail.tail.tail.tail.tail.head
      obtain ⟨_, ja2, jb2, _, _⟩ := KK.tail.tail.tail.tail.head
      clear KK
      have ⟨gp0, gq0⟩ := behindG st.lt la1
      have ⟨gp1, gq1⟩ := behindG st.lt la5
      have ⟨gp2, gq2⟩ := behindG st.lt la4
      go_region_held3 (fun w' => w'.cell? ⟨g, 0, none⟩ = some (.int .u64 (hiW q)) ∧ w'.cell? ⟨g, 1, none⟩ = some (.int .u64 (loW q)) ∧ w'.cell? ⟨w.heap.size, 0, none⟩ = some (.int .i64 (hiW a)) ∧ w'.cell? ⟨w.heap.size, 1, none⟩ = some (.int .u64 (loW a)) ∧ w'.cell? ⟨w.heap.size + 1, 0, none⟩ = some (.int .i64 0) ∧ w'.cell? ⟨w.heap.size + 1, 1, none⟩ = some (.int .u64 (loW b))) (first | (with_reducible exact ⟨st.k.tail.head.c0, st.k.tail.head.c1, st.k.tail.tail.tail.tail.tail.head.c0, st.k.tail.tail.tail.tail.tail.head.c1, st.k.tail.tail.tail.tail.head.c0, st.k.tail.tail.tail.tail.head.c1⟩) | (with_reducible exact ⟨st.alloc1.k.tail.head.c0, st.alloc1.k.tail.head.c1, st.alloc1.k.tail.tail.tail.tail.tail.head.c0, st.alloc1.k.tail.tail.tail.tail.tail.head.c1, st.alloc1.k.tail.tail.tail.tail.head.c0, st.alloc1.k.tail.tail.tail.tail.head.c1⟩) | (with_reducible exact ⟨st.alloc2.k.tail.head.c0, st.alloc2.k.tail.head.c1, st.alloc2.k.tail.tail.tail.tail.tail.head.c0, st.alloc2.k.tail.tail.tail.tail.tail.head.c1, st.alloc2.k.tail.tail.tail.tail.head.c0, st.alloc2.k.tail.tail.tail.tail.head.c1⟩) | (with_reducible exact ⟨st.drew.k.tail.head.c0, st.drew.k.tail.head.c1, st.drew.k.tail.tail.tail.tail.tail.head.c0, st.drew.k.tail.tail.tail.tail.tail.head.c1, st.drew.k.tail.tail.tail.tail.head.c0, st.drew.k.tail.tail.tail.tail.head.c1⟩) | (with_reducible exact ⟨st.alloc1.drew.k.tail.head.c0, st.alloc1.drew.k.tail.head.c1, st.alloc1.drew.k.tail.tail.tail.tail.tail.head.c0, st.alloc1.drew.k.tail.tail.tail.tail.tail.head.c1, st.alloc1.drew.k.tail.tail.tail.tail.head.c0, st.alloc1.drew.k.tail.tail.tail.tail.head.c1⟩) | (with_reducible exact ⟨st.alloc2.drew.k.tail.head.c0, st.alloc2.drew.k.tail.head.c1, st.alloc2.drew.k.tail.tail.tail.tail.tail.head.c0, st.alloc2.drew.k.tail.tail.tail.tail.tail.head.c1, st.alloc2.drew.k.tail.tail.tail.tail.head.c0, st.alloc2.drew.k.tail.tail.tail.tail.head.c1⟩) | go_keep)
        (first
          | (go_at_call 94; (with_reducible refine (BA.out _).mono ?_); rintro e x ⟨rfl, k⟩
             with_reducible (first | replace st := st.below k | replace st := st.alloc1.below k | replace st := st.alloc2.below k | replace st := st.drew.below k | replace st := st.alloc1.drew.below k | replace st := st.alloc2.drew.below k)
             clear k
             obtain ⟨_, ka0, kb0, _, _⟩ := st.k.tail.head
             obtain ⟨_, ka1, kb1, _, _⟩ := st.k.tail.tail.tail.tail.tail.head
             obtain ⟨_, ka2, kb2, _, _⟩ := st.k.tail.tail.tail.tail.head
             obtain ⟨gp0, gq0⟩ := behindG st.lt la1
             try obtain ⟨gr0, gs0⟩ := behindG (st.ge _ (List.mem_cons_self ..)) la1
             try obtain ⟨gt0, gu0⟩ := behindG (st.ge _ (List.mem_cons_of_mem _ (List.mem_cons_self ..))) la1
             obtain ⟨gp1, gq1⟩ := behindG st.lt la5
             try obtain ⟨gr1, gs1⟩ := behindG (st.ge _ (List.mem_cons_self ..)) la5
             try obtain ⟨gt1, gu1⟩ := behindG (st.ge _ (List.mem_cons_of_mem _ (List.mem_cons_self ..))) la5
             obtain ⟨gp2, gq2⟩ := behindG st.lt la4
             try obtain ⟨gr2, gs2⟩ := behindG (st.ge _ (List.mem_cons_self ..)) la4
             try obtain ⟨gt2, gu2⟩ := behindG (st.ge _ (List.mem_cons_of_mem _ (List.mem_cons_self ..))) la4
             try obtain ⟨_, y0, y1, y2, y3⟩ := st.al _ (List.mem_cons_self ..)
             try obtain ⟨_, y4, y5, y6, y7⟩ := st.al _ (List.mem_cons_of_mem _ (List.mem_cons_self ..)))
          | (go_at_call 94; (with_reducible refine (BB.out _).mono ?_); rintro e x ⟨rfl, k⟩
             with_reducible (first | replace st := st.below k | replace st := st.alloc1.below k | replace st := st.alloc2.below k | replace st := st.drew.below k | replace st := st.alloc1.drew.below k | replace st := st.alloc2.drew.below k)
             clear k
             obtain ⟨_, ka0, kb0, _, _⟩ := st.k.tail.head
             obtain ⟨_, ka1, kb1, _, _⟩ := st.k.tail.tail.tail.tail.tail.head
             obtain ⟨_, ka2, kb2, _, _⟩ := st.k.tail.tail.tail.tail.head
             obtain ⟨gp0, gq0⟩ := behindG st.lt la1
             try obtain ⟨gr0, gs0⟩ := behindG (st.ge _ (List.mem_cons_self ..)) la1
             try obtain ⟨gt0, gu0⟩ := behindG (st.ge _ (List.mem_cons_of_mem _ (List.mem_cons_self ..))) la1
             obtain ⟨gp1, gq1⟩ := behindG st.lt la5
             try obtain ⟨gr1, gs1⟩ := behindG (st.ge _ (List.mem_cons_self ..)) la5
             try obtain ⟨gt1, gu1⟩ := behindG (st.ge _ (List.mem_cons_of_mem _ (List.mem_cons_self ..))) la5
             obtain ⟨gp2, gq2⟩ := behindG st.lt la4
             try obtain ⟨gr2, gs2⟩ := behindG (st.ge _ (List.mem_cons_self ..)) la4
             try obtain ⟨gt2, gu2⟩ := behindG (st.ge _ (List.mem_cons_of_mem _ (List.mem_cons_self ..))) la4
             try obtain ⟨_, y0, y1, y2, y3⟩ := st.al _ (List.mem_cons_self ..)
             try obtain ⟨_, y4, y5, y6, y7⟩ := st.al _ (List.mem_cons_of_mem _ (List.mem_cons_self ..)))
          | (go_at_call 93; (with_reducible refine (G1.out _).mono ?_); rintro e x ⟨rfl, k⟩
             with_reducible (first | replace st := st.below k | replace st := st.alloc1.below k | replace st := st.alloc2.below k | replace st := st.drew.below k | replace st := st.alloc1.drew.below k | replace st := st.alloc2.drew.below k)
             clear k
             obtain ⟨_, ka0, kb0, _, _⟩ := st.k.tail.head
             obtain ⟨_, ka1, kb1, _, _⟩ := st.k.tail.tail.tail.tail.tail.head
             obtain ⟨_, ka2, kb2, _, _⟩ := st.k.tail.tail.tail.tail.head
             obtain ⟨gp0, gq0⟩ := behindG st.lt la1
             try obtain ⟨gr0, gs0⟩ := behindG (st.ge _ (List.mem_cons_self ..)) la1
             try obtain ⟨gt0, gu0⟩ := behindG (st.ge _ (List.mem_cons_of_mem _ (List.mem_cons_self ..))) la1
             obtain ⟨gp1, gq1⟩ := behindG st.lt la5
             try obtain ⟨gr1, gs1⟩ := behindG (st.ge _ (List.mem_cons_self ..)) la5
             try obtain ⟨gt1, gu1⟩ := behindG (st.ge _ (List.mem_cons_of_mem _ (List.mem_cons_self ..))) la5
             obtain ⟨gp2, gq2⟩ := behindG st.lt la4
             try obtain ⟨gr2, gs2⟩ := behindG (st.ge _ (List.mem_cons_self ..)) la4
             try obtain ⟨gt2, gu2⟩ := behindG (st.ge _ (List.mem_cons_of_mem _ (List.mem_cons_self ..))) la4
             try obtain ⟨_, y0, y1, y2, y3⟩ := st.al _ (List.mem_cons_self ..)
             try obtain ⟨_, y4, y5, y6, y7⟩ := st.al _ (List.mem_cons_of_mem _ (List.mem_cons_self ..))))
      all_goals
        go_wp2_with fail
        go_meet
        refine ⟨⟨_, rfl, ?_⟩, rfl⟩
        with_reducible first | exact st.one1 _ _ | exact st.one2 _ _
    case rest =>
    obtain ⟨⟨d, rfl, s0⟩, rfl⟩ := hcut
    clear st
    have KK := s0.k.cons s0.bg
    have ggd := s0.gg
    have nd0 : d ≠ h := by omega
    have nd1 : d ≠ g := by omega
    have nd2 : d ≠ w.heap.size + 1 + 1 + 1 := by omega
    have nd3 : d ≠ w.heap.size + 1 + 1 := by omega
    have nd4 : d ≠ w.heap.size + 1 := by omega
    have nd5 : d ≠ w.heap.size := by omega
    clear s0 la0 la1 la2 la3 la4 la5 ggd
    clear lo
    clear m1 m2 G1 BB
    by_cases hQ : InW Q
    · have T := Lib.hid (told_in hQ)
      have V := Lib.hid (show hv2 Q R = hv R ∧ lv2 Q R = lv R by unfold hv2 lv2; rw [if_pos hQ, if_pos hQ]; exact ⟨rfl, rfl⟩)
      rw [T.out.2.2]
      clear hQ
      go_wp2_with fail
      obtain ⟨lo, st, hlo⟩ := KK.preG (KK.tail.tail.tail.tail.tail.tail.head).lt 45 (.int .i64 0) (.int .u64 0)
      have la0 : d ≤ lo := hlo (d, .int .i64 (hv Q), .int .u64 (lv Q)) (by simp)
      have la1 : h ≤ lo := hlo (h, .int .u64 (hiW r), .int .u64 (loW r)) (by simp)
      have la2 : g ≤ lo := hlo (g, .int .u64 (hiW q), .int .u64 (loW q)) (by simp)
      have la3 : w.heap.size + 1 + 1 + 1 ≤ lo := hlo (w.heap.size + 1 + 1 + 1, .int .i64 0, .int .u64 0) (by simp)
      have la4 : w.heap.size + 1 + 1 ≤ lo := hlo (w.heap.size + 1 + 1, .int .i64 0, .int .u64 0) (by simp)
      have la5 : w.heap.size + 1 ≤ lo := hlo (w.heap.size + 1, .int .i64 0, .int .u64 (loW b)) (by simp)
      have la6 : w.heap.size ≤ lo := hlo (w.heap.size, .int .i64 (hiW a), .int .u64 (loW a)) (by simp)
      clear hlo
      go_cut [11, 12] (fun v11 v12 wx => CutOne lo (PairsK w [(d, .int .i64 (hv Q), .int .u64 (lv Q)), (h, .int .u64 (hiW r), .int .u64 (loW r)), (g, .int .u64 (hiW q), .int .u64 (loW q)), (w.heap.size + 1 + 1 + 1, .int .i64 0, .int .u64 0), (w.heap.size + 1 + 1, .int .i64 0, .int .u64 0), (w.heap.size + 1, .int .i64 0, .int .u64 (loW b)), (w.heap.size, .int .i64 (hiW a), .int .u64 (loW a))]) (.int .i64 (hv R)) (.int .u64 (lv R)) v11 wx ∧ v12 = .int .i64 (ev R))
      case first =>
        obtain ⟨_, ja0, jb0, _, _⟩ := KK.tail.head
        obtain ⟨_, ja1, jb1, _, _⟩ := KK.tail.tail.tail.tail.tail.tail.head
        clear KK
        have ⟨gp0, gq0⟩ := behindG st.lt la1
        have ⟨gp1, gq1⟩ := behindG st.lt la6
        go_region_held3 (fun w' => w'.cell? ⟨h, 0, none⟩ = some (.int .u64 (hiW r)) ∧ w'.cell? ⟨h, 1, none⟩ = some (.int .u64 (loW r)) ∧ w'.cell? ⟨w.heap.size, 0, none⟩ = some (.int .i64 (hiW a)) ∧ w'.cell? ⟨w.heap.size, 1, none⟩ = some (.int .u64 (loW a))) (first | (with_reducible exact ⟨st.k.tail.head.c0, st.k.tail.head.c1, st.k.tail.tail.tail.tail.tail.tail.head.c0, st.k.tail.tail.tail.tail.tail.tail.head.c1⟩) | (with_reducible exact ⟨st.alloc1.k.tail.head.c0, st.alloc1.k.tail.head.c1, st.alloc1.k.tail.tail.tail.tail.tail.tail.head.c0, st.alloc1.k.tail.tail.tail.tail.tail.tail.head.c1⟩) | (with_reducible exact ⟨st.alloc2.k.tail.head.c0, st.alloc2.k.tail.head.c1, st.alloc2.k.tail.tail.tail.tail.tail.tail.head.c0, st.alloc2.k.tail.tail.tail.tail.tail.tail.head.c1⟩) | (with_reducible exact ⟨st.drew.k.tail.head.c0, st.drew.k.tail.head.c1, st.drew.k.tail.tail.tail.tail.tail.tail.head.c0, st.drew.k.tail.tail.tail.tail.tail.tail.head.c1⟩) | (with_reducible exact ⟨st.alloc1.drew.k.tail.head.c0, st.alloc1.drew.k.tail.head.c1, st.alloc1.drew.k.tail.tail.tail.tail.tail.tail.head.c0, st.alloc1.drew.k.tail.tail.tail.tail.tail.tail.head.c1⟩) | (with_reducible exact ⟨st.alloc2.drew.k.tail.head.c0, st.alloc2.drew.k.tail.head.c1, st.alloc2.drew.k.tail.tail.tail.tail.tail.tail.head.c0, st.alloc2.drew.k.tail.tail.tail.tail.tail.tail.head.c1⟩) | go_keep)
          (first
            | (go_at_call 94; (with_reducible refine (BA.out _).mono ?_); rintro e x ⟨rfl, k⟩
               with_reducible (first | replace st := st.below k | replace st := st.alloc1.below k | replace st := st.alloc2.below k | replace st := st.drew.below k | replace st := st.alloc1.drew.below k | replace st := st.alloc2.drew.below k)
               clear k
               obtain ⟨_, ka0, kb0, _, _⟩ := st.k.tail.head
               obtain ⟨_, ka1, kb1, _, _⟩ := st.k.tail.tail.tail.tail.tail.tail.head
               obtain ⟨gp0, gq0⟩ := behindG st.lt la1
               try obtain ⟨gr0, gs0⟩ := behindG (st.ge _ (List.mem_cons_self ..)) la1
               try obtain ⟨gt0, gu0⟩ := behindG (st.ge _ (List.mem_cons_of_mem _ (List.mem_cons_self ..))) la1
               obtain ⟨gp1, gq1⟩ := behindG st.lt la6
               try obtain ⟨gr1, gs1⟩ := behindG (st.ge _ (List.mem_cons_self ..)) la6
               try obtain ⟨gt1, gu1⟩ := behindG (st.ge _ (List.mem_cons_of_mem _ (List.mem_cons_self ..))) la6
               try obtain ⟨_, y0, y1, y2, y3⟩ := st.al _ (List.mem_cons_self ..)
               try obtain ⟨_, y4, y5, y6, y7⟩ := st.al _ (List.mem_cons_of_mem _ (List.mem_cons_self ..)))
            | (go_at_call 93; (with_reducible refine (G2.out _).mono ?_); rintro e x ⟨rfl, k⟩
               with_reducible (first | replace st := st.below k | replace st := st.alloc1.below k | replace st := st.alloc2.below k | replace st := st.drew.below k | replace st := st.alloc1.drew.below k | replace st := st.alloc2.drew.below k)
               clear k
               obtain ⟨_, ka0, kb0, _, _⟩ := st.k.tail.head
               obtain ⟨_, ka1, kb1, _, _⟩ := st.k.tail.tail.tail.tail.tail.tail.head
               obtain ⟨gp0, gq0⟩ := behindG st.lt la1
               try obtain ⟨gr0, gs0⟩ := behindG (st.ge _ (List.mem_cons_self ..)) la1
               try obtain ⟨gt0, gu0⟩ := behindG (st.ge _ (List.mem_cons_of_mem _ (List.mem_cons_self ..))) la1
               obtain ⟨gp1, gq1⟩ := behindG st.lt la6
               try obtain ⟨gr1, gs1⟩ := behindG (st.ge _ (List.mem_cons_self ..)) la6
               try obtain ⟨gt1, gu1⟩ := behindG (st.ge _ (List.mem_cons_of_mem _ (List.mem_cons_self ..))) la6
               try obtain ⟨_, y0, y1, y2, y3⟩ := st.al _ (List.mem_cons_self ..)
               try obtain ⟨_, y4, y5, y6, y7⟩ := st.al _ (List.mem_cons_of_mem _ (List.mem_cons_self ..))))
        all_goals
          go_wp2_with fail
          go_meet
          refine ⟨⟨_, rfl, ?_⟩, rfl⟩
          with_reducible first | exact st.one1 _ _ | exact st.one2 _ _
      case rest =>
      obtain ⟨⟨f, rfl, s0⟩, rfl⟩ := hcut
      clear st
      have KK := s0.k.cons s0.bg
      have ggf := s0.gg
      have nf0 : f ≠ d := by omega
      have nf1 : f ≠ h := by omega
      have nf2 : f ≠ g := by omega
      have nf3 : f ≠ w.heap.size + 1 + 1 + 1 := by omega
      have nf4 : f ≠ w.heap.size + 1 + 1 := by omega
      have nf5 : f ≠ w.heap.size + 1 := by omega
      have nf6 : f ≠ w.heap.size := by omega
      clear s0 la0 la1 la2 la3 la4 la5 la6 ggf
      clear lo
      go_wp2_with fail
      obtain ⟨_, xa, xb, xc, xd⟩ := KK.head
      obtain ⟨_, ya, yb, yc, yd⟩ := KK.tail.head
      obtain ⟨_, sa, sb, sc, sd⟩ := KK.tail.tail.tail.tail.head
      obtain ⟨_, za, zb, zc, zd⟩ := KK.tail.tail.tail.tail.tail.head
      have o1 := Ne.symm nf4
      have o2 := Ne.symm nf3
      have o3 := Ne.symm nd3
      have o4 := Ne.symm nd2
      have i5 : w.heap.size + 1 + 1 ≠ w.heap.size + 1 + 1 + 1 := by omega
      have P2 := ((KK.tail.tail.tail.tail.tail.head.self2 (.int .i64 (hv Q)) (.int .u64 (lv Q))).far2 (Ne.symm i5) (.int .i64 (hv R)) (.int .u64 (lv R)))
      have P3 := ((KK.tail.tail.tail.tail.head.far2 i5 (.int .i64 (hv Q)) (.int .u64 (lv Q))).self2 (.int .i64 (hv R)) (.int .u64 (lv R)))
      have HB := ((((KK.hb.setCell (p := ⟨w.heap.size + 1 + 1, 0, none⟩) (by show _ ≤ w.heap.size + 1 + 1; omega) (.int .i64 (hv Q))).setCell (p := ⟨w.heap.size + 1 + 1, 1, none⟩) (by show _ ≤ w.heap.size + 1 + 1; omega) (.int .u64 (lv Q))).setCell (p := ⟨w.heap.size + 1 + 1 + 1, 0, none⟩) (by show _ ≤ w.heap.size + 1 + 1 + 1; omega) (.int .i64 (hv R))).setCell (p := ⟨w.heap.size + 1 + 1 + 1, 1, none⟩) (by show _ ≤ w.heap.size + 1 + 1 + 1; omega) (.int .u64 (lv R)))
      replace P2 := P2.drew
      replace P3 := P3.drew
      replace HB := HB.drew
      go_region
      all_goals
        go_wp2
        exact bodyPost_ret (v := .tuple #[.agg #[.int .i64 (hv Q), .int .u64 (lv Q)], .agg #[.int .i64 (hv R), .int .u64 (lv R)], .int .i64 0]) (by simp [results, Tryz.results67, go_sem, P2.c0, P2.c1, P3.c0, P3.c1]) rfl (⟨by rw [T.out.2.2, V.out.1, V.out.2], HB⟩)
    · have T := Lib.hid (told_no hQ)
      have V := Lib.hid (show hv2 Q R = 0 ∧ lv2 Q R = 0 by unfold hv2 lv2; rw [if_neg hQ, if_neg hQ]; exact ⟨rfl, rfl⟩)
      rw [T.out.2.2]
      clear hQ
      obtain ⟨_, sa, sb, sc, sd⟩ := KK.tail.tail.tail.head
      obtain ⟨_, za, zb, zc, zd⟩ := KK.tail.tail.tail.tail.head
      have i5 : w.heap.size + 1 + 1 ≠ w.heap.size + 1 + 1 + 1 := by omega
      have P2 := ((KK.tail.tail.tail.tail.head.self2 (.int .i64 0) (.int .u64 0)).far2 (Ne.symm i5) (.int .i64 0) (.int .u64 0))
      have P3 := ((KK.tail.tail.tail.head.far2 i5 (.int .i64 0) (.int .u64 0)).self2 (.int .i64 0) (.int .u64 0))
      have HB := ((((KK.hb.setCell (p := ⟨w.heap.size + 1 + 1, 0, none⟩) (by show _ ≤ w.heap.size + 1 + 1; omega) (.int .i64 0)).setCell (p := ⟨w.heap.size + 1 + 1, 1, none⟩) (by show _ ≤ w.heap.size + 1 + 1; omega) (.int .u64 0)).setCell (p := ⟨w.heap.size + 1 + 1 + 1, 0, none⟩) (by show _ ≤ w.heap.size + 1 + 1 + 1; omega) (.int .i64 0)).setCell (p := ⟨w.heap.size + 1 + 1 + 1, 1, none⟩) (by show _ ≤ w.heap.size + 1 + 1 + 1; omega) (.int .u64 0))
      go_wp2
      exact bodyPost_ret (v := .tuple #[.agg #[.int .i64 0, .int .u64 0], .agg #[.int .i64 0, .int .u64 0], .int .i64 2]) (by simp [results, Tryz.results67, go_sem, P2.c0, P2.c1, P3.c0, P3.c1]) rfl (⟨by rw [T.out.1, T.out.2.1, T.out.2.2, V.out.1, V.out.2], HB⟩)
  · have hx' : (hiW b == 0) = false := by rw [beq_eq_false_iff_ne]; exact hx
    clear hw
    go_enter Tryz.func67, Tryz.ntmps67
    go_wp2_with fail
    have KK := (((((PairsK.nil w).more (.int .i64 (hiW a)) (.int .u64 (loW a)) 45).more (.int .i64 (hiW b)) (.int .u64 (loW b)) 45).more (.int .i64 0) (.int .u64 0) 45).more (.int .i64 0) (.int .u64 0) 45)
    simp only [World.size_alloc] at KK
    generalize ((((w.alloc (.cells #[.int .i64 (hiW a), .int .u64 (loW a)] 45)).alloc (.cells #[.int .i64 (hiW b), .int .u64 (loW b)] 45)).alloc (.cells #[.int .i64 0, .int .u64 0] 45)).alloc (.cells #[.int .i64 0, .int .u64 0] 45)) = w0 at *
    obtain ⟨lo, st, hlo⟩ := KK.preG (KK.tail.tail.tail.head).lt 118 (.int .u64 0) (.int .u64 0)
    have la0 : w.heap.size + 1 + 1 + 1 ≤ lo := hlo (w.heap.size + 1 + 1 + 1, .int .i64 0, .int .u64 0) (by simp)
    have la1 : w.heap.size + 1 + 1 ≤ lo := hlo (w.heap.size + 1 + 1, .int .i64 0, .int .u64 0) (by simp)
    have la2 : w.heap.size + 1 ≤ lo := hlo (w.heap.size + 1, .int .i64 (hiW b), .int .u64 (loW b)) (by simp)
    have la3 : w.heap.size ≤ lo := hlo (w.heap.size, .int .i64 (hiW a), .int .u64 (loW a)) (by simp)
    clear hlo
    go_cut [7, 8] (fun v7 v8 wx => CutTwo lo (PairsK w [(w.heap.size + 1 + 1 + 1, .int .i64 0, .int .u64 0), (w.heap.size + 1 + 1, .int .i64 0, .int .u64 0), (w.heap.size + 1, .int .i64 (hiW b), .int .u64 (loW b)), (w.heap.size, .int .i64 (hiW a), .int .u64 (loW a))]) (.int .u64 (hiW q)) (.int .u64 (loW q)) (.int .u64 (hiW r)) (.int .u64 (loW r)) v7 v8 wx)
    case first =>
      obtain ⟨_, ja0, jb0, _, _⟩ := KK.tail.tail.tail.head
      obtain ⟨_, ja1, jb1, _, _⟩ := KK.tail.tail.head
      clear KK
      have ⟨gp0, gq0⟩ := behindG st.lt la3
      have ⟨gp1, gq1⟩ := behindG st.lt la2
      go_region_held3 (fun w' => w'.cell? ⟨w.heap.size, 0, none⟩ = some (.int .i64 (hiW a)) ∧ w'.cell? ⟨w.heap.size, 1, none⟩ = some (.int .u64 (loW a)) ∧ w'.cell? ⟨w.heap.size + 1, 0, none⟩ = some (.int .i64 (hiW b)) ∧ w'.cell? ⟨w.heap.size + 1, 1, none⟩ = some (.int .u64 (loW b))) (first | (with_reducible exact ⟨st.k.tail.tail.tail.head.c0, st.k.tail.tail.tail.head.c1, st.k.tail.tail.head.c0, st.k.tail.tail.head.c1⟩) | (with_reducible exact ⟨st.alloc1.k.tail.tail.tail.head.c0, st.alloc1.k.tail.tail.tail.head.c1, st.alloc1.k.tail.tail.head.c0, st.alloc1.k.tail.tail.head.c1⟩) | (with_reducible exact ⟨st.alloc2.k.tail.tail.tail.head.c0, st.alloc2.k.tail.tail.tail.head.c1, st.alloc2.k.tail.tail.head.c0, st.alloc2.k.tail.tail.head.c1⟩) | (with_reducible exact ⟨st.drew.k.tail.tail.tail.head.c0, st.drew.k.tail.tail.tail.head.c1, st.drew.k.tail.tail.head.c0, st.drew.k.tail.tail.head.c1⟩) | (with_reducible exact ⟨st.alloc1.drew.k.tail.tail.tail.head.c0, st.alloc1.drew.k.tail.tail.tail.head.c1, st.alloc1.drew.k.tail.tail.head.c0, st.alloc1.drew.k.tail.tail.head.c1⟩) | (with_reducible exact ⟨st.alloc2.drew.k.tail.tail.tail.head.c0, st.alloc2.drew.k.tail.tail.tail.head.c1, st.alloc2.drew.k.tail.tail.head.c0, st.alloc2.drew.k.tail.tail.head.c1⟩) | go_keep)
        (first
          | (go_at_call 92; (with_reducible refine (SA.out _).mono ?_); rintro e x ⟨rfl, k⟩
             with_reducible (first | replace st := st.below k | replace st := st.alloc1.below k | replace st := st.alloc2.below k | replace st := st.drew.below k | replace st := st.alloc1.drew.below k | replace st := st.alloc2.drew.below k)
             clear k
             obtain ⟨_, ka0, kb0, _, _⟩ := st.k.tail.tail.tail.head
             obtain ⟨_, ka1, kb1, _, _⟩ := st.k.tail.tail.head
             obtain ⟨gp0, gq0⟩ := behindG st.lt la3
             try obtain ⟨gr0, gs0⟩ := behindG (st.ge _ (List.mem_cons_self ..)) la3
             try obtain ⟨gt0, gu0⟩ := behindG (st.ge _ (List.mem_cons_of_mem _ (List.mem_cons_self ..))) la3
             obtain ⟨gp1, gq1⟩ := behindG st.lt la2
             try obtain ⟨gr1, gs1⟩ := behindG (st.ge _ (List.mem_cons_self ..)) la2
             try obtain ⟨gt1, gu1⟩ := behindG (st.ge _ (List.mem_cons_of_mem _ (List.mem_cons_self ..))) la2
             try obtain ⟨_, y0, y1, y2, y3⟩ := st.al _ (List.mem_cons_self ..)
             try obtain ⟨_, y4, y5, y6, y7⟩ := st.al _ (List.mem_cons_of_mem _ (List.mem_cons_self ..)))
          | (go_at_call 92; (with_reducible refine (SB.out _).mono ?_); rintro e x ⟨rfl, k⟩
             with_reducible (first | replace st := st.below k | replace st := st.alloc1.below k | replace st := st.alloc2.below k | replace st := st.drew.below k | replace st := st.alloc1.drew.below k | replace st := st.alloc2.drew.below k)
             clear k
             obtain ⟨_, ka0, kb0, _, _⟩ := st.k.tail.tail.tail.head
             obtain ⟨_, ka1, kb1, _, _⟩ := st.k.tail.tail.head
             obtain ⟨gp0, gq0⟩ := behindG st.lt la3
             try obtain ⟨gr0, gs0⟩ := behindG (st.ge _ (List.mem_cons_self ..)) la3
             try obtain ⟨gt0, gu0⟩ := behindG (st.ge _ (List.mem_cons_of_mem _ (List.mem_cons_self ..))) la3
             obtain ⟨gp1, gq1⟩ := behindG st.lt la2
             try obtain ⟨gr1, gs1⟩ := behindG (st.ge _ (List.mem_cons_self ..)) la2
             try obtain ⟨gt1, gu1⟩ := behindG (st.ge _ (List.mem_cons_of_mem _ (List.mem_cons_self ..))) la2
             try obtain ⟨_, y0, y1, y2, y3⟩ := st.al _ (List.mem_cons_self ..)
             try obtain ⟨_, y4, y5, y6, y7⟩ := st.al _ (List.mem_cons_of_mem _ (List.mem_cons_self ..)))
          | (go_at_call 91; (with_reducible refine (SP.out _).mono ?_); rintro e x ⟨rfl, k⟩
             with_reducible (first | replace st := st.below k | replace st := st.alloc1.below k | replace st := st.alloc2.below k | replace st := st.drew.below k | replace st := st.alloc1.drew.below k | replace st := st.alloc2.drew.below k)
             clear k
             obtain ⟨_, ka0, kb0, _, _⟩ := st.k.tail.tail.tail.head
             obtain ⟨_, ka1, kb1, _, _⟩ := st.k.tail.tail.head
             obtain ⟨gp0, gq0⟩ := behindG st.lt la3
             try obtain ⟨gr0, gs0⟩ := behindG (st.ge _ (List.mem_cons_self ..)) la3
             try obtain ⟨gt0, gu0⟩ := behindG (st.ge _ (List.mem_cons_of_mem _ (List.mem_cons_self ..))) la3
             obtain ⟨gp1, gq1⟩ := behindG st.lt la2
             try obtain ⟨gr1, gs1⟩ := behindG (st.ge _ (List.mem_cons_self ..)) la2
             try obtain ⟨gt1, gu1⟩ := behindG (st.ge _ (List.mem_cons_of_mem _ (List.mem_cons_self ..))) la2
             try obtain ⟨_, y0, y1, y2, y3⟩ := st.al _ (List.mem_cons_self ..)
             try obtain ⟨_, y4, y5, y6, y7⟩ := st.al _ (List.mem_cons_of_mem _ (List.mem_cons_self ..))))
      all_goals
        go_wp2_with fail
        go_meet
        refine ⟨_, _, rfl, rfl, ?_⟩
        with_reducible first | exact st.fin1a _ _ _ _ | exact st.fin1b _ _ _ _ | exact st.fin2a _ _ _ _ | exact st.fin2b _ _ _ _ | exact st.fin3a _ _ _ _ | exact st.fin3b _ _ _ _
    case rest =>
    obtain ⟨g, h, rfl, rfl, s0⟩ := hcut
    clear st
    have KK := (s0.k.cons s0.bg).cons s0.bh
    have ggg := s0.gg
    have ggh := s0.gh
    have neg := s0.ne
    have ng0 : g ≠ w.heap.size + 1 + 1 + 1 := by omega
    have nh0 : h ≠ w.heap.size + 1 + 1 + 1 := by omega
    have ng1 : g ≠ w.heap.size + 1 + 1 := by omega
    have nh1 : h ≠ w.heap.size + 1 + 1 := by omega
    have ng2 : g ≠ w.heap.size + 1 := by omega
    have nh2 : h ≠ w.heap.size + 1 := by omega
    have ng3 : g ≠ w.heap.size := by omega
    have nh3 : h ≠ w.heap.size := by omega
    clear s0 la0 la1 la2 la3 ggg ggh
    clear lo
    clear SA SB SP
    have m1 := M1.out
    have m2 := M2.out
    go_wp2_with fail
    obtain ⟨lo, st, hlo⟩ := KK.preG (KK.tail.tail.tail.tail.tail.head).lt 45 (.int .i64 0) (.int .u64 0)
    have la0 : h ≤ lo := hlo (h, .int .u64 (hiW r), .int .u64 (loW r)) (by simp)
    have la1 : g ≤ lo := hlo (g, .int .u64 (hiW q), .int .u64 (loW q)) (by simp)
    have la2 : w.heap.size + 1 + 1 + 1 ≤ lo := hlo (w.heap.size + 1 + 1 + 1, .int .i64 0, .int .u64 0) (by simp)
    have la3 : w.heap.size + 1 + 1 ≤ lo := hlo (w.heap.size + 1 + 1, .int .i64 0, .int .u64 0) (by simp)
    have la4 : w.heap.size + 1 ≤ lo := hlo (w.heap.size + 1, .int .i64 (hiW b), .int .u64 (loW b)) (by simp)
    have la5 : w.heap.size ≤ lo := hlo (w.heap.size, .int .i64 (hiW a), .int .u64 (loW a)) (by simp)
    clear hlo
    go_cut [9, 10] (fun v9 v10 wx => CutOne lo (PairsK w [(h, .int .u64 (hiW r), .int .u64 (loW r)), (g, .int .u64 (hiW q), .int .u64 (loW q)), (w.heap.size + 1 + 1 + 1, .int .i64 0, .int .u64 0), (w.heap.size + 1 + 1, .int .i64 0, .int .u64 0), (w.heap.size + 1, .int .i64 (hiW b), .int .u64 (loW b)), (w.heap.size, .int .i64 (hiW a), .int .u64 (loW a))]) (.int .i64 (hv Q)) (.int .u64 (lv Q)) v9 wx ∧ v10 = .int .i64 (ev Q))
    case first =>
      obtain ⟨_, ja0, jb0, _, _⟩ := KK.tail.head
      obtain ⟨_, ja1, jb1, _, _⟩ := KK.tail.tail.tail.tail.tail.head
      obtain ⟨_, ja2, jb2, _, _⟩ := KK.tail.tail.tail.tail.head
      clear KK
      have ⟨gp0, gq0⟩ := behindG st.lt la1
      have ⟨gp1, gq1⟩ := behindG st.lt la5
      have ⟨gp2, gq2⟩ := behindG st.lt la4
      go_region_held3 (fun w' => w'.cell? ⟨g, 0, none⟩ = some (.int .u64 (hiW q)) ∧ w'.cell? ⟨g, 1, none⟩ = some (.int .u64 (loW q)) ∧ w'.cell? ⟨w.heap.size, 0, none⟩ = some (.int .i64 (hiW a)) ∧ w'.cell? ⟨w.heap.size, 1, none⟩ = some (.int .u64 (loW a)) ∧ w'.cell? ⟨w.heap.size + 1, 0, none⟩ = some (.int .i64 (hiW b)) ∧ w'.cell? ⟨w.heap.size + 1, 1, none⟩ = some (.int .u64 (loW b))) (first | (with_reducible exact ⟨st.k.tail.head.c0, st.k.tail.head.c1, st.k.tail.tail.tail.tail.tail.head.c0, st.k.tail.tail.tail.tail.tail.head.c1, st.k.tail.tail.tail.tail.head.c0, st.k.tail.tail.tail.tail.head.c1⟩) | (with_reducible exact ⟨st.alloc1.k.tail.head.c0, st.alloc1.k.tail.head.c1, st.alloc1.k.tail.tail.tail.tail.tail.head.c0, st.alloc1.k.tail.tail.tail.tail.tail.head.c1, st.alloc1.k.tail.tail.tail.tail.head.c0, st.alloc1.k.tail.tail.tail.tail.head.c1⟩) | (with_reducible exact ⟨st.alloc2.k.tail.head.c0, st.alloc2.k.tail.head.c1, st.alloc2.k.tail.tail.tail.tail.tail.head.c0, st.alloc2.k.tail.tail.tail.tail.tail.head.c1, st.alloc2.k.tail.tail.tail.tail.head.c0, st.alloc2.k.tail.tail.tail.tail.head.c1⟩) | (with_reducible exact ⟨st.drew.k.tail.head.c0, st.drew.k.tail.head.c1, st.drew.k.tail.tail.tail.tail.tail.head.c0, st.drew.k.tail.tail.tail.tail.tail.head.c1, st.drew.k.tail.tail.tail.tail.head.c0, st.drew.k.tail.tail.tail.tail.head.c1⟩) | (with_reducible exact ⟨st.alloc1.drew.k.tail.head.c0, st.alloc1.drew.k.tail.head.c1, st.alloc1.drew.k.tail.tail.tail.tail.tail.head.c0, st.alloc1.drew.k.tail.tail.tail.tail.tail.head.c1, st.alloc1.drew.k.tail.tail.tail.tail.head.c0, st.alloc1.drew.k.tail.tail.tail.tail.head.c1⟩) | (with_reducible exact ⟨st.alloc2.drew.k.tail.head.c0, st.alloc2.drew.k.tail.head.c1, st.alloc2.drew.k.tail.tail.tail.tail.tail.head.c0, st.alloc2.drew.k.tail.tail.tail.tail.tail.head.c1, st.alloc2.drew.k.tail.tail.tail.tail.head.c0, st.alloc2.drew.k.tail.tail.tail.tail.head.c1⟩) | go_keep)
        (first
          | (go_at_call 94; (with_reducible refine (BA.out _).mono ?_); rintro e x ⟨rfl, k⟩
             with_reducible (first | replace st := st.below k | replace st := st.alloc1.below k | replace st := st.alloc2.below k | replace st := st.drew.below k | replace st := st.alloc1.drew.below k | replace st := st.alloc2.drew.below k)
             clear k
             obtain ⟨_, ka0, kb0, _, _⟩ := st.k.tail.head
             obtain ⟨_, ka1, kb1, _, _⟩ := st.k.tail.tail.tail.tail.tail.head
             obtain ⟨_, ka2, kb2, _, _⟩ := st.k.tail.tail.tail.tail.head
             obtain ⟨gp0, gq0⟩ := behindG st.lt la1
             try obtain ⟨gr0, gs0⟩ := behindG (st.ge _ (List.mem_cons_self ..)) la1
             try obtain ⟨gt0, gu0⟩ := behindG (st.ge _ (List.mem_cons_of_mem _ (List.mem_cons_self ..))) la1
             obtain ⟨gp1, gq1⟩ := behindG st.lt la5
             try obtain ⟨gr1, gs1⟩ := behindG (st.ge _ (List.mem_cons_self ..)) la5
             try obtain ⟨gt1, gu1⟩ := behindG (st.ge _ (List.mem_cons_of_mem _ (List.mem_cons_self ..))) la5
             obtain ⟨gp2, gq2⟩ := behindG st.lt la4
             try obtain ⟨gr2, gs2⟩ := behindG (st.ge _ (List.mem_cons_self ..)) la4
             try obtain ⟨gt2, gu2⟩ := behindG (st.ge _ (List.mem_cons_of_mem _ (List.mem_cons_self ..))) la4
             try obtain ⟨_, y0, y1, y2, y3⟩ := st.al _ (List.mem_cons_self ..)
             try obtain ⟨_, y4, y5, y6, y7⟩ := st.al _ (List.mem_cons_of_mem _ (List.mem_cons_self ..)))
          | (go_at_call 94; (with_reducible refine (BB.out _).mono ?_); rintro e x ⟨rfl, k⟩
             with_reducible (first | replace st := st.below k | replace st := st.alloc1.below k | replace st := st.alloc2.below k | replace st := st.drew.below k | replace st := st.alloc1.drew.below k | replace st := st.alloc2.drew.below k)
             clear k
             obtain ⟨_, ka0, kb0, _, _⟩ := st.k.tail.head
             obtain ⟨_, ka1, kb1, _, _⟩ := st.k.tail.tail.tail.tail.tail.head
             obtain ⟨_, ka2, kb2, _, _⟩ := st.k.tail.tail.tail.tail.head
             obtain ⟨gp0, gq0⟩ := behindG st.lt la1
             try obtain ⟨gr0, gs0⟩ := behindG (st.ge _ (List.mem_cons_self ..)) la1
             try obtain ⟨gt0, gu0⟩ := behindG (st.ge _ (List.mem_cons_of_mem _ (List.mem_cons_self ..))) la1
             obtain ⟨gp1, gq1⟩ := behindG st.lt la5
             try obtain ⟨gr1, gs1⟩ := behindG (st.ge _ (List.mem_cons_self ..)) la5
             try obtain ⟨gt1, gu1⟩ := behindG (st.ge _ (List.mem_cons_of_mem _ (List.mem_cons_self ..))) la5
             obtain ⟨gp2, gq2⟩ := behindG st.lt la4
             try obtain ⟨gr2, gs2⟩ := behindG (st.ge _ (List.mem_cons_self ..)) la4
             try obtain ⟨gt2, gu2⟩ := behindG (st.ge _ (List.mem_cons_of_mem _ (List.mem_cons_self ..))) la4
             try obtain ⟨_, y0, y1, y2, y3⟩ := st.al _ (List.mem_cons_self ..)
             try obtain ⟨_, y4, y5, y6, y7⟩ := st.al _ (List.mem_cons_of_mem _ (List.mem_cons_self ..)))
          | (go_at_call 93; (with_reducible refine (G1.out _).mono ?_); rintro e x ⟨rfl, k⟩
             with_reducible (first | replace st := st.below k | replace st := st.alloc1.below k | replace st := st.alloc2.below k | replace st := st.drew.below k | replace st := st.alloc1.drew.below k | replace st := st.alloc2.drew.below k)
             clear k
             obtain ⟨_, ka0, kb0, _, _⟩ := st.k.tail.head
             obtain ⟨_, ka1, kb1, _, _⟩ := st.k.tail.tail.tail.tail.tail.head
             obtain ⟨_, ka2, kb2, _, _⟩ := st.k.tail.tail.tail.tail.head
             obtain ⟨gp0, gq0⟩ := behindG st.lt la1
             try obtain ⟨gr0, gs0⟩ := behindG (st.ge _ (List.mem_cons_self ..)) la1
             try obtain ⟨gt0, gu0⟩ := behindG (st.ge _ (List.mem_cons_of_mem _ (List.mem_cons_self ..))) la1
             obtain ⟨gp1, gq1⟩ := behindG st.lt la5
             try obtain ⟨gr1, gs1⟩ := behindG (st.ge _ (List.mem_cons_self ..)) la5
             try obtain ⟨gt1, gu1⟩ := behindG (st.ge _ (List.mem_cons_of_mem _ (List.mem_cons_self ..))) la5
             obtain ⟨gp2, gq2⟩ := behindG st.lt la4
             try obtain ⟨gr2, gs2⟩ := behindG (st.ge _ (List.mem_cons_self ..)) la4
             try obtain ⟨gt2, gu2⟩ := behindG (st.ge _ (List.mem_cons_of_mem _ (List.mem_cons_self ..))) la4
             try obtain ⟨_, y0, y1, y2, y3⟩ := st.al _ (List.mem_cons_self ..)
             try obtain ⟨_, y4, y5, y6, y7⟩ := st.al _ (List.mem_cons_of_mem _ (List.mem_cons_self ..))))
      all_goals
        go_wp2_with fail
        go_meet
        refine ⟨⟨_, rfl, ?_⟩, rfl⟩
        with_reducible first | exact st.one1 _ _ | exact st.one2 _ _
    case rest =>
    obtain ⟨⟨d, rfl, s0⟩, rfl⟩ := hcut
    clear st
    have KK := s0.k.cons s0.bg
    have ggd := s0.gg
    have nd0 : d ≠ h := by omega
    have nd1 : d ≠ g := by omega
    have nd2 : d ≠ w.heap.size + 1 + 1 + 1 := by omega
    have nd3 : d ≠ w.heap.size + 1 + 1 := by omega
    have nd4 : d ≠ w.heap.size + 1 := by omega
    have nd5 : d ≠ w.heap.size := by omega
    clear s0 la0 la1 la2 la3 la4 la5 ggd
    clear lo
    clear m1 m2 G1 BB
    by_cases hQ : InW Q
    · have T := Lib.hid (told_in hQ)
      have V := Lib.hid (show hv2 Q R = hv R ∧ lv2 Q R = lv R by unfold hv2 lv2; rw [if_pos hQ, if_pos hQ]; exact ⟨rfl, rfl⟩)
      rw [T.out.2.2]
      clear hQ
      go_wp2_with fail
      obtain ⟨lo, st, hlo⟩ := KK.preG (KK.tail.tail.tail.tail.tail.tail.head).lt 45 (.int .i64 0) (.int .u64 0)
      have la0 : d ≤ lo := hlo (d, .int .i64 (hv Q), .int .u64 (lv Q)) (by simp)
      have la1 : h ≤ lo := hlo (h, .int .u64 (hiW r), .int .u64 (loW r)) (by simp)
      have la2 : g ≤ lo := hlo (g, .int .u64 (hiW q), .int .u64 (loW q)) (by simp)
      have la3 : w.heap.size + 1 + 1 + 1 ≤ lo := hlo (w.heap.size + 1 + 1 + 1, .int .i64 0, .int .u64 0) (by simp)
      have la4 : w.heap.size + 1 + 1 ≤ lo := hlo (w.heap.size + 1 + 1, .int .i64 0, .int .u64 0) (by simp)
      have la5 : w.heap.size + 1 ≤ lo := hlo (w.heap.size + 1, .int .i64 (hiW b), .int .u64 (loW b)) (by simp)
      have la6 : w.heap.size ≤ lo := hlo (w.heap.size, .int .i64 (hiW a), .int .u64 (loW a)) (by simp)
      clear hlo
      go_cut [11, 12] (fun v11 v12 wx => CutOne lo (PairsK w [(d, .int .i64 (hv Q), .int .u64 (lv Q)), (h, .int .u64 (hiW r), .int .u64 (loW r)), (g, .int .u64 (hiW q), .int .u64 (loW q)), (w.heap.size + 1 + 1 + 1, .int .i64 0, .int .u64 0), (w.heap.size + 1 + 1, .int .i64 0, .int .u64 0), (w.heap.size + 1, .int .i64 (hiW b), .int .u64 (loW b)), (w.heap.size, .int .i64 (hiW a), .int .u64 (loW a))]) (.int .i64 (hv R)) (.int .u64 (lv R)) v11 wx ∧ v12 = .int .i64 (ev R))
      case first =>
        obtain ⟨_, ja0, jb0, _, _⟩ := KK.tail.head
        obtain ⟨_, ja1, jb1, _, _⟩ := KK.tail.tail.tail.tail.tail.tail.head
        clear KK
        have ⟨gp0, gq0⟩ := behindG st.lt la1
        have ⟨gp1, gq1⟩ := behindG st.lt la6
        go_region_held3 (fun w' => w'.cell? ⟨h, 0, none⟩ = some (.int .u64 (hiW r)) ∧ w'.cell? ⟨h, 1, none⟩ = some (.int .u64 (loW r)) ∧ w'.cell? ⟨w.heap.size, 0, none⟩ = some (.int .i64 (hiW a)) ∧ w'.cell? ⟨w.heap.size, 1, none⟩ = some (.int .u64 (loW a))) (first | (with_reducible exact ⟨st.k.tail.head.c0, st.k.tail.head.c1, st.k.tail.tail.tail.tail.tail.tail.head.c0, st.k.tail.tail.tail.tail.tail.tail.head.c1⟩) | (with_reducible exact ⟨st.alloc1.k.tail.head.c0, st.alloc1.k.tail.head.c1, st.alloc1.k.tail.tail.tail.tail.tail.tail.head.c0, st.alloc1.k.tail.tail.tail.tail.tail.tail.head.c1⟩) | (with_reducible exact ⟨st.alloc2.k.tail.head.c0, st.alloc2.k.tail.head.c1, st.alloc2.k.tail.tail.tail.tail.tail.tail.head.c0, st.alloc2.k.tail.tail.tail.tail.tail.tail.head.c1⟩) | (with_reducible exact ⟨st.drew.k.tail.head.c0, st.drew.k.tail.head.c1, st.drew.k.tail.tail.tail.tail.tail.tail.head.c0, st.drew.k.tail.tail.tail.tail.tail.tail.head.c1⟩) | (with_reducible exact ⟨st.alloc1.drew.k.tail.head.c0, st.alloc1.drew.k.tail.head.c1, st.alloc1.drew.k.tail.tail.tail.tail.tail.tail.head.c0, st.alloc1.drew.k.tail.tail.tail.tail.tail.tail.head.c1⟩) | (with_reducible exact ⟨st.alloc2.drew.k.tail.head.c0, st.alloc2.drew.k.tail.head.c1, st.alloc2.drew.k.tail.tail.tail.tail.tail.tail.head.c0, st.alloc2.drew.k.tail.tail.tail.tail.tail.tail.head.c1⟩) | go_keep)
          (first
            | (go_at_call 94; (with_reducible refine (BA.out _).mono ?_); rintro e x ⟨rfl, k⟩
               with_reducible (first | replace st := st.below k | replace st := st.alloc1.below k | replace st := st.alloc2.below k | replace st := st.drew.below k | replace st := st.alloc1.drew.below k | replace st := st.alloc2.drew.below k)
               clear k
               obtain ⟨_, ka0, kb0, _, _⟩ := st.k.tail.head
               obtain ⟨_, ka1, kb1, _, _⟩ := st.k.tail.tail.tail.tail.tail.tail.head
               obtain ⟨gp0, gq0⟩ := behindG st.lt la1
               try obtain ⟨gr0, gs0⟩ := behindG (st.ge _ (List.mem_cons_self ..)) la1
               try obtain ⟨gt0, gu0⟩ := behindG (st.ge _ (List.mem_cons_of_mem _ (List.mem_cons_self ..))) la1
               obtain ⟨gp1, gq1⟩ := behindG st.lt la6
               try obtain ⟨gr1, gs1⟩ := behindG (st.ge _ (List.mem_cons_self ..)) la6
               try obtain ⟨gt1, gu1⟩ := behindG (st.ge _ (List.mem_cons_of_mem _ (List.mem_cons_self ..))) la6
               try obtain ⟨_, y0, y1, y2, y3⟩ := st.al _ (List.mem_cons_self ..)
               try obtain ⟨_, y4, y5, y6, y7⟩ := st.al _ (List.mem_cons_of_mem _ (List.mem_cons_self ..)))
            | (go_at_call 93; (with_reducible refine (G2.out _).mono ?_); rintro e x ⟨rfl, k⟩
               with_reducible (first | replace st := st.below k | replace st := st.alloc1.below k | replace st := st.alloc2.below k | replace st := st.drew.below k | replace st := st.alloc1.drew.below k | replace st := st.alloc2.drew.below k)
               clear k
               obtain ⟨_, ka0, kb0, _, _⟩ := st.k.tail.head
               obtain ⟨_, ka1, kb1, _, _⟩ := st.k.tail.tail.tail.tail.tail.tail.head
               obtain ⟨gp0, gq0⟩ := behindG st.lt la1
               try obtain ⟨gr0, gs0⟩ := behindG (st.ge _ (List.mem_cons_self ..)) la1
               try obtain ⟨gt0, gu0⟩ := behindG (st.ge _ (List.mem_cons_of_mem _ (List.mem_cons_self ..))) la1
               obtain ⟨gp1, gq1⟩ := behindG st.lt la6
               try obtain ⟨gr1, gs1⟩ := behindG (st.ge _ (List.mem_cons_self ..)) la6
               try obtain ⟨gt1, gu1⟩ := behindG (st.ge _ (List.mem_cons_of_mem _ (List.mem_cons_self ..))) la6
               try obtain ⟨_, y0, y1, y2, y3⟩ := st.al _ (List.mem_cons_self ..)
               try obtain ⟨_, y4, y5, y6, y7⟩ := st.al _ (List.mem_cons_of_mem _ (List.mem_cons_self ..))))
        all_goals
          go_wp2_with fail
          go_meet
          refine ⟨⟨_, rfl, ?_⟩, rfl⟩
          with_reducible first | exact st.one1 _ _ | exact st.one2 _ _
      case rest =>
      obtain ⟨⟨f, rfl, s0⟩, rfl⟩ := hcut
      clear st
      have KK := s0.k.cons s0.bg
      have ggf := s0.gg
      have nf0 : f ≠ d := by omega
      have nf1 : f ≠ h := by omega
      have nf2 : f ≠ g := by omega
      have nf3 : f ≠ w.heap.size + 1 + 1 + 1 := by omega
      have nf4 : f ≠ w.heap.size + 1 + 1 := by omega
      have nf5 : f ≠ w.heap.size + 1 := by omega
      have nf6 : f ≠ w.heap.size := by omega
      clear s0 la0 la1 la2 la3 la4 la5 la6 ggf
      clear lo
      go_wp2_with fail
      obtain ⟨_, xa, xb, xc, xd⟩ := KK.head
      obtain ⟨_, ya, yb, yc, yd⟩ := KK.tail.head
      obtain ⟨_, sa, sb, sc, sd⟩ := KK.tail.tail.tail.tail.head
      obtain ⟨_, za, zb, zc, zd⟩ := KK.tail.tail.tail.tail.tail.head
      have o1 := Ne.symm nf4
      have o2 := Ne.symm nf3
      have o3 := Ne.symm nd3
      have o4 := Ne.symm nd2
      have i5 : w.heap.size + 1 + 1 ≠ w.heap.size + 1 + 1 + 1 := by omega
      have P2 := ((KK.tail.tail.tail.tail.tail.head.self2 (.int .i64 (hv Q)) (.int .u64 (lv Q))).far2 (Ne.symm i5) (.int .i64 (hv R)) (.int .u64 (lv R)))
      have P3 := ((KK.tail.tail.tail.tail.head.far2 i5 (.int .i64 (hv Q)) (.int .u64 (lv Q))).self2 (.int .i64 (hv R)) (.int .u64 (lv R)))
      have HB := ((((KK.hb.setCell (p := ⟨w.heap.size + 1 + 1, 0, none⟩) (by show _ ≤ w.heap.size + 1 + 1; omega) (.int .i64 (hv Q))).setCell (p := ⟨w.heap.size + 1 + 1, 1, none⟩) (by show _ ≤ w.heap.size + 1 + 1; omega) (.int .u64 (lv Q))).setCell (p := ⟨w.heap.size + 1 + 1 + 1, 0, none⟩) (by show _ ≤ w.heap.size + 1 + 1 + 1; omega) (.int .i64 (hv R))).setCell (p := ⟨w.heap.size + 1 + 1 + 1, 1, none⟩) (by show _ ≤ w.heap.size + 1 + 1 + 1; omega) (.int .u64 (lv R)))
      replace P2 := P2.drew
      replace P3 := P3.drew
      replace HB := HB.drew
      go_region
      all_goals
        go_wp2
        exact bodyPost_ret (v := .tuple #[.agg #[.int .i64 (hv Q), .int .u64 (lv Q)], .agg #[.int .i64 (hv R), .int .u64 (lv R)], .int .i64 0]) (by simp [results, Tryz.results67, go_sem, P2.c0, P2.c1, P3.c0, P3.c1]) rfl (⟨by rw [T.out.2.2, V.out.1, V.out.2], HB⟩)
    · have T := Lib.hid (told_no hQ)
      have V := Lib.hid (show hv2 Q R = 0 ∧ lv2 Q R = 0 by unfold hv2 lv2; rw [if_neg hQ, if_neg hQ]; exact ⟨rfl, rfl⟩)
      rw [T.out.2.2]
      clear hQ
      obtain ⟨_, sa, sb, sc, sd⟩ := KK.tail.tail.tail.head
      obtain ⟨_, za, zb, zc, zd⟩ := KK.tail.tail.tail.tail.head
      have i5 : w.heap.size + 1 + 1 ≠ w.heap.size + 1 + 1 + 1 := by omega
      have P2 := ((KK.tail.tail.tail.tail.head.self2 (.int .i64 0) (.int .u64 0)).far2 (Ne.symm i5) (.int .i64 0) (.int .u64 0))
      have P3 := ((KK.tail.tail.tail.head.far2 i5 (.int .i64 0) (.int .u64 0)).self2 (.int .i64 0) (.int .u64 0))
      have HB := ((((KK.hb.setCell (p := ⟨w.heap.size + 1 + 1, 0, none⟩) (by show _ ≤ w.heap.size + 1 + 1; omega) (.int .i64 0)).setCell (p := ⟨w.heap.size + 1 + 1, 1, none⟩) (by show _ ≤ w.heap.size + 1 + 1; omega) (.int .u64 0)).setCell (p := ⟨w.heap.size + 1 + 1 + 1, 0, none⟩) (by show _ ≤ w.heap.size + 1 + 1 + 1; omega) (.int .i64 0)).setCell (p := ⟨w.heap.size + 1 + 1 + 1, 1, none⟩) (by show _ ≤ w.heap.size + 1 + 1 + 1; omega) (.int .u64 0))
      go_wp2
      exact bodyPost_ret (v := .tuple #[.agg #[.int .i64 0, .int .u64 0], .agg #[.int .i64 0, .int .u64 0], .int .i64 2]) (by simp [results, Tryz.results67, go_sem, P2.c0, P2.c1, P3.c0, P3.c1]) rfl (⟨by rw [T.out.1, T.out.2.1, T.out.2.2, V.out.1, V.out.2], HB⟩)
end Go.Proofs.YtlidicnbmfkghaaGreatDoor

/- Package divide's common: the greatest size by which two sizes are divided without a rest. -/
namespace Go.Proofs.YtlidicnbmfkghaaGreatDoor
open Go.RowKit

/-- the size that a block holds -/
def sizeAt (b : Nat) (W : World) : Nat :=
  match W.cell? ⟨b, 0, none⟩, W.cell? ⟨b, 1, none⟩ with
  | some (.int _ h), some (.int _ l) => (h * 18446744073709551616 + l).toNat
  | _, _ => 0
theorem sizeAt_pair {b : Nat} {W : World} {y : Int} (h : Pair W b (.int .u64 (hiW y)) (.int .u64 (loW y))) : sizeAt b W = y.toNat := by
  unfold sizeAt
  rw [h.c0, h.c1]
  have : hiW y * 18446744073709551616 + loW y = y := by unfold hiW loW; omega
  simp only [this]
theorem halfs_zero {y : Int} (h : hiW y = 0) (k : loW y = 0) : y = 0 := by unfold hiW at h; unfold loW at k; omega
theorem gcd_step (x y : Int) (h0 : 0 ≤ x) (h1 : 0 ≤ y) : Int.gcd y (x % y) = Int.gcd x y := by
  obtain ⟨x, rfl⟩ := Int.eq_ofNat_of_zero_le h0
  obtain ⟨y, rfl⟩ := Int.eq_ofNat_of_zero_le h1
  rw [← Int.natCast_emod]
  simp only [Int.gcd, Int.natAbs_natCast]
  rw [Nat.gcd_comm y, ← Nat.gcd_rec, Nat.gcd_comm]
theorem gcd_end (x : Int) (h0 : 0 ≤ x) : (Int.gcd x 0 : Int) = x := by simp; omega
theorem PairsK.swap {w W : World} {x y : Nat × Value × Value} {L : List (Nat × Value × Value)} (h : PairsK w (x :: y :: L) W) : PairsK w (y :: x :: L) W :=
  ⟨fun z hz => h.al z (by simp only [List.mem_cons] at hz ⊢; rcases hz with h | h | h; exact .inr (.inl h); exact .inl h; exact .inr (.inr h)), h.hb⟩
theorem PairsK.put {w W : World} {g : Nat} {u v : Value} {L : List (Nat × Value × Value)} (h : PairsK w ((g, u, v) :: L) W) (hg : w.heap.size ≤ g) (ne : ∀ x ∈ L, x.1 ≠ g) (u' v' : Value) :
    PairsK w ((g, u', v') :: L) ((W.setCell ⟨g, 0, none⟩ u').setCell ⟨g, 1, none⟩ v') :=
  ⟨fun z hz => by
    rcases List.mem_cons.1 hz with rfl | hz
    · exact h.head.self2 _ _
    · exact (h.al z (List.mem_cons_of_mem _ hz)).far2 (fun e => ne z hz e.symm) _ _, (h.hb.setCell (p := ⟨g, 0, none⟩) (by show _ ≤ g; omega) _).setCell (p := ⟨g, 1, none⟩) (by show _ ≤ g; omega) _⟩

theorem PairsK.two (w W : World) (x : Value × Value) (u v u' v' a b c d : Value) (h : PairsK w [(w.heap.size + 1 + 1, x.1, x.2), (w.heap.size + 1, u, v), (w.heap.size, u', v')] W) :
    PairsK w [(w.heap.size + 1 + 1, x.1, x.2), (w.heap.size + 1, c, d), (w.heap.size, a, b)] ((((W.setCell ⟨w.heap.size, 0, none⟩ a).setCell ⟨w.heap.size, 1, none⟩ b).setCell ⟨w.heap.size + 1, 0, none⟩ c).setCell ⟨w.heap.size + 1, 1, none⟩ d) :=
  ⟨fun z hz => by
    simp only [List.mem_cons, List.not_mem_nil, or_false] at hz
    rcases hz with rfl | rfl | rfl
    · exact (h.head.far2 (by omega) _ _).far2 (by omega) _ _
    · exact (h.tail.head.far2 (by omega) _ _).self2 _ _
    · exact (h.tail.tail.head.self2 _ _).far2 (by omega) _ _,
   (((h.hb.setCell (p := ⟨w.heap.size, 0, none⟩) (Nat.le_refl _) _).setCell (p := ⟨w.heap.size, 1, none⟩) (Nat.le_refl _) _).setCell (p := ⟨w.heap.size + 1, 0, none⟩) (by show _ ≤ w.heap.size + 1; omega) _).setCell (p := ⟨w.heap.size + 1, 1, none⟩) (by show _ ≤ w.heap.size + 1; omega) _⟩

/-- what holds at the head of a round -/
def ComRel (w : World) (G : Int) (W : World) : Prop := ∃ x y : Int, (Int.gcd x y : Int) = G ∧ (0 ≤ x ∧ x ≤ 170141183460469231731687303715884105728 ∧ 0 ≤ y ∧ y ≤ 170141183460469231731687303715884105728) ∧
  PairsK w [(w.heap.size + 1 + 1, .int .u64 0, .int .u64 0), (w.heap.size + 1, .int .u64 (hiW y), .int .u64 (loW y)), (w.heap.size, .int .u64 (hiW x), .int .u64 (loW x))] W

end Go.Proofs.YtlidicnbmfkghaaGreatDoor

/- Package divide's Floor, at any wide numbers: through Trunc. -/
namespace Go.Proofs.YtlidicnbmfkghaaGreatDoor
open Go.RowKit

/-- how the quotient that is rounded down comes of the one that is cut -/
theorem floor_same {a b : Int} (hb : b ≠ 0) (h : a.tmod b = 0 ∨ ord (a.tmod b) 0 = ord b 0) : a.fdiv b = a.tdiv b ∧ a.fmod b = a.tmod b := by
  have e := Int.tmod_add_mul_tdiv a b
  have l := tmod_lt a b hb
  generalize a.tmod b = U at *
  generalize a.tdiv b = T at *
  rcases Int.lt_trichotomy b 0 with k | k | k
  · refine (Int.fdiv_fmod_unique' k).2 ⟨e, by omega, ?_⟩
    rcases h with h | h
    · omega
    · rw [ord_lt k] at h
      have := (ord_iff U 0).1 (by omega)
      omega
  · exact absurd k hb
  · refine (Int.fdiv_fmod_unique k).2 ⟨e, ?_, by omega⟩
    rcases h with h | h
    · omega
    · rw [ord_gt k] at h
      rcases Int.lt_trichotomy U 0 with u | u | u
      · rw [ord_lt u] at h; omega
      · omega
      · omega
theorem floor_down {a b : Int} (hb : b ≠ 0) (h0 : a.tmod b ≠ 0) (h : ord (a.tmod b) 0 ≠ ord b 0) : a.fdiv b = a.tdiv b - 1 ∧ a.fmod b = a.tmod b + b := by
  have e := Int.tmod_add_mul_tdiv a b
  have l := tmod_lt a b hb
  generalize a.tmod b = U at *
  generalize a.tdiv b = T at *
  rcases Int.lt_trichotomy b 0 with k | k | k
  · rw [ord_lt k] at h
    have hu : 0 < U := by
      rcases Int.lt_trichotomy U 0 with u | u | u
      · exact absurd (ord_lt u) h
      · exact absurd u h0
      · exact u
    exact (Int.fdiv_fmod_unique' k).2 ⟨by rw [Int.mul_sub]; omega, by omega, by omega⟩
  · exact absurd k hb
  · rw [ord_gt k] at h
    have hu : U < 0 := by
      rcases Int.lt_trichotomy U 0 with u | u | u
      · exact u
      · exact absurd u h0
      · exact absurd (ord_gt u) h
    exact (Int.fdiv_fmod_unique k).2 ⟨by rw [Int.mul_sub]; omega, by omega, by omega⟩

/-- What a call that answers two wide numbers and an error's number leaves, by their halves. -/
def RetHalves (w : World) (x y u v e : Int) (o : Ending) (w' : World) : Prop := o = .returned (.tuple #[.agg #[.int .i64 x, .int .u64 y], .agg #[.int .i64 u, .int .u64 v], .int .i64 e]) ∧ Below w.heap.size w w'

set_option maxRecDepth 100000 in
set_option maxHeartbeats 8000000 in
theorem floorW_none (a b x y e : Int) (TR : Hid (∀ W, Calls Tryz.prog 67 #[.agg #[.int .i64 (hiW a), .int .u64 (loW a)], .agg #[.int .i64 (hiW b), .int .u64 (loW b)]] W (RetHalves W x y 0 0 e))) (w : World) :
    Calls Tryz.prog 37 #[.agg #[.int .i64 (hiW a), .int .u64 (loW a)], .agg #[.int .i64 (hiW b), .int .u64 (loW b)]] w (RetHalves w x y 0 0 e) := by
  have SU := Lib.hid (fun W => wideSign 0 W)
  rw [show hiW 0 = 0 from rfl, show loW 0 = 0 from rfl, show ord 0 0 = 0 from rfl] at SU
  go_enter Tryz.func37, Tryz.ntmps37
  go_wp2_with fail
  have KK := (((((PairsK.nil w).more (.int .i64 (hiW a)) (.int .u64 (loW a)) 45).more (.int .i64 (hiW b)) (.int .u64 (loW b)) 45).more (.int .i64 0) (.int .u64 0) 45).more (.int .i64 0) (.int .u64 0) 45)
  simp only [World.size_alloc] at KK
  generalize ((((w.alloc (.cells #[.int .i64 (hiW a), .int .u64 (loW a)] 45)).alloc (.cells #[.int .i64 (hiW b), .int .u64 (loW b)] 45)).alloc (.cells #[.int .i64 0, .int .u64 0] 45)).alloc (.cells #[.int .i64 0, .int .u64 0] 45)) = w0 at *
  refine (TR.out _).mono ?_
  rintro o w1 ⟨rfl, k⟩
  replace KK := KK.below k
  clear k
  go_wp2_with fail
  have hl := KK.head.lt
  have hlg : w.heap.size ≤ w1.heap.size := by omega
  replace KK := (KK.more (.int .i64 x) (.int .u64 y) 45).more (.int .i64 0) (.int .u64 0) 45
  rw [World.size_alloc] at KK
  generalize (w1.alloc (.cells #[.int .i64 x, .int .u64 y] 45)).alloc (.cells #[.int .i64 0, .int .u64 0] 45) = w2 at *
  have n0 : w1.heap.size ≠ w.heap.size ∧ w1.heap.size + 1 ≠ w.heap.size := by omega
  have n1 : w1.heap.size ≠ w.heap.size + 1 ∧ w1.heap.size + 1 ≠ w.heap.size + 1 := by omega
  have n2 : w1.heap.size ≠ w.heap.size + 1 + 1 ∧ w1.heap.size + 1 ≠ w.heap.size + 1 + 1 := by omega
  have n3 : w1.heap.size ≠ w.heap.size + 1 + 1 + 1 ∧ w1.heap.size + 1 ≠ w.heap.size + 1 + 1 + 1 := by omega
  generalize w1.heap.size = g at *
  clear hl
  obtain ⟨na0, nb0⟩ := n0
  have nc0 := Ne.symm na0
  have nd0 := Ne.symm nb0
  obtain ⟨na1, nb1⟩ := n1
  have nc1 := Ne.symm na1
  have nd1 := Ne.symm nb1
  obtain ⟨na2, nb2⟩ := n2
  have nc2 := Ne.symm na2
  have nd2 := Ne.symm nb2
  obtain ⟨na3, nb3⟩ := n3
  have nc3 := Ne.symm na3
  have nd3 := Ne.symm nb3
  refine (SU.out _).mono ?_
  rintro o w3 ⟨rfl, k⟩
  replace KK := KK.below k
  clear k
  go_wp2_with fail
  obtain ⟨_, pa, pb, pc, pd⟩ := KK.head
  obtain ⟨_, qa, qb, qc, qd⟩ := KK.tail.head
  obtain ⟨_, sa, sb, sc, sd⟩ := KK.tail.tail.head
  obtain ⟨_, za, zb, zc, zd⟩ := KK.tail.tail.tail.head
  have i5 : w.heap.size + 1 + 1 ≠ w.heap.size + 1 + 1 + 1 := by omega
  have P2 := ((KK.tail.tail.tail.head.self2 (.int .i64 x) (.int .u64 y)).far2 (Ne.symm i5) (.int .i64 0) (.int .u64 0))
  have P3 := ((KK.tail.tail.head.far2 i5 (.int .i64 x) (.int .u64 y)).self2 (.int .i64 0) (.int .u64 0))
  have HB := ((((KK.hb.setCell (p := ⟨w.heap.size + 1 + 1, 0, none⟩) (by show _ ≤ w.heap.size + 1 + 1; omega) (.int .i64 x)).setCell (p := ⟨w.heap.size + 1 + 1, 1, none⟩) (by show _ ≤ w.heap.size + 1 + 1; omega) (.int .u64 y)).setCell (p := ⟨w.heap.size + 1 + 1 + 1, 0, none⟩) (by show _ ≤ w.heap.size + 1 + 1 + 1; omega) (.int .i64 0)).setCell (p := ⟨w.heap.size + 1 + 1 + 1, 1, none⟩) (by show _ ≤ w.heap.size + 1 + 1 + 1; omega) (.int .u64 0))
  replace P2 := P2.drew
  replace P3 := P3.drew
  replace HB := HB.drew
  go_region
  all_goals
    go_wp2
    exact bodyPost_ret (v := .tuple #[.agg #[.int .i64 x, .int .u64 y], .agg #[.int .i64 0, .int .u64 0], .int .i64 e]) (by simp [results, Tryz.results37, go_sem, P2.c0, P2.c1, P3.c0, P3.c1]) rfl (⟨rfl, HB⟩)

set_option maxRecDepth 100000 in
set_option maxHeartbeats 8000000 in
theorem floorW_same (a b x y e U : Int) (TR : Hid (∀ W, Calls Tryz.prog 67 #[.agg #[.int .i64 (hiW a), .int .u64 (loW a)], .agg #[.int .i64 (hiW b), .int .u64 (loW b)]] W (RetHalves W x y (hiW U) (loW U) e))) (s : Int) (hs : (s == 0) = false) (SU : Hid (∀ W, Calls Tryz.prog 36 #[.agg #[.int .i64 (hiW U), .int .u64 (loW U)]] W (RetV W (.int .i64 s)))) (SB : Hid (∀ W, Calls Tryz.prog 36 #[.agg #[.int .i64 (hiW b), .int .u64 (loW b)]] W (RetV W (.int .i64 s)))) (w : World) :
    Calls Tryz.prog 37 #[.agg #[.int .i64 (hiW a), .int .u64 (loW a)], .agg #[.int .i64 (hiW b), .int .u64 (loW b)]] w (RetHalves w x y (hiW U) (loW U) e) := by
  go_enter Tryz.func37, Tryz.ntmps37
  go_wp2_with fail
  have KK := (((((PairsK.nil w).more (.int .i64 (hiW a)) (.int .u64 (loW a)) 45).more (.int .i64 (hiW b)) (.int .u64 (loW b)) 45).more (.int .i64 0) (.int .u64 0) 45).more (.int .i64 0) (.int .u64 0) 45)
  simp only [World.size_alloc] at KK
  generalize ((((w.alloc (.cells #[.int .i64 (hiW a), .int .u64 (loW a)] 45)).alloc (.cells #[.int .i64 (hiW b), .int .u64 (loW b)] 45)).alloc (.cells #[.int .i64 0, .int .u64 0] 45)).alloc (.cells #[.int .i64 0, .int .u64 0] 45)) = w0 at *
  refine (TR.out _).mono ?_
  rintro o w1 ⟨rfl, k⟩
  replace KK := KK.below k
  clear k
  go_wp2_with fail
  have hl := KK.head.lt
  have hlg : w.heap.size ≤ w1.heap.size := by omega
  replace KK := (KK.more (.int .i64 x) (.int .u64 y) 45).more (.int .i64 (hiW U)) (.int .u64 (loW U)) 45
  rw [World.size_alloc] at KK
  generalize (w1.alloc (.cells #[.int .i64 x, .int .u64 y] 45)).alloc (.cells #[.int .i64 (hiW U), .int .u64 (loW U)] 45) = w2 at *
  have n0 : w1.heap.size ≠ w.heap.size ∧ w1.heap.size + 1 ≠ w.heap.size := by omega
  have n1 : w1.heap.size ≠ w.heap.size + 1 ∧ w1.heap.size + 1 ≠ w.heap.size + 1 := by omega
  have n2 : w1.heap.size ≠ w.heap.size + 1 + 1 ∧ w1.heap.size + 1 ≠ w.heap.size + 1 + 1 := by omega
  have n3 : w1.heap.size ≠ w.heap.size + 1 + 1 + 1 ∧ w1.heap.size + 1 ≠ w.heap.size + 1 + 1 + 1 := by omega
  generalize w1.heap.size = g at *
  clear hl
  obtain ⟨na0, nb0⟩ := n0
  have nc0 := Ne.symm na0
  have nd0 := Ne.symm nb0
  obtain ⟨na1, nb1⟩ := n1
  have nc1 := Ne.symm na1
  have nd1 := Ne.symm nb1
  obtain ⟨na2, nb2⟩ := n2
  have nc2 := Ne.symm na2
  have nd2 := Ne.symm nb2
  obtain ⟨na3, nb3⟩ := n3
  have nc3 := Ne.symm na3
  have nd3 := Ne.symm nb3
  refine (SU.out _).mono ?_
  rintro o w3 ⟨rfl, k⟩
  replace KK := KK.below k
  clear k
  obtain ⟨_, b0, b1, _, _⟩ := KK.tail.tail.tail.tail.head
  go_wp2_with fail
  refine (SB.out _).mono ?_
  rintro o w4 ⟨rfl, k⟩
  replace KK := KK.below k
  clear k b0 b1
  go_wp2_with fail
  obtain ⟨_, pa, pb, pc, pd⟩ := KK.head
  obtain ⟨_, qa, qb, qc, qd⟩ := KK.tail.head
  obtain ⟨_, sa, sb, sc, sd⟩ := KK.tail.tail.head
  obtain ⟨_, za, zb, zc, zd⟩ := KK.tail.tail.tail.head
  have i5 : w.heap.size + 1 + 1 ≠ w.heap.size + 1 + 1 + 1 := by omega
  have P2 := ((KK.tail.tail.tail.head.self2 (.int .i64 x) (.int .u64 y)).far2 (Ne.symm i5) (.int .i64 (hiW U)) (.int .u64 (loW U)))
  have P3 := ((KK.tail.tail.head.far2 i5 (.int .i64 x) (.int .u64 y)).self2 (.int .i64 (hiW U)) (.int .u64 (loW U)))
  have HB := ((((KK.hb.setCell (p := ⟨w.heap.size + 1 + 1, 0, none⟩) (by show _ ≤ w.heap.size + 1 + 1; omega) (.int .i64 x)).setCell (p := ⟨w.heap.size + 1 + 1, 1, none⟩) (by show _ ≤ w.heap.size + 1 + 1; omega) (.int .u64 y)).setCell (p := ⟨w.heap.size + 1 + 1 + 1, 0, none⟩) (by show _ ≤ w.heap.size + 1 + 1 + 1; omega) (.int .i64 (hiW U))).setCell (p := ⟨w.heap.size + 1 + 1 + 1, 1, none⟩) (by show _ ≤ w.heap.size + 1 + 1 + 1; omega) (.int .u64 (loW U)))
  replace P2 := P2.drew
  replace P3 := P3.drew
  replace HB := HB.drew
  go_region
  all_goals
    go_wp2
    exact bodyPost_ret (v := .tuple #[.agg #[.int .i64 x, .int .u64 y], .agg #[.int .i64 (hiW U), .int .u64 (loW U)], .int .i64 e]) (by simp [results, Tryz.results37, go_sem, P2.c0, P2.c1, P3.c0, P3.c1]) rfl (⟨rfl, HB⟩)

set_option maxRecDepth 100000 in
set_option maxHeartbeats 8000000 in
theorem floorW_down (a b Tq U : Int) (TR : Hid (∀ W, Calls Tryz.prog 67 #[.agg #[.int .i64 (hiW a), .int .u64 (loW a)], .agg #[.int .i64 (hiW b), .int .u64 (loW b)]] W (RetHalves W (hiW Tq) (loW Tq) (hiW U) (loW U) 0))) (s t : Int) (hs : (s == 0) = false) (ht : (s == t) = false) (SU : Hid (∀ W, Calls Tryz.prog 36 #[.agg #[.int .i64 (hiW U), .int .u64 (loW U)]] W (RetV W (.int .i64 s)))) (SB : Hid (∀ W, Calls Tryz.prog 36 #[.agg #[.int .i64 (hiW b), .int .u64 (loW b)]] W (RetV W (.int .i64 t)))) (iT : InW Tq) (iD : InW (Tq - 1)) (iU : InW U) (ib : InW b) (iS : InW (U + b)) (w : World) :
    Calls Tryz.prog 37 #[.agg #[.int .i64 (hiW a), .int .u64 (loW a)], .agg #[.int .i64 (hiW b), .int .u64 (loW b)]] w (RetHalves w (hiW (Tq - 1)) (loW (Tq - 1)) (hiW (U + b)) (loW (U + b)) 0) := by
  have ON := Lib.hid (fun W => wideOf 1 (by decide) W)
  have SD := Lib.hid (fun W => wideSub Tq 1 iT (inW_of_64 (by decide)) W)
  have AD := Lib.hid (fun W => wideAdd U b iU ib W)
  have TD := Lib.hid (told_in iD)
  have TS := Lib.hid (told_in iS)
  generalize Tq - 1 = D at *
  generalize U + b = E at *
  clear iT iD iU ib iS
  go_enter Tryz.func37, Tryz.ntmps37
  go_wp2_with fail
  have KK := (((((PairsK.nil w).more (.int .i64 (hiW a)) (.int .u64 (loW a)) 45).more (.int .i64 (hiW b)) (.int .u64 (loW b)) 45).more (.int .i64 0) (.int .u64 0) 45).more (.int .i64 0) (.int .u64 0) 45)
  simp only [World.size_alloc] at KK
  generalize ((((w.alloc (.cells #[.int .i64 (hiW a), .int .u64 (loW a)] 45)).alloc (.cells #[.int .i64 (hiW b), .int .u64 (loW b)] 45)).alloc (.cells #[.int .i64 0, .int .u64 0] 45)).alloc (.cells #[.int .i64 0, .int .u64 0] 45)) = w0 at *
  refine (TR.out _).mono ?_
  rintro o w1 ⟨rfl, k⟩
  replace KK := KK.below k
  clear k
  go_wp2_with fail
  have hl := KK.head.lt
  have hlg : w.heap.size ≤ w1.heap.size := by omega
  replace KK := (KK.more (.int .i64 (hiW Tq)) (.int .u64 (loW Tq)) 45).more (.int .i64 (hiW U)) (.int .u64 (loW U)) 45
  rw [World.size_alloc] at KK
  generalize (w1.alloc (.cells #[.int .i64 (hiW Tq), .int .u64 (loW Tq)] 45)).alloc (.cells #[.int .i64 (hiW U), .int .u64 (loW U)] 45) = w2 at *
  have n0 : w1.heap.size ≠ w.heap.size ∧ w1.heap.size + 1 ≠ w.heap.size := by omega
  have n1 : w1.heap.size ≠ w.heap.size + 1 ∧ w1.heap.size + 1 ≠ w.heap.size + 1 := by omega
  have n2 : w1.heap.size ≠ w.heap.size + 1 + 1 ∧ w1.heap.size + 1 ≠ w.heap.size + 1 + 1 := by omega
  have n3 : w1.heap.size ≠ w.heap.size + 1 + 1 + 1 ∧ w1.heap.size + 1 ≠ w.heap.size + 1 + 1 + 1 := by omega
  generalize w1.heap.size = g at *
  clear hl
  obtain ⟨na0, nb0⟩ := n0
  have nc0 := Ne.symm na0
  have nd0 := Ne.symm nb0
  obtain ⟨na1, nb1⟩ := n1
  have nc1 := Ne.symm na1
  have nd1 := Ne.symm nb1
  obtain ⟨na2, nb2⟩ := n2
  have nc2 := Ne.symm na2
  have nd2 := Ne.symm nb2
  obtain ⟨na3, nb3⟩ := n3
  have nc3 := Ne.symm na3
  have nd3 := Ne.symm nb3
  refine (SU.out _).mono ?_
  rintro o w3 ⟨rfl, k⟩
  replace KK := KK.below k
  clear k
  obtain ⟨_, b0, b1, _, _⟩ := KK.tail.tail.tail.tail.head
  go_wp2_with fail
  refine (SB.out _).mono ?_
  rintro o w4 ⟨rfl, k⟩
  replace KK := KK.below k
  clear k b0 b1
  go_wp2_with fail
  obtain ⟨_, q0, q1, _, _⟩ := KK.tail.head
  go_cut [] (fun wx => PairsK w [(g, .int .i64 (hiW D), .int .u64 (loW D)), (g + 1, .int .i64 (hiW U), .int .u64 (loW U)), (w.heap.size + 1 + 1 + 1, .int .i64 0, .int .u64 0), (w.heap.size + 1 + 1, .int .i64 0, .int .u64 0), (w.heap.size + 1, .int .i64 (hiW b), .int .u64 (loW b)), (w.heap.size, .int .i64 (hiW a), .int .u64 (loW a))] wx)
  case first =>
    go_region_with (first
      | (go_at_call 15; (with_reducible refine (ON.out _).mono ?_); rintro o w5 ⟨rfl, k⟩
         have K5 := KK.drew.below k
         clear k
         obtain ⟨_, q2, q3, _, _⟩ := K5.tail.head)
      | (go_at_call 39; (with_reducible refine (SD.out _).mono ?_); rintro o w6 ⟨rfl, k⟩
         rw [TD.out.1, TD.out.2.1]
         have K6 := K5.below k
         clear k
         obtain ⟨_, q4, q5, q6, q7⟩ := K6.tail.head))
    all_goals
      go_wp2_with fail
      go_meet
      exact K6.swap.put (by have := K6.hb.size; omega) (by simp <;> omega) _ _
  case rest =>
  clear KK q0 q1
  have KK := hcut.swap
  clear hcut
  obtain ⟨_, u0, u1, u2, u3⟩ := KK.head
  obtain ⟨_, b0, b1, _, _⟩ := KK.tail.tail.tail.tail.head
  go_wp2_with fail
  refine (AD.out _).mono ?_
  rintro o w7 ⟨rfl, k⟩
  rw [TS.out.1, TS.out.2.1]
  replace KK := KK.below k
  clear k u0 u1 u2 u3 b0 b1
  obtain ⟨_, u0, u1, u2, u3⟩ := KK.head
  go_wp2_with fail
  replace KK := KK.put (by omega) (by simp <;> omega) (.int .i64 (hiW E)) (.int .u64 (loW E))
  clear u0 u1 u2 u3
  generalize (w7.setCell ⟨g + 1, 0, none⟩ (.int .i64 (hiW E))).setCell ⟨g + 1, 1, none⟩ (.int .u64 (loW E)) = w8 at *
  obtain ⟨_, pa, pb, pc, pd⟩ := KK.head
  obtain ⟨_, qa, qb, qc, qd⟩ := KK.tail.head
  obtain ⟨_, sa, sb, sc, sd⟩ := KK.tail.tail.head
  obtain ⟨_, za, zb, zc, zd⟩ := KK.tail.tail.tail.head
  have i5 : w.heap.size + 1 + 1 ≠ w.heap.size + 1 + 1 + 1 := by omega
  have P2 := ((KK.tail.tail.tail.head.self2 (.int .i64 (hiW D)) (.int .u64 (loW D))).far2 (Ne.symm i5) (.int .i64 (hiW E)) (.int .u64 (loW E)))
  have P3 := ((KK.tail.tail.head.far2 i5 (.int .i64 (hiW D)) (.int .u64 (loW D))).self2 (.int .i64 (hiW E)) (.int .u64 (loW E)))
  have HB := ((((KK.hb.setCell (p := ⟨w.heap.size + 1 + 1, 0, none⟩) (by show _ ≤ w.heap.size + 1 + 1; omega) (.int .i64 (hiW D))).setCell (p := ⟨w.heap.size + 1 + 1, 1, none⟩) (by show _ ≤ w.heap.size + 1 + 1; omega) (.int .u64 (loW D))).setCell (p := ⟨w.heap.size + 1 + 1 + 1, 0, none⟩) (by show _ ≤ w.heap.size + 1 + 1 + 1; omega) (.int .i64 (hiW E))).setCell (p := ⟨w.heap.size + 1 + 1 + 1, 1, none⟩) (by show _ ≤ w.heap.size + 1 + 1 + 1; omega) (.int .u64 (loW E)))
  replace P2 := P2.drew
  replace P3 := P3.drew
  replace HB := HB.drew
  go_region
  all_goals
    go_wp2
    exact bodyPost_ret (v := .tuple #[.agg #[.int .i64 (hiW D), .int .u64 (loW D)], .agg #[.int .i64 (hiW E), .int .u64 (loW E)], .int .i64 0]) (by simp [results, Tryz.results37, go_sem, P2.c0, P2.c1, P3.c0, P3.c1]) rfl (⟨rfl, HB⟩)

/-- a cut quotient that is no wide number leaves no rest -/
theorem tdiv_over {a b : Int} (ha : InW a) (hb0 : b ≠ 0) (h : ¬ InW (a.tdiv b)) : a.tmod b = 0 := by
  have e := Int.tmod_add_mul_tdiv a b
  have l := tmod_lt a b hb0
  have q := tdiv_le a b
  have aa := abs_w ha
  generalize a.tmod b = U at *
  have ht : a.tdiv b = 170141183460469231731687303715884105728 := by unfold InW two127 at h; omega
  rw [ht] at e
  omega
theorem tmod_in {a b : Int} (hb : InW b) (hb0 : b ≠ 0) : InW (a.tmod b) := by
  have l := tmod_lt a b hb0
  have ab := abs_w hb
  unfold InW two127; omega
theorem down_in {a b : Int} (ha : InW a) (hb : InW b) (hb0 : b ≠ 0) (iT : InW (a.tdiv b)) (h0 : a.tmod b ≠ 0) (h : ord (a.tmod b) 0 ≠ ord b 0) : InW (a.tdiv b - 1) ∧ InW (a.tmod b + b) := by
  have e := Int.tmod_add_mul_tdiv a b
  have l := tmod_lt a b hb0
  have aa := abs_w ha
  have ab := abs_w hb
  have iU := tmod_in (a := a) hb hb0
  generalize a.tmod b = U at *
  have hs : U < 0 ∧ 0 < b ∨ 0 < U ∧ b < 0 := by
    rcases Int.lt_trichotomy U 0 with u | u | u
    · rcases Int.lt_trichotomy b 0 with k | k | k
      · exact absurd ((ord_lt u).trans (ord_lt k).symm) h
      · exact absurd k hb0
      · exact .inl ⟨u, k⟩
    · exact absurd u h0
    · rcases Int.lt_trichotomy b 0 with k | k | k
      · exact .inr ⟨u, k⟩
      · exact absurd k hb0
      · exact absurd ((ord_gt u).trans (ord_gt k).symm) h
  refine ⟨?_, by unfold InW two127 at *; omega⟩
  by_cases ht : a.tdiv b = -170141183460469231731687303715884105728
  · rw [ht] at e; omega
  · unfold InW two127 at *; omega

theorem floorW_any (a b : Int) (ha : InW a) (hb : InW b) (hb0 : b ≠ 0) (w : World) :
    Calls Tryz.prog 37 #[.agg #[.int .i64 (hiW a), .int .u64 (loW a)], .agg #[.int .i64 (hiW b), .int .u64 (loW b)]] w (RetWWE w (a.fdiv b) (a.fmod b)) := by
  have TR := fun W => truncW_any a b ha hb hb0 W
  by_cases iT : InW (a.tdiv b)
  · have iU := tmod_in (a := a) hb hb0
    obtain ⟨t1, t2, t3⟩ := told_in iT
    obtain ⟨u1, u2, _⟩ := told_in iU
    have TH : ∀ W, Calls Tryz.prog 67 #[.agg #[.int .i64 (hiW a), .int .u64 (loW a)], .agg #[.int .i64 (hiW b), .int .u64 (loW b)]] W (RetHalves W (hiW (a.tdiv b)) (loW (a.tdiv b)) (hiW (a.tmod b)) (loW (a.tmod b)) 0) := fun W => (TR W).mono fun e w' ⟨h1, h2⟩ => ⟨by rw [h1]; unfold hv2 lv2; rw [if_pos iT, if_pos iT, t1, t2, t3, u1, u2], h2⟩
    by_cases h : a.tmod b = 0 ∨ ord (a.tmod b) 0 = ord b 0
    · obtain ⟨f1, f2⟩ := floor_same hb0 h
      have fin : ∀ e w', RetHalves w (hiW (a.tdiv b)) (loW (a.tdiv b)) (hiW (a.tmod b)) (loW (a.tmod b)) 0 e w' → RetWWE w (a.fdiv b) (a.fmod b) e w' := fun e w' ⟨h1, h2⟩ => ⟨by rw [h1, f1, f2]; unfold hv2 lv2; rw [if_pos iT, if_pos iT, t1, t2, t3, u1, u2], h2⟩
      by_cases h0 : a.tmod b = 0
      · rw [h0] at TH fin
        exact (floorW_none a b _ _ 0 (Lib.hid TH) w).mono fin
      · have hs : ord (a.tmod b) 0 = ord b 0 := h.resolve_left h0
        refine (floorW_same a b _ _ 0 (a.tmod b) (Lib.hid TH) (ord b 0) ?_ (Lib.hid fun W => by rw [← hs]; exact wideSign _ W) (Lib.hid fun W => wideSign _ W) w).mono fin
        rw [beq_eq_false_iff_ne]
        rcases Int.lt_trichotomy b 0 with k | k | k
        · rw [ord_lt k]; decide
        · exact absurd k hb0
        · rw [ord_gt k]; decide
    · have h0 : a.tmod b ≠ 0 := fun e => h (.inl e)
      have hs : ord (a.tmod b) 0 ≠ ord b 0 := fun e => h (.inr e)
      obtain ⟨f1, f2⟩ := floor_down hb0 h0 hs
      obtain ⟨iD, iS⟩ := down_in ha hb hb0 iT h0 hs
      obtain ⟨d1, d2, d3⟩ := told_in iD
      obtain ⟨s1, s2, _⟩ := told_in iS
      refine (floorW_down a b _ (a.tmod b) (Lib.hid TH) (ord (a.tmod b) 0) (ord b 0) ?_ ?_ (Lib.hid fun W => wideSign _ W) (Lib.hid fun W => wideSign _ W) iT iD iU hb iS w).mono fun e w' ⟨h1, h2⟩ => ⟨by rw [h1, f1, f2]; unfold hv2 lv2; rw [if_pos iD, if_pos iD, d1, d2, d3, s1, s2], h2⟩
      · rw [beq_eq_false_iff_ne]
        rcases Int.lt_trichotomy (a.tmod b) 0 with k | k | k
        · rw [ord_lt k]; decide
        · exact absurd k h0
        · rw [ord_gt k]; decide
      · rw [beq_eq_false_iff_ne]; exact hs
  · have h0 := tdiv_over ha hb0 iT
    obtain ⟨f1, f2⟩ := floor_same hb0 (.inl h0)
    obtain ⟨t1, t2, t3⟩ := told_no iT
    have TH : ∀ W, Calls Tryz.prog 67 #[.agg #[.int .i64 (hiW a), .int .u64 (loW a)], .agg #[.int .i64 (hiW b), .int .u64 (loW b)]] W (RetHalves W 0 0 0 0 2) := fun W => (TR W).mono fun e w' ⟨h1, h2⟩ => ⟨by rw [h1]; unfold hv2 lv2; rw [if_neg iT, if_neg iT, t1, t2, t3], h2⟩
    exact (floorW_none a b 0 0 2 (Lib.hid TH) w).mono fun e w' ⟨h1, h2⟩ => ⟨by rw [h1, f1, f2]; unfold hv2 lv2; rw [if_neg iT, if_neg iT, t1, t2, t3], h2⟩
theorem floorW_zero (a : Int) (w : World) : Calls Tryz.prog 37 #[.agg #[.int .i64 (hiW a), .int .u64 (loW a)], .agg #[.int .i64 0, .int .u64 0]] w (RetRef w 3) := by
  have TH : ∀ W, Calls Tryz.prog 67 #[.agg #[.int .i64 (hiW a), .int .u64 (loW a)], .agg #[.int .i64 (hiW 0), .int .u64 (loW 0)]] W (RetHalves W 0 0 0 0 3) := fun W => (truncW_zero a W).mono fun e w' ⟨h1, h2⟩ => ⟨h1, h2⟩
  exact (floorW_none a 0 0 0 3 (Lib.hid TH) w).mono fun e w' ⟨h1, h2⟩ => ⟨h1, h2⟩
end Go.Proofs.YtlidicnbmfkghaaGreatDoor

/- Package divide's By and Gcd, at any wide numbers. -/
namespace Go.Proofs.YtlidicnbmfkghaaGreatDoor
open Go.RowKit

/-- What By leaves. -/
def RetBy (w : World) (x y r e : Int) (o : Ending) (w' : World) : Prop := o = .returned (.tuple #[.agg #[.int .i64 x, .int .u64 y], .int .i64 r, .int .i64 e]) ∧ Below w.heap.size w w'
theorem by_in {a n : Int} (ha : InW a) (hn : In64 n) (h0 : 0 < n) : InW (a.fdiv n) ∧ In64 (a.fmod n) ∧ InW (a.fmod n) := by
  have q := (fdiv_le a n (by omega)).1
  have aa := abs_w ha
  have r0 := Int.fmod_nonneg_of_pos a h0
  have r1 := Int.fmod_lt_of_pos a h0
  have e := Int.fmod_add_mul_fdiv a n
  generalize a.fmod n = R at *
  unfold In64 at *
  refine ⟨?_, by omega, inW_of_64 (by unfold In64; omega)⟩
  have hq : a.fdiv n ≠ 170141183460469231731687303715884105728 := by
    intro c
    rw [c] at e
    unfold InW two127 at ha
    omega
  unfold InW two127
  omega

set_option maxRecDepth 100000 in
set_option maxHeartbeats 8000000 in
theorem byW_arg (a n : Int) (hn : n ≤ 0) (w : World) :
    Calls Tryz.prog 40 #[.agg #[.int .i64 (hiW a), .int .u64 (loW a)], .int .i64 n] w (RetBy w 0 0 0 1) := by
  have KK := (((PairsK.nil w).more (.int .i64 (hiW a)) (.int .u64 (loW a)) 45).more (.int .i64 0) (.int .u64 0) 45)
  simp only [World.size_alloc] at KK
  go_enter Tryz.func40, Tryz.ntmps40
  go_wp2
  exact bodyPost_ret (v := .tuple #[.agg #[.int .i64 0, .int .u64 0], .int .i64 0, .int .i64 1]) (by simp [results, Tryz.results40, go_sem]) rfl ⟨rfl, KK.hb⟩

set_option maxRecDepth 100000 in
set_option maxHeartbeats 8000000 in
theorem byW_any (a n : Int) (ha : InW a) (hn : In64 n) (h0 : 0 < n) (w : World) :
    Calls Tryz.prog 40 #[.agg #[.int .i64 (hiW a), .int .u64 (loW a)], .int .i64 n] w (RetBy w (hiW (a.fdiv n)) (loW (a.fdiv n)) (a.fmod n) 0) := by
  obtain ⟨iQ, iR, iW⟩ := by_in ha hn h0
  have ON := Lib.hid (fun W => wideOf n hn W)
  obtain ⟨t1, t2, t3⟩ := told_in iQ
  obtain ⟨u1, u2, _⟩ := told_in iW
  have FW := Lib.hid (fun W => show Calls Tryz.prog 37 #[.agg #[.int .i64 (hiW a), .int .u64 (loW a)], .agg #[.int .i64 (hiW n), .int .u64 (loW n)]] W (RetHalves W (hiW (a.fdiv n)) (loW (a.fdiv n)) (hiW (a.fmod n)) (loW (a.fmod n)) 0) from (floorW_any a n ha (inW_of_64 hn) (by omega) W).mono fun e w' ⟨h1, h2⟩ => ⟨by rw [h1]; unfold hv2 lv2; rw [if_pos iQ, if_pos iQ, t1, t2, t3, u1, u2], h2⟩)
  have IN := Lib.hid (fun W => show Calls Tryz.prog 41 #[.agg #[.int .i64 (hiW (a.fmod n)), .int .u64 (loW (a.fmod n))]] W (RetV W (.tuple #[.int .i64 (a.fmod n), .bool true])) from by have := wideInt (a.fmod n) W; rwa [show iv (a.fmod n) = a.fmod n by unfold iv; rw [if_pos iR], decide_eq_true iR] at this)
  clear iQ iR iW t1 t2 t3 u1 u2 ha hn
  generalize a.fdiv n = Q at *
  generalize a.fmod n = R at *
  go_enter Tryz.func40, Tryz.ntmps40
  go_wp2_with fail
  have KK := (((PairsK.nil w).more (.int .i64 (hiW a)) (.int .u64 (loW a)) 45).more (.int .i64 0) (.int .u64 0) 45)
  simp only [World.size_alloc] at KK
  generalize ((w.alloc (.cells #[.int .i64 (hiW a), .int .u64 (loW a)] 45)).alloc (.cells #[.int .i64 0, .int .u64 0] 45)) = w0 at *
  obtain ⟨lo, st, hlo⟩ := KK.preG (KK.tail.head).lt 45 (.int .i64 0) (.int .u64 0)
  have la0 : w.heap.size + 1 ≤ lo := hlo (w.heap.size + 1, .int .i64 0, .int .u64 0) (by simp)
  have la1 : w.heap.size ≤ lo := hlo (w.heap.size, .int .i64 (hiW a), .int .u64 (loW a)) (by simp)
  clear hlo
  go_cut [7, 8, 9] (fun v7 v8 v9 wx => CutTwo lo (PairsK w [(w.heap.size + 1, .int .i64 0, .int .u64 0), (w.heap.size, .int .i64 (hiW a), .int .u64 (loW a))]) (.int .i64 (hiW Q)) (.int .u64 (loW Q)) (.int .i64 (hiW R)) (.int .u64 (loW R)) v7 v8 wx ∧ v9 = .int .i64 0)
  case first =>
    obtain ⟨_, ja0, jb0, _, _⟩ := KK.tail.head
    clear KK
    have ⟨gp0, gq0⟩ := behindG st.lt la1
    go_region_held3 (fun w' => w'.cell? ⟨w.heap.size, 0, none⟩ = some (.int .i64 (hiW a)) ∧ w'.cell? ⟨w.heap.size, 1, none⟩ = some (.int .u64 (loW a))) (first | (with_reducible exact ⟨st.k.tail.head.c0, st.k.tail.head.c1⟩) | (with_reducible exact ⟨st.alloc1.k.tail.head.c0, st.alloc1.k.tail.head.c1⟩) | (with_reducible exact ⟨st.alloc2.k.tail.head.c0, st.alloc2.k.tail.head.c1⟩) | (with_reducible exact ⟨st.drew.k.tail.head.c0, st.drew.k.tail.head.c1⟩) | (with_reducible exact ⟨st.alloc1.drew.k.tail.head.c0, st.alloc1.drew.k.tail.head.c1⟩) | (with_reducible exact ⟨st.alloc2.drew.k.tail.head.c0, st.alloc2.drew.k.tail.head.c1⟩) | go_keep)
      (first
        | (go_at_call 15; (with_reducible refine (ON.out _).mono ?_); rintro e x ⟨rfl, k⟩
           with_reducible (first | replace st := st.below k | replace st := st.alloc1.below k | replace st := st.alloc2.below k | replace st := st.drew.below k | replace st := st.alloc1.drew.below k | replace st := st.alloc2.drew.below k)
           clear k
           obtain ⟨_, ka0, kb0, _, _⟩ := st.k.tail.head
           obtain ⟨gp0, gq0⟩ := behindG st.lt la1
           try obtain ⟨gr0, gs0⟩ := behindG (st.ge _ (List.mem_cons_self ..)) la1
           try obtain ⟨gt0, gu0⟩ := behindG (st.ge _ (List.mem_cons_of_mem _ (List.mem_cons_self ..))) la1
           try obtain ⟨_, y0, y1, y2, y3⟩ := st.al _ (List.mem_cons_self ..)
           try obtain ⟨_, y4, y5, y6, y7⟩ := st.al _ (List.mem_cons_of_mem _ (List.mem_cons_self ..)))
        | (go_at_call 37; (with_reducible refine (FW.out _).mono ?_); rintro e x ⟨rfl, k⟩
           with_reducible (first | replace st := st.below k | replace st := st.alloc1.below k | replace st := st.alloc2.below k | replace st := st.drew.below k | replace st := st.alloc1.drew.below k | replace st := st.alloc2.drew.below k)
           clear k
           obtain ⟨_, ka0, kb0, _, _⟩ := st.k.tail.head
           obtain ⟨gp0, gq0⟩ := behindG st.lt la1
           try obtain ⟨gr0, gs0⟩ := behindG (st.ge _ (List.mem_cons_self ..)) la1
           try obtain ⟨gt0, gu0⟩ := behindG (st.ge _ (List.mem_cons_of_mem _ (List.mem_cons_self ..))) la1
           try obtain ⟨_, y0, y1, y2, y3⟩ := st.al _ (List.mem_cons_self ..)
           try obtain ⟨_, y4, y5, y6, y7⟩ := st.al _ (List.mem_cons_of_mem _ (List.mem_cons_self ..))))
    all_goals
      go_wp2_with fail
      go_meet
      refine ⟨⟨_, _, rfl, rfl, ?_⟩, rfl⟩
      with_reducible first | exact st.fin1a _ _ _ _ | exact st.fin1b _ _ _ _ | exact st.fin2a _ _ _ _ | exact st.fin2b _ _ _ _ | exact st.fin3a _ _ _ _ | exact st.fin3b _ _ _ _
  case rest =>
  obtain ⟨⟨g, h, rfl, rfl, s0⟩, rfl⟩ := hcut
  clear st
  have KK := (s0.k.cons s0.bg).cons s0.bh
  have ggg := s0.gg
  have ggh := s0.gh
  have neg := s0.ne
  have ng0 : g ≠ w.heap.size + 1 := by omega
  have nh0 : h ≠ w.heap.size + 1 := by omega
  have ng1 : g ≠ w.heap.size := by omega
  have nh1 : h ≠ w.heap.size := by omega
  clear s0 la0 la1 ggg ggh
  clear lo
  obtain ⟨_, h0', h1', _, _⟩ := KK.head
  go_wp2_with fail
  refine (IN.out _).mono ?_
  rintro e w1 ⟨rfl, k⟩
  replace KK := KK.below k
  clear k h0' h1'
  obtain ⟨_, q0, q1, _, _⟩ := KK.tail.head
  obtain ⟨_, s0, s1, s2, s3⟩ := KK.tail.tail.head
  go_wp2
  have P2 := KK.tail.tail.head.self2 (.int .i64 (hiW Q)) (.int .u64 (loW Q))
  have HB := (KK.hb.setCell (p := ⟨w.heap.size + 1, 0, none⟩) (by show _ ≤ w.heap.size + 1; omega) (.int .i64 (hiW Q))).setCell (p := ⟨w.heap.size + 1, 1, none⟩) (by show _ ≤ w.heap.size + 1; omega) (.int .u64 (loW Q))
  exact bodyPost_ret (v := .tuple #[.agg #[.int .i64 (hiW Q), .int .u64 (loW Q)], .int .i64 R, .int .i64 0]) (by simp [results, Tryz.results40, go_sem, P2.c0, P2.c1]) rfl ⟨rfl, HB⟩

theorem gcd_nat (a b : Int) : (Int.gcd (a.natAbs : Int) (b.natAbs : Int) : Int) = gcdZ a b := by unfold gcdZ; simp [Int.gcd]
theorem gcdZ_bound {a b : Int} (ha : a.natAbs ≤ 170141183460469231731687303715884105728) (hb : b.natAbs ≤ 170141183460469231731687303715884105728) : 0 ≤ gcdZ a b ∧ gcdZ a b ≤ 170141183460469231731687303715884105728 := by
  unfold gcdZ
  refine ⟨by omega, ?_⟩
  by_cases h : a.natAbs = 0
  · rw [h, Nat.gcd_zero_left]; omega
  · have := Nat.gcd_le_left b.natAbs (show 0 < a.natAbs by omega)
    omega

end Go.Proofs.YtlidicnbmfkghaaGreatDoor

/- Package divide's Fraction, at any wide numbers. -/
namespace Go.Proofs.YtlidicnbmfkghaaGreatDoor
open Go.RowKit

theorem gcdZ_pos (x y : Int) (h : y ≠ 0) : 0 < gcdZ x y := by
  unfold gcdZ
  have := Nat.gcd_pos_of_pos_right x.natAbs (n := y.natAbs) (by omega)
  omega
theorem gcdS_parts (x y : Int) (h : y ≠ 0) : decide (gcdS x y < 0) = decide (y < 0) ∧ ((gcdS x y).natAbs : Int) = gcdZ x y := by
  have g := gcdZ_pos x y h
  unfold gcdS
  by_cases hy : y < 0
  · rw [if_pos hy, decide_eq_true hy]
    exact ⟨decide_eq_true (by omega), by omega⟩
  · rw [if_neg hy, decide_eq_false hy]
    exact ⟨decide_eq_false (by omega), by omega⟩
theorem gcdS_dvd (x y : Int) : gcdS x y ∣ x ∧ gcdS x y ∣ y := by
  have e : (gcdS x y).natAbs = Nat.gcd x.natAbs y.natAbs := by unfold gcdS gcdZ; split <;> omega
  exact ⟨Int.natAbs_dvd_natAbs.1 (by rw [e]; exact Nat.gcd_dvd_left _ _), Int.natAbs_dvd_natAbs.1 (by rw [e]; exact Nat.gcd_dvd_right _ _)⟩
theorem fdiv_dvd {a c : Int} (hc : c ≠ 0) (h : c ∣ a) : a.fdiv c = sg (decide (a < 0) != decide (c < 0)) ((a.natAbs : Int) / (c.natAbs : Int)) := by
  rw [(floor_same hc (.inl (Int.tmod_eq_zero_of_dvd h))).1, tdiv_sg]
theorem frac_parts (a b : Int) (hb : b ≠ 0) : a.fdiv (gcdS a b) = sg (decide (a < 0) != decide (b < 0)) ((a.natAbs : Int) / gcdZ a b) ∧ b.fdiv (gcdS a b) = (b.natAbs : Int) / gcdZ a b := by
  obtain ⟨g1, g2⟩ := gcdS_parts a b hb
  obtain ⟨d1, d2⟩ := gcdS_dvd a b
  have hc := gcdS_ne a b hb
  rw [fdiv_dvd hc d1, fdiv_dvd hc d2, g1, g2]
  refine ⟨rfl, ?_⟩
  simp [sg]

end Go.Proofs.YtlidicnbmfkghaaGreatDoor
