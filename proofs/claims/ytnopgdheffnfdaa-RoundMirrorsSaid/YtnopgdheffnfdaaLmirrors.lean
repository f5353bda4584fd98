/- The walk of RoundMirrors: at any two wide numbers and any mode it returns true; what was there is as it was. -/
import Derived.Test.YtnopgdheffnfdaaRalive
import Derived.Test.YtnopgdheffnfdaaVtwo
import Derived.Deep.RegionHeld3
namespace Go.Proofs.Ytnopgdheffnfdaa
open Go.RowKit

set_option maxRecDepth 100000 in
set_option maxHeartbeats 8000000 in
theorem mirrors_f (a b m x0 x1 y0 y1 e f : Int) (T1 : Hid (∀ W, Calls Try.prog 9 #[.agg #[.int .i64 (hiW a), .int .u64 (loW a)], .agg #[.int .i64 (hiW b), .int .u64 (loW b)], .int .i64 m] W (fun o w' => o = .returned (.tuple #[.agg #[.int .i64 x0, .int .u64 x1], .int .i64 e]) ∧ Below W.heap.size W w'))) (N1 : Hid (∀ W, Calls Try.prog 16 #[.agg #[.int .i64 (hiW a), .int .u64 (loW a)]] W (fun o w' => o = .returned (.tuple #[.agg #[.int .i64 y0, .int .u64 y1], .int .i64 f]) ∧ Below W.heap.size W w'))) (AL : Hid (∀ W, Calls Try.prog 11 #[] W (fun o w' => o = .returned (.bool true) ∧ Below W.heap.size W w'))) (hf : ¬ f = 0) (w : World) :
    Calls Try.prog 6 #[.agg #[.int .i64 (hiW a), .int .u64 (loW a)], .agg #[.int .i64 (hiW b), .int .u64 (loW b)], .int .i64 m] w (RetV w (.bool true)) := by
  have hf' : (f == 0) = false := by rw [beq_eq_false_iff_ne]; exact hf
  go_enter Try.func6, Try.ntmps6
  go_wp2_with fail
  have KK := (((PairsK.nil w).more (.int .i64 (hiW a)) (.int .u64 (loW a)) 24).more (.int .i64 (hiW b)) (.int .u64 (loW b)) 24)
  try simp only [World.size_alloc] at KK
  generalize ((w.alloc (.cells #[.int .i64 (hiW a), .int .u64 (loW a)] 24)).alloc (.cells #[.int .i64 (hiW b), .int .u64 (loW b)] 24)) = w0 at *
  refine (T1.out _).mono ?_
  rintro e w1 ⟨rfl, k⟩
  replace KK := KK.below k
  clear k
  go_upto_region 2 with (fail)
  have hlg := KK.head.lt
  replace KK := (KK.more (.int .i64 x0) (.int .u64 x1) 24)
  generalize (w1.alloc (.cells #[.int .i64 x0, .int .u64 x1] 24)) = w2 at *
  generalize w1.heap.size = g at *
  clear hlg
  obtain ⟨_, aa, ab, _, _⟩ := KK.tail.tail.head
  go_wp2_with fail
  clear aa ab
  refine (N1.out _).mono ?_
  rintro e w3 ⟨rfl, k⟩
  replace KK := KK.below k
  clear k
  go_upto_region 3 with (fail)
  have hlh := KK.head.lt
  replace KK := (KK.more (.int .i64 y0) (.int .u64 y1) 24)
  generalize (w3.alloc (.cells #[.int .i64 y0, .int .u64 y1] 24)) = w4 at *
  generalize w3.heap.size = h at *
  clear hlh
  go_wp2_with fail
  refine (AL.out _).mono ?_
  rintro e w9 ⟨rfl, k⟩
  replace KK := KK.below k
  clear k
  have HB := KK.hb
  go_wp2
  go_ret
  exact ⟨rfl, HB⟩
set_option maxRecDepth 100000 in
set_option maxHeartbeats 8000000 in
theorem mirrors_e (a b m x0 x1 y0 y1 e : Int) (T1 : Hid (∀ W, Calls Try.prog 9 #[.agg #[.int .i64 (hiW a), .int .u64 (loW a)], .agg #[.int .i64 (hiW b), .int .u64 (loW b)], .int .i64 m] W (fun o w' => o = .returned (.tuple #[.agg #[.int .i64 x0, .int .u64 x1], .int .i64 e]) ∧ Below W.heap.size W w'))) (N1 : Hid (∀ W, Calls Try.prog 16 #[.agg #[.int .i64 (hiW a), .int .u64 (loW a)]] W (fun o w' => o = .returned (.tuple #[.agg #[.int .i64 y0, .int .u64 y1], .int .i64 0]) ∧ Below W.heap.size W w'))) (AL : Hid (∀ W, Calls Try.prog 11 #[] W (fun o w' => o = .returned (.bool true) ∧ Below W.heap.size W w'))) (he : ¬ e = 0) (w : World) :
    Calls Try.prog 6 #[.agg #[.int .i64 (hiW a), .int .u64 (loW a)], .agg #[.int .i64 (hiW b), .int .u64 (loW b)], .int .i64 m] w (RetV w (.bool true)) := by
  have he' : (e == 0) = false := by rw [beq_eq_false_iff_ne]; exact he
  go_enter Try.func6, Try.ntmps6
  go_wp2_with fail
  have KK := (((PairsK.nil w).more (.int .i64 (hiW a)) (.int .u64 (loW a)) 24).more (.int .i64 (hiW b)) (.int .u64 (loW b)) 24)
  try simp only [World.size_alloc] at KK
  generalize ((w.alloc (.cells #[.int .i64 (hiW a), .int .u64 (loW a)] 24)).alloc (.cells #[.int .i64 (hiW b), .int .u64 (loW b)] 24)) = w0 at *
  refine (T1.out _).mono ?_
  rintro e w1 ⟨rfl, k⟩
  replace KK := KK.below k
  clear k
  go_upto_region 2 with (fail)
  have hlg := KK.head.lt
  replace KK := (KK.more (.int .i64 x0) (.int .u64 x1) 24)
  generalize (w1.alloc (.cells #[.int .i64 x0, .int .u64 x1] 24)) = w2 at *
  generalize w1.heap.size = g at *
  clear hlg
  obtain ⟨_, aa, ab, _, _⟩ := KK.tail.tail.head
  go_wp2_with fail
  clear aa ab
  refine (N1.out _).mono ?_
  rintro e w3 ⟨rfl, k⟩
  replace KK := KK.below k
  clear k
  go_upto_region 3 with (fail)
  have hlh := KK.head.lt
  replace KK := (KK.more (.int .i64 y0) (.int .u64 y1) 24)
  generalize (w3.alloc (.cells #[.int .i64 y0, .int .u64 y1] 24)) = w4 at *
  generalize w3.heap.size = h at *
  clear hlh
  go_wp2_with fail
  refine (AL.out _).mono ?_
  rintro e w9 ⟨rfl, k⟩
  replace KK := KK.below k
  clear k
  have HB := KK.hb
  go_wp2
  go_ret
  exact ⟨rfl, HB⟩
set_option maxRecDepth 100000 in
set_option maxHeartbeats 8000000 in
theorem mirrors_least (a b m y0 y1 : Int) (T1 : Hid (∀ W, Calls Try.prog 9 #[.agg #[.int .i64 (hiW a), .int .u64 (loW a)], .agg #[.int .i64 (hiW b), .int .u64 (loW b)], .int .i64 m] W (fun o w' => o = .returned (.tuple #[.agg #[.int .i64 (-9223372036854775808), .int .u64 0], .int .i64 0]) ∧ Below W.heap.size W w'))) (N1 : Hid (∀ W, Calls Try.prog 16 #[.agg #[.int .i64 (hiW a), .int .u64 (loW a)]] W (fun o w' => o = .returned (.tuple #[.agg #[.int .i64 y0, .int .u64 y1], .int .i64 0]) ∧ Below W.heap.size W w'))) (AL : Hid (∀ W, Calls Try.prog 11 #[] W (fun o w' => o = .returned (.bool true) ∧ Below W.heap.size W w'))) (w : World) :
    Calls Try.prog 6 #[.agg #[.int .i64 (hiW a), .int .u64 (loW a)], .agg #[.int .i64 (hiW b), .int .u64 (loW b)], .int .i64 m] w (RetV w (.bool true)) := by
  go_enter Try.func6, Try.ntmps6
  go_wp2_with fail
  have KK := (((PairsK.nil w).more (.int .i64 (hiW a)) (.int .u64 (loW a)) 24).more (.int .i64 (hiW b)) (.int .u64 (loW b)) 24)
  try simp only [World.size_alloc] at KK
  generalize ((w.alloc (.cells #[.int .i64 (hiW a), .int .u64 (loW a)] 24)).alloc (.cells #[.int .i64 (hiW b), .int .u64 (loW b)] 24)) = w0 at *
  refine (T1.out _).mono ?_
  rintro e w1 ⟨rfl, k⟩
  replace KK := KK.below k
  clear k
  go_upto_region 2 with (fail)
  have hlg := KK.head.lt
  replace KK := (KK.more (.int .i64 (-9223372036854775808)) (.int .u64 0) 24)
  generalize (w1.alloc (.cells #[.int .i64 (-9223372036854775808), .int .u64 0] 24)) = w2 at *
  generalize w1.heap.size = g at *
  clear hlg
  obtain ⟨_, aa, ab, _, _⟩ := KK.tail.tail.head
  go_wp2_with fail
  clear aa ab
  refine (N1.out _).mono ?_
  rintro e w3 ⟨rfl, k⟩
  replace KK := KK.below k
  clear k
  go_upto_region 3 with (fail)
  have hlh := KK.head.lt
  replace KK := (KK.more (.int .i64 y0) (.int .u64 y1) 24)
  generalize (w3.alloc (.cells #[.int .i64 y0, .int .u64 y1] 24)) = w4 at *
  generalize w3.heap.size = h at *
  clear hlh
  obtain ⟨_, xa, xb, _, _⟩ := KK.tail.head
  go_wp2_with fail
  clear xa xb
  refine (AL.out _).mono ?_
  rintro e w9 ⟨rfl, k⟩
  replace KK := KK.below k
  clear k
  have HB := KK.hb
  go_wp2
  go_ret
  exact ⟨rfl, HB⟩
set_option maxRecDepth 100000 in
set_option maxHeartbeats 8000000 in
theorem mirrors_any (a b m mm x0 x1 c z0 z1 : Int) (T1 : Hid (∀ W, Calls Try.prog 9 #[.agg #[.int .i64 (hiW a), .int .u64 (loW a)], .agg #[.int .i64 (hiW b), .int .u64 (loW b)], .int .i64 m] W (fun o w' => o = .returned (.tuple #[.agg #[.int .i64 x0, .int .u64 x1], .int .i64 0]) ∧ Below W.heap.size W w'))) (N1 : Hid (∀ W, Calls Try.prog 16 #[.agg #[.int .i64 (hiW a), .int .u64 (loW a)]] W (fun o w' => o = .returned (.tuple #[.agg #[.int .i64 (hiW c), .int .u64 (loW c)], .int .i64 0]) ∧ Below W.heap.size W w'))) (AL : Hid (∀ W, Calls Try.prog 11 #[] W (fun o w' => o = .returned (.bool true) ∧ Below W.heap.size W w'))) (MI : Hid (∀ W, Calls Try.prog 15 #[.int .i64 m] W (fun o w' => o = .returned (.int .i64 mm) ∧ Below W.heap.size W w'))) (T2 : Hid (∀ W, Calls Try.prog 9 #[.agg #[.int .i64 (hiW c), .int .u64 (loW c)], .agg #[.int .i64 (hiW b), .int .u64 (loW b)], .int .i64 mm] W (fun o w' => o = .returned (.tuple #[.agg #[.int .i64 z0, .int .u64 z1], .int .i64 0]) ∧ Below W.heap.size W w'))) (N2 : Hid (∀ W, Calls Try.prog 16 #[.agg #[.int .i64 x0, .int .u64 x1]] W (fun o w' => o = .returned (.tuple #[.agg #[.int .i64 z0, .int .u64 z1], .int .i64 0]) ∧ Below W.heap.size W w'))) (hn : Hid (x0 = -9223372036854775808 → x1 = 0 → False)) (w : World) :
    Calls Try.prog 6 #[.agg #[.int .i64 (hiW a), .int .u64 (loW a)], .agg #[.int .i64 (hiW b), .int .u64 (loW b)], .int .i64 m] w (RetV w (.bool true)) := by
  go_enter Try.func6, Try.ntmps6
  go_wp2_with fail
  have KK := (((PairsK.nil w).more (.int .i64 (hiW a)) (.int .u64 (loW a)) 24).more (.int .i64 (hiW b)) (.int .u64 (loW b)) 24)
  try simp only [World.size_alloc] at KK
  generalize ((w.alloc (.cells #[.int .i64 (hiW a), .int .u64 (loW a)] 24)).alloc (.cells #[.int .i64 (hiW b), .int .u64 (loW b)] 24)) = w0 at *
  refine (T1.out _).mono ?_
  rintro e w1 ⟨rfl, k⟩
  replace KK := KK.below k
  clear k
  go_upto_region 2 with (fail)
  have hlg := KK.head.lt
  replace KK := (KK.more (.int .i64 x0) (.int .u64 x1) 24)
  generalize (w1.alloc (.cells #[.int .i64 x0, .int .u64 x1] 24)) = w2 at *
  generalize w1.heap.size = g at *
  clear hlg
  obtain ⟨_, aa, ab, _, _⟩ := KK.tail.tail.head
  go_wp2_with fail
  clear aa ab
  refine (N1.out _).mono ?_
  rintro e w3 ⟨rfl, k⟩
  replace KK := KK.below k
  clear k
  go_upto_region 3 with (fail)
  have hlh := KK.head.lt
  replace KK := (KK.more (.int .i64 (hiW c)) (.int .u64 (loW c)) 24)
  generalize (w3.alloc (.cells #[.int .i64 (hiW c), .int .u64 (loW c)] 24)) = w4 at *
  generalize w3.heap.size = h at *
  clear hlh
  go_cut [37] (fun v37 wx => v37 = .bool false ∧ PairsK w [(h, .int .i64 (hiW c), .int .u64 (loW c)), (g, .int .i64 x0, .int .u64 x1), (w.heap.size + 1, .int .i64 (hiW b), .int .u64 (loW b)), (w.heap.size, .int .i64 (hiW a), .int .u64 (loW a))] wx)
  case first =>
    obtain ⟨_, c0, c1, _, _⟩ := KK.tail.head
    by_cases hx : x0 = -9223372036854775808
    · have hz : ¬ x1 = 0 := fun k => hn.out hx k
      have hz' : (x1 == 0) = false := by rw [beq_eq_false_iff_ne]; exact hz
      rw [hx] at c0
      go_wp2_with fail
      go_meet
      exact ⟨rfl, KK⟩
    · have hx' : (x0 == -9223372036854775808) = false := by rw [beq_eq_false_iff_ne]; exact hx
      go_wp2_with fail
      go_meet
      exact ⟨rfl, KK⟩
  case rest =>
  clear KK
  obtain ⟨rfl, KK⟩ := hcut
  go_upto_region 5 with (fail)
  obtain ⟨lo, st, hlo⟩ := KK.preG (KK.tail.tail.tail.head).lt 24 (.int .i64 0) (.int .u64 0)
  have la0 : h ≤ lo := hlo (h, .int .i64 (hiW c), .int .u64 (loW c)) (by simp)
  have la1 : g ≤ lo := hlo (g, .int .i64 x0, .int .u64 x1) (by simp)
  have la2 : w.heap.size + 1 ≤ lo := hlo (w.heap.size + 1, .int .i64 (hiW b), .int .u64 (loW b)) (by simp)
  have la3 : w.heap.size ≤ lo := hlo (w.heap.size, .int .i64 (hiW a), .int .u64 (loW a)) (by simp)
  clear hlo
  go_cut [11, 12] (fun v11 v12 wx => CutOne lo (PairsK w [(h, .int .i64 (hiW c), .int .u64 (loW c)), (g, .int .i64 x0, .int .u64 x1), (w.heap.size + 1, .int .i64 (hiW b), .int .u64 (loW b)), (w.heap.size, .int .i64 (hiW a), .int .u64 (loW a))]) (.int .i64 z0) (.int .u64 z1) v11 wx ∧ v12 = .int .i64 0)
  case first =>
    obtain ⟨_, ja0, jb0, _, _⟩ := KK.head
    obtain ⟨_, ja1, jb1, _, _⟩ := KK.tail.tail.head
    clear KK
    have ⟨gp0, gq0⟩ := behindG st.lt la0
    have ⟨gp1, gq1⟩ := behindG st.lt la2
    have ⟨gp2, gq2⟩ := behindG st.lt la3
    go_region_held3 (fun w' => w'.cell? ⟨h, 0, none⟩ = some (.int .i64 (hiW c)) ∧ w'.cell? ⟨h, 1, none⟩ = some (.int .u64 (loW c)) ∧ w'.cell? ⟨w.heap.size + 1, 0, none⟩ = some (.int .i64 (hiW b)) ∧ w'.cell? ⟨w.heap.size + 1, 1, none⟩ = some (.int .u64 (loW b))) (first | (with_reducible exact ⟨st.k.head.c0, st.k.head.c1, st.k.tail.tail.head.c0, st.k.tail.tail.head.c1⟩) | (with_reducible exact ⟨st.alloc1.k.head.c0, st.alloc1.k.head.c1, st.alloc1.k.tail.tail.head.c0, st.alloc1.k.tail.tail.head.c1⟩) | (with_reducible exact ⟨st.alloc2.k.head.c0, st.alloc2.k.head.c1, st.alloc2.k.tail.tail.head.c0, st.alloc2.k.tail.tail.head.c1⟩) | (with_reducible exact ⟨st.drew.k.head.c0, st.drew.k.head.c1, st.drew.k.tail.tail.head.c0, st.drew.k.tail.tail.head.c1⟩) | (with_reducible exact ⟨st.alloc1.drew.k.head.c0, st.alloc1.drew.k.head.c1, st.alloc1.drew.k.tail.tail.head.c0, st.alloc1.drew.k.tail.tail.head.c1⟩) | (with_reducible exact ⟨st.alloc2.drew.k.head.c0, st.alloc2.drew.k.head.c1, st.alloc2.drew.k.tail.tail.head.c0, st.alloc2.drew.k.tail.tail.head.c1⟩) | go_keep)
      (first
        | (go_at_call 15; (with_reducible refine (MI.out _).mono ?_); rintro e x ⟨rfl, k⟩
           with_reducible (first | replace st := st.below k | replace st := st.alloc1.below k | replace st := st.alloc2.below k | replace st := st.drew.below k | replace st := st.alloc1.drew.below k | replace st := st.alloc2.drew.below k)
           clear k
           obtain ⟨_, ka0, kb0, _, _⟩ := st.k.head
           obtain ⟨_, ka1, kb1, _, _⟩ := st.k.tail.tail.head
           obtain ⟨gp0, gq0⟩ := behindG st.lt la0
           try obtain ⟨gr0, gs0⟩ := behindG (st.ge _ (List.mem_cons_self ..)) la0
           try obtain ⟨gt0, gu0⟩ := behindG (st.ge _ (List.mem_cons_of_mem _ (List.mem_cons_self ..))) la0
           obtain ⟨gp1, gq1⟩ := behindG st.lt la2
           try obtain ⟨gr1, gs1⟩ := behindG (st.ge _ (List.mem_cons_self ..)) la2
           try obtain ⟨gt1, gu1⟩ := behindG (st.ge _ (List.mem_cons_of_mem _ (List.mem_cons_self ..))) la2
           obtain ⟨gp2, gq2⟩ := behindG st.lt la3
           try obtain ⟨gr2, gs2⟩ := behindG (st.ge _ (List.mem_cons_self ..)) la3
           try obtain ⟨gt2, gu2⟩ := behindG (st.ge _ (List.mem_cons_of_mem _ (List.mem_cons_self ..))) la3
           try obtain ⟨_, y0, y1, y2, y3⟩ := st.al _ (List.mem_cons_self ..)
           try obtain ⟨_, y4, y5, y6, y7⟩ := st.al _ (List.mem_cons_of_mem _ (List.mem_cons_self ..)))
        | (go_at_call 9; (with_reducible refine (T2.out _).mono ?_); rintro e x ⟨rfl, k⟩
           with_reducible (first | replace st := st.below k | replace st := st.alloc1.below k | replace st := st.alloc2.below k | replace st := st.drew.below k | replace st := st.alloc1.drew.below k | replace st := st.alloc2.drew.below k)
           clear k
           obtain ⟨_, ka0, kb0, _, _⟩ := st.k.head
           obtain ⟨_, ka1, kb1, _, _⟩ := st.k.tail.tail.head
           obtain ⟨gp0, gq0⟩ := behindG st.lt la0
           try obtain ⟨gr0, gs0⟩ := behindG (st.ge _ (List.mem_cons_self ..)) la0
           try obtain ⟨gt0, gu0⟩ := behindG (st.ge _ (List.mem_cons_of_mem _ (List.mem_cons_self ..))) la0
           obtain ⟨gp1, gq1⟩ := behindG st.lt la2
           try obtain ⟨gr1, gs1⟩ := behindG (st.ge _ (List.mem_cons_self ..)) la2
           try obtain ⟨gt1, gu1⟩ := behindG (st.ge _ (List.mem_cons_of_mem _ (List.mem_cons_self ..))) la2
           obtain ⟨gp2, gq2⟩ := behindG st.lt la3
           try obtain ⟨gr2, gs2⟩ := behindG (st.ge _ (List.mem_cons_self ..)) la3
           try obtain ⟨gt2, gu2⟩ := behindG (st.ge _ (List.mem_cons_of_mem _ (List.mem_cons_self ..))) la3
           try obtain ⟨_, y0, y1, y2, y3⟩ := st.al _ (List.mem_cons_self ..)
           try obtain ⟨_, y4, y5, y6, y7⟩ := st.al _ (List.mem_cons_of_mem _ (List.mem_cons_self ..))))
    all_goals
      go_wp2_with fail
      go_meet
      refine ⟨⟨_, rfl, ?_⟩, rfl⟩
      with_reducible first | exact st.one1 _ _ | exact st.one2 _ _
  case rest =>
  obtain ⟨⟨j, rfl, s0⟩, rfl⟩ := hcut
  clear st
  have KK := s0.k.cons s0.bg
  have ggj := s0.gg
  have nj0 : j ≠ h := by omega
  have nj1 : j ≠ g := by omega
  have nj2 : j ≠ w.heap.size + 1 := by omega
  have nj3 : j ≠ w.heap.size := by omega
  clear s0 la0 la1 la2 la3 ggj
  clear lo
  obtain ⟨_, xa, xb, _, _⟩ := KK.tail.tail.head
  go_wp2_with fail
  clear xa xb
  refine (N2.out _).mono ?_
  rintro e w6 ⟨rfl, k⟩
  replace KK := KK.below k
  clear k
  go_upto_region 7 with (fail)
  have hll := KK.head.lt
  replace KK := (KK.more (.int .i64 z0) (.int .u64 z1) 24)
  generalize (w6.alloc (.cells #[.int .i64 z0, .int .u64 z1] 24)) = w7 at *
  generalize w6.heap.size = l at *
  clear hll
  go_wp2_with fail
  refine (AL.out _).mono ?_
  rintro e w8 ⟨rfl, k⟩
  replace KK := KK.below k
  clear k
  obtain ⟨_, ua, ub, _, _⟩ := KK.head
  obtain ⟨_, za, zb, _, _⟩ := KK.tail.head
  have HB := KK.hb
  go_wp2
  go_ret
  exact ⟨rfl, HB⟩
theorem roundMirrors_walk (a b m : Int) (ha : InW a) (hb : InW b) (_ : In64 m) (w : World) :
    Calls Try.prog 6 #[.agg #[.int .i64 (hiW a), .int .u64 (loW a)], .agg #[.int .i64 (hiW b), .int .u64 (loW b)], .int .i64 m] w (RetV w (.bool true)) := by
  have A := Lib.hid alive_ret
  have N1 := fun W => wideNeg a ha W
  by_cases h : m < 1 ∨ 9 < m ∨ b ≤ 0
  · have T1 := Lib.hid (fun W => roundTo_no a b m h W)
    by_cases ia : InW (-a)
    · exact mirrors_e a b m 0 0 _ _ 1 T1 (Lib.hid fun W => (N1 W).mono fun _ _ h => ret_in ia h) A (by decide) w
    · exact mirrors_f a b m 0 0 _ _ 1 _ T1 (Lib.hid N1) A (by rw [(told_no ia).2.2]; decide) w
  · have hb0 : 0 < b := by omega
    have hm : 1 ≤ m ∧ m ≤ 9 := by omega
    have T1 := fun W => roundTo_any a b m ha hb hb0 hm.1 hm.2 W
    have e1 : ∀ (a m : Int), nearR a b m = nearZ a b m := fun a m => by unfold nearR upN upD; rw [if_neg (by omega), if_neg (by omega)]
    rw [e1] at T1
    by_cases ia : InW (-a)
    · have N1' := Lib.hid (fun W => (N1 W).mono fun _ _ h => ret_in ia h)
      by_cases iz : InW (nearZ a b m * b)
      · have T1' := Lib.hid (fun W => (T1 W).mono fun _ _ h => ret_in iz h)
        by_cases hl : nearZ a b m * b = -170141183460469231731687303715884105728
        · rw [hl] at T1'
          exact mirrors_least a b m _ _ T1' N1' A w
        · have m1 : 1 ≤ mirM m ∧ mirM m ≤ 9 := by unfold mirM; omega
          have T2 := fun W => roundTo_any (-a) b (mirM m) ia hb hb0 m1.1 m1.2 W
          have N2 := fun W => wideNeg (nearZ a b m * b) iz W
          have ez : nearZ (-a) b (mirM m) * b = -(nearZ a b m * b) := by rw [near_mirror hb0 hm, Int.neg_mul]
          rw [e1, ez] at T2
          have iy : InW (-(nearZ a b m * b)) := by unfold InW two127 at *; omega
          have hn : hiW (nearZ a b m * b) = -9223372036854775808 → loW (nearZ a b m * b) = 0 → False := by unfold hiW loW; omega
          exact mirrors_any a b m _ _ _ _ _ _ T1' N1' A (Lib.hid fun W => mirror_ret m W) (Lib.hid fun W => (T2 W).mono fun _ _ h => ret_in iy h) (Lib.hid fun W => (N2 W).mono fun _ _ h => ret_in iy h) (Lib.hid hn) w
      · exact mirrors_e a b m _ _ _ _ _ (Lib.hid T1) N1' A (by rw [(told_no iz).2.2]; decide) w
    · exact mirrors_f a b m _ _ _ _ _ _ (Lib.hid T1) (Lib.hid N1) A (by rw [(told_no ia).2.2]; decide) w
end Go.Proofs.Ytnopgdheffnfdaa
