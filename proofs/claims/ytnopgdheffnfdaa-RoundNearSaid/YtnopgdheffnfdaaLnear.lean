/- The walk of RoundNear: at any two wide numbers and any mode it returns true; what was there is as it was. -/
import Derived.Test.YtnopgdheffnfdaaRalive
import Derived.Test.YtnopgdheffnfdaaGmix
import Derived.Deep.RegionHeld3
namespace Go.Proofs.Ytnopgdheffnfdaa
open Go.RowKit

set_option maxRecDepth 100000 in
set_option maxHeartbeats 8000000 in
theorem near_arg (a b m x0 x1 : Int) (T1 : Hid (∀ W, Calls Try.prog 9 #[.agg #[.int .i64 (hiW a), .int .u64 (loW a)], .agg #[.int .i64 (hiW b), .int .u64 (loW b)], .int .i64 m] W (fun o w' => o = .returned (.tuple #[.agg #[.int .i64 x0, .int .u64 x1], .int .i64 1]) ∧ Below W.heap.size W w'))) (AL : Hid (∀ W, Calls Try.prog 11 #[] W (fun o w' => o = .returned (.bool true) ∧ Below W.heap.size W w'))) (w : World) :
    Calls Try.prog 7 #[.agg #[.int .i64 (hiW a), .int .u64 (loW a)], .agg #[.int .i64 (hiW b), .int .u64 (loW b)], .int .i64 m] w (RetV w (.bool true)) := by
  go_enter Try.func7, Try.ntmps7
  go_wp2_with fail
  have KB := (((BK.nil w).more2 (.int .i64 (hiW a)) (.int .u64 (loW a)) 24).more2 (.int .i64 (hiW b)) (.int .u64 (loW b)) 24)
  try simp only [World.size_alloc] at KB
  generalize ((w.alloc (.cells #[.int .i64 (hiW a), .int .u64 (loW a)] 24)).alloc (.cells #[.int .i64 (hiW b), .int .u64 (loW b)] 24)) = w0 at *
  refine (T1.out _).mono ?_
  rintro e w1 ⟨rfl, k⟩
  replace KB := KB.below k
  clear k
  go_upto_region 2 with (fail)
  have hlg := KB.head.lt
  replace KB := KB.more2 (.int .i64 x0) (.int .u64 x1) 24
  generalize w1.alloc (.cells #[.int .i64 x0, .int .u64 x1] 24) = w2 at *
  have ig0 : w1.heap.size ≠ w.heap.size + 1 := by omega
  have og0 := Ne.symm ig0
  have ig1 : w1.heap.size ≠ w.heap.size := by omega
  have og1 := Ne.symm ig1
  generalize w1.heap.size = g at *
  go_wp2_with fail
  refine (AL.out _).mono ?_
  rintro e w9 ⟨rfl, k⟩
  replace KB := KB.below k
  clear k
  have HB := KB.hb
  go_wp2
  go_ret
  exact ⟨rfl, HB⟩
set_option maxRecDepth 100000 in
set_option maxHeartbeats 8000000 in
theorem near_over (a b m x0 x1 : Int) (T1 : Hid (∀ W, Calls Try.prog 9 #[.agg #[.int .i64 (hiW a), .int .u64 (loW a)], .agg #[.int .i64 (hiW b), .int .u64 (loW b)], .int .i64 m] W (fun o w' => o = .returned (.tuple #[.agg #[.int .i64 x0, .int .u64 x1], .int .i64 2]) ∧ Below W.heap.size W w'))) (AL : Hid (∀ W, Calls Try.prog 11 #[] W (fun o w' => o = .returned (.bool true) ∧ Below W.heap.size W w'))) (m1 : 1 ≤ m) (m9 : m ≤ 9) (w : World) :
    Calls Try.prog 7 #[.agg #[.int .i64 (hiW a), .int .u64 (loW a)], .agg #[.int .i64 (hiW b), .int .u64 (loW b)], .int .i64 m] w (RetV w (.bool true)) := by
  go_enter Try.func7, Try.ntmps7
  go_wp2_with fail
  have KB := (((BK.nil w).more2 (.int .i64 (hiW a)) (.int .u64 (loW a)) 24).more2 (.int .i64 (hiW b)) (.int .u64 (loW b)) 24)
  try simp only [World.size_alloc] at KB
  generalize ((w.alloc (.cells #[.int .i64 (hiW a), .int .u64 (loW a)] 24)).alloc (.cells #[.int .i64 (hiW b), .int .u64 (loW b)] 24)) = w0 at *
  refine (T1.out _).mono ?_
  rintro e w1 ⟨rfl, k⟩
  replace KB := KB.below k
  clear k
  go_upto_region 2 with (fail)
  have hlg := KB.head.lt
  replace KB := KB.more2 (.int .i64 x0) (.int .u64 x1) 24
  generalize w1.alloc (.cells #[.int .i64 x0, .int .u64 x1] 24) = w2 at *
  have ig0 : w1.heap.size ≠ w.heap.size + 1 := by omega
  have og0 := Ne.symm ig0
  have ig1 : w1.heap.size ≠ w.heap.size := by omega
  have og1 := Ne.symm ig1
  generalize w1.heap.size = g at *
  go_wp2_with fail
  refine (AL.out _).mono ?_
  rintro e w9 ⟨rfl, k⟩
  replace KB := KB.below k
  clear k
  have HB := KB.hb
  go_wp2
  go_ret
  exact ⟨rfl, HB⟩
set_option maxRecDepth 100000 in
set_option maxHeartbeats 8000000 in
theorem near_high (a b m z D E qq G cc : Int) (hm : 5 ≤ m) (hc : ¬ 0 < cc) (T1 : Hid (∀ W, Calls Try.prog 9 #[.agg #[.int .i64 (hiW a), .int .u64 (loW a)], .agg #[.int .i64 (hiW b), .int .u64 (loW b)], .int .i64 m] W (fun o w' => o = .returned (.tuple #[.agg #[.int .i64 (hiW z), .int .u64 (loW z)], .int .i64 0]) ∧ Below W.heap.size W w'))) (OZ : Hid (∀ W, Calls Try.prog 19 #[.agg #[.int .i64 (hiW z), .int .u64 (loW z)]] W (RetZ W (z)))) (OA : Hid (∀ W, Calls Try.prog 19 #[.agg #[.int .i64 (hiW a), .int .u64 (loW a)]] W (RetZ W (a)))) (OB : Hid (∀ W, Calls Try.prog 19 #[.agg #[.int .i64 (hiW b), .int .u64 (loW b)]] W (RetZ W (b)))) (sz : Hid ((z).natAbs < 65536 ^ 9)) (sa : Hid ((a).natAbs < 65536 ^ 9)) (sb : Hid ((b).natAbs < 65536 ^ 9)) (SU : Hid (∀ (p q : Bool) (A B : Option Addr) (n m c d : Nat) (W : World), Zs W p A n c (z) → Zs W q B m d (a) → n ≤ 900000 → m ≤ 900000 → Calls Try.prog 18 #[.agg #[.bool p, .slice A n c], .agg #[.bool q, .slice B m d]] W (RetZ W (D)))) (sd : Hid ((D).natAbs < 65536 ^ 9)) (AB : Hid (∀ (p : Bool) (A : Option Addr) (n c : Nat) (W : World), Zs W p A n c (D) → n ≤ 1000000 → Calls Try.prog 17 #[.agg #[.bool p, .slice A n c]] W (RetZ W (E)))) (se : Hid ((E).natAbs < 65536 ^ 9)) (DV : Hid (∀ (p q : Bool) (A B : Option Addr) (n m c d : Nat) (W : World), Zs W p A n c (z) → Zs W q B m d (b) → n ≤ 3000 → m ≤ 3000 → Calls Try.prog 20 #[.agg #[.bool p, .slice A n c], .agg #[.bool q, .slice B m d]] W (RetQR W (qq) (0)))) (C1 : Hid (∀ (p q : Bool) (A B : Option Addr) (n m c d : Nat) (W : World), Zs W p A n c (E) → Zs W q B m d (b) → n ≤ 900000 → m ≤ 900000 → Calls Try.prog 21 #[.agg #[.bool p, .slice A n c], .agg #[.bool q, .slice B m d]] W (RetV W (.int .i64 (-1))))) (SR : Hid (∀ (p : Bool) (A : Option Addr) (n c : Nat) W, Zs W p A n c (0) → n ≤ 900000 → Calls Try.prog 22 #[.agg #[.bool p, .slice A n c]] W (RetV W (.int .i64 0)))) (AD : Hid (∀ (p q : Bool) (A B : Option Addr) (n m c d : Nat) (W : World), Zs W p A n c (E) → Zs W q B m d (E) → n ≤ 900000 → m ≤ 900000 → Calls Try.prog 23 #[.agg #[.bool p, .slice A n c], .agg #[.bool q, .slice B m d]] W (RetZ W (G)))) (sg : Hid ((G).natAbs < 65536 ^ 10)) (C2 : Hid (∀ (p q : Bool) (A B : Option Addr) (n m c d : Nat) (W : World), Zs W p A n c (G) → Zs W q B m d (b) → n ≤ 900000 → m ≤ 900000 → Calls Try.prog 21 #[.agg #[.bool p, .slice A n c], .agg #[.bool q, .slice B m d]] W (RetV W (.int .i64 (cc))))) (T2 : Hid (∀ W, Calls Try.prog 9 #[.agg #[.int .i64 (hiW z), .int .u64 (loW z)], .agg #[.int .i64 (hiW b), .int .u64 (loW b)], .int .i64 m] W (fun o w' => o = .returned (.tuple #[.agg #[.int .i64 (hiW z), .int .u64 (loW z)], .int .i64 0]) ∧ Below W.heap.size W w'))) (AL : Hid (∀ W, Calls Try.prog 11 #[] W (fun o w' => o = .returned (.bool true) ∧ Below W.heap.size W w'))) (w : World) :
    Calls Try.prog 7 #[.agg #[.int .i64 (hiW a), .int .u64 (loW a)], .agg #[.int .i64 (hiW b), .int .u64 (loW b)], .int .i64 m] w (RetV w (.bool true)) := by
  go_enter Try.func7, Try.ntmps7
  go_wp2_with fail
  have KM := (((BM.nil w).more2 (.int .i64 (hiW a)) (.int .u64 (loW a)) 24).more2 (.int .i64 (hiW b)) (.int .u64 (loW b)) 24)
  try simp only [World.size_alloc] at KM
  generalize ((w.alloc (.cells #[.int .i64 (hiW a), .int .u64 (loW a)] 24)).alloc (.cells #[.int .i64 (hiW b), .int .u64 (loW b)] 24)) = w0 at *
  refine (T1.out _).mono ?_
  rintro e w1 ⟨rfl, k⟩
  replace KM := KM.below k
  clear k
  go_upto_region 2 with (fail)
  have hlg := KM.head.lt
  replace KM := KM.more2 (.int .i64 (hiW z)) (.int .u64 (loW z)) 24
  generalize w1.alloc (.cells #[.int .i64 (hiW z), .int .u64 (loW z)] 24) = w2 at *
  have ig0 : w1.heap.size ≠ w.heap.size + 1 := by omega
  have ig1 : w1.heap.size ≠ w.heap.size := by omega
  generalize w1.heap.size = g at *
  go_upto_region 4 with (fail)
  obtain ⟨lo, st, hlo⟩ := KM.preD (KM.tail.tail.head).lt
  have la0 : g ≤ lo := hlo (g, [.int .i64 (hiW z), .int .u64 (loW z)]) (by simp)
  have la1 : w.heap.size + 1 ≤ lo := hlo (w.heap.size + 1, [.int .i64 (hiW b), .int .u64 (loW b)]) (by simp)
  have la2 : w.heap.size ≤ lo := hlo (w.heap.size, [.int .i64 (hiW a), .int .u64 (loW a)]) (by simp)
  clear hlo
  go_cut [9] (fun v9 wx => OneCut lo (BM w [(g, [.int .i64 (hiW z), .int .u64 (loW z)]), (w.heap.size + 1, [.int .i64 (hiW b), .int .u64 (loW b)]), (w.heap.size, [.int .i64 (hiW a), .int .u64 (loW a)])] []) (E) v9 wx)
  case first =>
    obtain ⟨_, ja0, jb0, _, _⟩ := (KM.head).two
    obtain ⟨_, ja1, jb1, _, _⟩ := (KM.tail.tail.head).two
    clear KM
    have ⟨gp0, gq0⟩ := behindG st.lt la0
    have ⟨gp1, gq1⟩ := behindG st.lt la2
    go_region_held3 (fun w' => w'.cell? ⟨g, 0, none⟩ = some (.int .i64 (hiW z)) ∧ w'.cell? ⟨g, 1, none⟩ = some (.int .u64 (loW z)) ∧ w'.cell? ⟨w.heap.size, 0, none⟩ = some (.int .i64 (hiW a)) ∧ w'.cell? ⟨w.heap.size, 1, none⟩ = some (.int .u64 (loW a))) (first | (with_reducible exact ⟨(st.k.head).two.2.1, (st.k.head).two.2.2.1, (st.k.tail.tail.head).two.2.1, (st.k.tail.tail.head).two.2.2.1⟩) | (with_reducible exact ⟨(st.alloc1.k.head).two.2.1, (st.alloc1.k.head).two.2.2.1, (st.alloc1.k.tail.tail.head).two.2.1, (st.alloc1.k.tail.tail.head).two.2.2.1⟩) | (with_reducible exact ⟨(st.alloc2.k.head).two.2.1, (st.alloc2.k.head).two.2.2.1, (st.alloc2.k.tail.tail.head).two.2.1, (st.alloc2.k.tail.tail.head).two.2.2.1⟩) | (with_reducible exact ⟨(st.drew.k.head).two.2.1, (st.drew.k.head).two.2.2.1, (st.drew.k.tail.tail.head).two.2.1, (st.drew.k.tail.tail.head).two.2.2.1⟩) | (with_reducible exact ⟨(st.alloc1.drew.k.head).two.2.1, (st.alloc1.drew.k.head).two.2.2.1, (st.alloc1.drew.k.tail.tail.head).two.2.1, (st.alloc1.drew.k.tail.tail.head).two.2.2.1⟩) | (with_reducible exact ⟨(st.alloc2.drew.k.head).two.2.1, (st.alloc2.drew.k.head).two.2.2.1, (st.alloc2.drew.k.tail.tail.head).two.2.1, (st.alloc2.drew.k.tail.tail.head).two.2.2.1⟩) | go_keep)
      (first
        | (go_at_call 19; (with_reducible refine (OZ.out _).mono ?_); rintro e x5 ⟨p5, A5, n5, c5, rfl, z5, k⟩
           have l5 := z5.small sz.out
           with_reducible (first | replace st := st.below k | replace st := st.alloc1.below k | replace st := st.alloc2.below k | replace st := st.drew.below k | replace st := st.alloc1.drew.below k | replace st := st.alloc2.drew.below k)
           clear k
           obtain ⟨_, ka0, kb0, _, _⟩ := (st.k.head).two
           obtain ⟨_, ka1, kb1, _, _⟩ := (st.k.tail.tail.head).two
           obtain ⟨gp0, gq0⟩ := behindG st.lt la0
           try obtain ⟨gr0, gs0⟩ := behindG (st.ge _ (List.mem_cons_self ..)) la0
           try obtain ⟨gt0, gu0⟩ := behindG (st.ge _ (List.mem_cons_of_mem _ (List.mem_cons_self ..))) la0
           obtain ⟨gp1, gq1⟩ := behindG st.lt la2
           try obtain ⟨gr1, gs1⟩ := behindG (st.ge _ (List.mem_cons_self ..)) la2
           try obtain ⟨gt1, gu1⟩ := behindG (st.ge _ (List.mem_cons_of_mem _ (List.mem_cons_self ..))) la2
           try obtain ⟨_, y0, y1, y2, y3⟩ := st.al _ (List.mem_cons_self ..)
           try obtain ⟨_, y4, y5, y6, y7⟩ := st.al _ (List.mem_cons_of_mem _ (List.mem_cons_self ..)))
        | (go_at_call 19; (with_reducible refine (OA.out _).mono ?_); rintro e x6 ⟨p6, A6, n6, c6, rfl, z6, k⟩
           have l6 := z6.small sa.out
           with_reducible (first | replace z5 := z5.below k | replace z5 := (z5.below (below_box _ _)).below k | replace z5 := z5.drew.below k | replace z5 := (z5.below (below_box _ _)).drew.below k | replace z5 := ((z5.below (below_box _ _)).below (below_box _ _)).below k | replace z5 := ((z5.below (below_box _ _)).below (below_box _ _)).drew.below k)
           with_reducible (first | replace st := st.below k | replace st := st.alloc1.below k | replace st := st.alloc2.below k | replace st := st.drew.below k | replace st := st.alloc1.drew.below k | replace st := st.alloc2.drew.below k)
           clear k
           obtain ⟨_, ka0, kb0, _, _⟩ := (st.k.head).two
           obtain ⟨_, ka1, kb1, _, _⟩ := (st.k.tail.tail.head).two
           obtain ⟨gp0, gq0⟩ := behindG st.lt la0
           try obtain ⟨gr0, gs0⟩ := behindG (st.ge _ (List.mem_cons_self ..)) la0
           try obtain ⟨gt0, gu0⟩ := behindG (st.ge _ (List.mem_cons_of_mem _ (List.mem_cons_self ..))) la0
           obtain ⟨gp1, gq1⟩ := behindG st.lt la2
           try obtain ⟨gr1, gs1⟩ := behindG (st.ge _ (List.mem_cons_self ..)) la2
           try obtain ⟨gt1, gu1⟩ := behindG (st.ge _ (List.mem_cons_of_mem _ (List.mem_cons_self ..))) la2
           try obtain ⟨_, y0, y1, y2, y3⟩ := st.al _ (List.mem_cons_self ..)
           try obtain ⟨_, y4, y5, y6, y7⟩ := st.al _ (List.mem_cons_of_mem _ (List.mem_cons_self ..)))
        | (go_at_call 18; (with_reducible refine (SU.out p5 p6 A5 A6 n5 n6 c5 c6 _ (by with_reducible first | exact z5 | exact (z5.below (below_box _ _)) | exact z5.drew | exact (z5.below (below_box _ _)).drew | exact ((z5.below (below_box _ _)).below (below_box _ _)) | exact ((z5.below (below_box _ _)).below (below_box _ _)).drew) (by with_reducible first | exact z6 | exact (z6.below (below_box _ _)) | exact z6.drew | exact (z6.below (below_box _ _)).drew | exact ((z6.below (below_box _ _)).below (below_box _ _)) | exact ((z6.below (below_box _ _)).below (below_box _ _)).drew) (by omega) (by omega)).mono ?_); rintro e x7 ⟨p7, A7, n7, c7, rfl, z7, k⟩
           have l7 := z7.small sd.out
           with_reducible (first | replace st := st.below k | replace st := st.alloc1.below k | replace st := st.alloc2.below k | replace st := st.drew.below k | replace st := st.alloc1.drew.below k | replace st := st.alloc2.drew.below k)
           clear k
           obtain ⟨_, ka0, kb0, _, _⟩ := (st.k.head).two
           obtain ⟨_, ka1, kb1, _, _⟩ := (st.k.tail.tail.head).two
           obtain ⟨gp0, gq0⟩ := behindG st.lt la0
           try obtain ⟨gr0, gs0⟩ := behindG (st.ge _ (List.mem_cons_self ..)) la0
           try obtain ⟨gt0, gu0⟩ := behindG (st.ge _ (List.mem_cons_of_mem _ (List.mem_cons_self ..))) la0
           obtain ⟨gp1, gq1⟩ := behindG st.lt la2
           try obtain ⟨gr1, gs1⟩ := behindG (st.ge _ (List.mem_cons_self ..)) la2
           try obtain ⟨gt1, gu1⟩ := behindG (st.ge _ (List.mem_cons_of_mem _ (List.mem_cons_self ..))) la2
           try obtain ⟨_, y0, y1, y2, y3⟩ := st.al _ (List.mem_cons_self ..)
           try obtain ⟨_, y4, y5, y6, y7⟩ := st.al _ (List.mem_cons_of_mem _ (List.mem_cons_self ..)))
        | (go_at_call 17; (with_reducible refine (AB.out p7 A7 n7 c7 _ (by with_reducible first | exact z7 | exact (z7.below (below_box _ _)) | exact z7.drew | exact (z7.below (below_box _ _)).drew | exact ((z7.below (below_box _ _)).below (below_box _ _)) | exact ((z7.below (below_box _ _)).below (below_box _ _)).drew) (by omega)).mono ?_); rintro e x8 ⟨p8, A8, n8, c8, rfl, z8, k⟩
           with_reducible (first | replace st := st.below k | replace st := st.alloc1.below k | replace st := st.alloc2.below k | replace st := st.drew.below k | replace st := st.alloc1.drew.below k | replace st := st.alloc2.drew.below k)
           clear k
           obtain ⟨_, ka0, kb0, _, _⟩ := (st.k.head).two
           obtain ⟨_, ka1, kb1, _, _⟩ := (st.k.tail.tail.head).two
           obtain ⟨gp0, gq0⟩ := behindG st.lt la0
           try obtain ⟨gr0, gs0⟩ := behindG (st.ge _ (List.mem_cons_self ..)) la0
           try obtain ⟨gt0, gu0⟩ := behindG (st.ge _ (List.mem_cons_of_mem _ (List.mem_cons_self ..))) la0
           obtain ⟨gp1, gq1⟩ := behindG st.lt la2
           try obtain ⟨gr1, gs1⟩ := behindG (st.ge _ (List.mem_cons_self ..)) la2
           try obtain ⟨gt1, gu1⟩ := behindG (st.ge _ (List.mem_cons_of_mem _ (List.mem_cons_self ..))) la2
           try obtain ⟨_, y0, y1, y2, y3⟩ := st.al _ (List.mem_cons_self ..)
           try obtain ⟨_, y4, y5, y6, y7⟩ := st.al _ (List.mem_cons_of_mem _ (List.mem_cons_self ..))))
    all_goals
      go_wp2_with fail
      go_meet
      refine ⟨_, p8, A8, n8, c8, rfl, ?_⟩
      with_reducible first | exact st.one1 z8 | exact st.one2 z8
  case rest =>
  clear st
  obtain ⟨h, ph, Ah, nh, ch, rfl, s0⟩ := hcut
  have KM := (s0.k.consBox s0.bx).ncons s0.zx
  have ggh := s0.gg
  have nh0 : h ≠ g := by omega
  have nh1 : h ≠ w.heap.size + 1 := by omega
  have nh2 : h ≠ w.heap.size := by omega
  clear s0
  have lh := (KM.num).small se.out
  obtain ⟨_, ba, bb, bc, bd⟩ := (KM.tail.tail.head).two
  go_wp2_with fail
  clear ba bb bc bd
  refine (OB.out _).mono ?_
  rintro e w3 ⟨p3, A3, n3, c3, rfl, z3, k⟩
  have l3 := z3.small sb.out
  replace KM := (KM.below k).ncons z3
  clear k z3
  go_upto_region 6 with (fail)
  have hlj := KM.head.lt
  replace KM := KM.more2 (.bool p3) (.slice A3 n3 c3) 38
  generalize w3.alloc (.cells #[.bool p3, .slice A3 n3 c3] 38) = w4 at *
  have ij0 : w3.heap.size ≠ h := by omega
  have ij1 : w3.heap.size ≠ g := by omega
  have ij2 : w3.heap.size ≠ w.heap.size + 1 := by omega
  have ij3 : w3.heap.size ≠ w.heap.size := by omega
  generalize w3.heap.size = j at *
  obtain ⟨lo, st, hlo⟩ := KM.preD (KM.tail.tail.tail.tail.head).lt
  have la0 : j ≤ lo := hlo (j, [.bool p3, .slice A3 n3 c3]) (by simp)
  have la1 : h ≤ lo := hlo (h, [.bool ph, .slice Ah nh ch]) (by simp)
  have la2 : g ≤ lo := hlo (g, [.int .i64 (hiW z), .int .u64 (loW z)]) (by simp)
  have la3 : w.heap.size + 1 ≤ lo := hlo (w.heap.size + 1, [.int .i64 (hiW b), .int .u64 (loW b)]) (by simp)
  have la4 : w.heap.size ≤ lo := hlo (w.heap.size, [.int .i64 (hiW a), .int .u64 (loW a)]) (by simp)
  clear hlo
  go_cut [11, 12] (fun v11 v12 wx => DivCutD lo (BM w [(j, [.bool p3, .slice A3 n3 c3]), (h, [.bool ph, .slice Ah nh ch]), (g, [.int .i64 (hiW z), .int .u64 (loW z)]), (w.heap.size + 1, [.int .i64 (hiW b), .int .u64 (loW b)]), (w.heap.size, [.int .i64 (hiW a), .int .u64 (loW a)])] [(p3, A3, n3, c3, b), (ph, Ah, nh, ch, E)]) (qq) (0) v11 v12 wx)
  case first =>
    obtain ⟨_, ja0, jb0, _, _⟩ := (KM.tail.tail.head).two
    obtain ⟨_, ja1, jb1, _, _⟩ := (KM.head).two
    clear KM
    have ⟨gp0, gq0⟩ := behindG st.lt la2
    have ⟨gp1, gq1⟩ := behindG st.lt la0
    have ⟨gp2, gq2⟩ := behindG st.lt la4
    go_region_held3 (fun w' => w'.cell? ⟨g, 0, none⟩ = some (.int .i64 (hiW z)) ∧ w'.cell? ⟨g, 1, none⟩ = some (.int .u64 (loW z)) ∧ w'.cell? ⟨j, 0, none⟩ = some (.bool p3) ∧ w'.cell? ⟨j, 1, none⟩ = some (.slice A3 n3 c3)) (first | (with_reducible exact ⟨(st.k.tail.tail.head).two.2.1, (st.k.tail.tail.head).two.2.2.1, (st.k.head).two.2.1, (st.k.head).two.2.2.1⟩) | (with_reducible exact ⟨(st.alloc1.k.tail.tail.head).two.2.1, (st.alloc1.k.tail.tail.head).two.2.2.1, (st.alloc1.k.head).two.2.1, (st.alloc1.k.head).two.2.2.1⟩) | (with_reducible exact ⟨(st.alloc2.k.tail.tail.head).two.2.1, (st.alloc2.k.tail.tail.head).two.2.2.1, (st.alloc2.k.head).two.2.1, (st.alloc2.k.head).two.2.2.1⟩) | (with_reducible exact ⟨(st.drew.k.tail.tail.head).two.2.1, (st.drew.k.tail.tail.head).two.2.2.1, (st.drew.k.head).two.2.1, (st.drew.k.head).two.2.2.1⟩) | (with_reducible exact ⟨(st.alloc1.drew.k.tail.tail.head).two.2.1, (st.alloc1.drew.k.tail.tail.head).two.2.2.1, (st.alloc1.drew.k.head).two.2.1, (st.alloc1.drew.k.head).two.2.2.1⟩) | (with_reducible exact ⟨(st.alloc2.drew.k.tail.tail.head).two.2.1, (st.alloc2.drew.k.tail.tail.head).two.2.2.1, (st.alloc2.drew.k.head).two.2.1, (st.alloc2.drew.k.head).two.2.2.1⟩) | go_keep)
      (first
        | (go_at_call 19; (with_reducible refine (OZ.out _).mono ?_); rintro e x15 ⟨p15, A15, n15, c15, rfl, z15, k⟩
           have l15 := z15.small sz.out
           with_reducible (first | replace st := st.below k | replace st := st.alloc1.below k | replace st := st.alloc2.below k | replace st := st.drew.below k | replace st := st.alloc1.drew.below k | replace st := st.alloc2.drew.below k)
           clear k
           obtain ⟨_, ka0, kb0, _, _⟩ := (st.k.tail.tail.head).two
           obtain ⟨_, ka1, kb1, _, _⟩ := (st.k.head).two
           obtain ⟨gp0, gq0⟩ := behindG st.lt la2
           try obtain ⟨gr0, gs0⟩ := behindG (st.ge _ (List.mem_cons_self ..)) la2
           try obtain ⟨gt0, gu0⟩ := behindG (st.ge _ (List.mem_cons_of_mem _ (List.mem_cons_self ..))) la2
           obtain ⟨gp1, gq1⟩ := behindG st.lt la0
           try obtain ⟨gr1, gs1⟩ := behindG (st.ge _ (List.mem_cons_self ..)) la0
           try obtain ⟨gt1, gu1⟩ := behindG (st.ge _ (List.mem_cons_of_mem _ (List.mem_cons_self ..))) la0
           obtain ⟨gp2, gq2⟩ := behindG st.lt la4
           try obtain ⟨gr2, gs2⟩ := behindG (st.ge _ (List.mem_cons_self ..)) la4
           try obtain ⟨gt2, gu2⟩ := behindG (st.ge _ (List.mem_cons_of_mem _ (List.mem_cons_self ..))) la4
           try obtain ⟨_, y0, y1, y2, y3⟩ := st.al _ (List.mem_cons_self ..)
           try obtain ⟨_, y4, y5, y6, y7⟩ := st.al _ (List.mem_cons_of_mem _ (List.mem_cons_self ..)))
        | (go_at_call 20; (with_reducible refine (DV.out p15 p3 A15 A3 n15 n3 c15 c3 _ (by with_reducible first | exact z15 | exact (z15.below (below_box _ _)) | exact z15.drew | exact (z15.below (below_box _ _)).drew | exact ((z15.below (below_box _ _)).below (below_box _ _)) | exact ((z15.below (below_box _ _)).below (below_box _ _)).drew) (by with_reducible first | exact st.k.num | exact st.alloc1.k.num | exact st.alloc2.k.num | exact st.drew.k.num | exact st.alloc1.drew.k.num | exact st.alloc2.drew.k.num) (by omega) (by omega)).mono ?_); rintro e x16 ⟨p16, A16, n16, c16, p17, A17, n17, c17, rfl, z16, z17, k⟩
           with_reducible (first | replace st := st.below k | replace st := st.alloc1.below k | replace st := st.alloc2.below k | replace st := st.drew.below k | replace st := st.alloc1.drew.below k | replace st := st.alloc2.drew.below k)
           clear k
           obtain ⟨_, ka0, kb0, _, _⟩ := (st.k.tail.tail.head).two
           obtain ⟨_, ka1, kb1, _, _⟩ := (st.k.head).two
           obtain ⟨gp0, gq0⟩ := behindG st.lt la2
           try obtain ⟨gr0, gs0⟩ := behindG (st.ge _ (List.mem_cons_self ..)) la2
           try obtain ⟨gt0, gu0⟩ := behindG (st.ge _ (List.mem_cons_of_mem _ (List.mem_cons_self ..))) la2
           obtain ⟨gp1, gq1⟩ := behindG st.lt la0
           try obtain ⟨gr1, gs1⟩ := behindG (st.ge _ (List.mem_cons_self ..)) la0
           try obtain ⟨gt1, gu1⟩ := behindG (st.ge _ (List.mem_cons_of_mem _ (List.mem_cons_self ..))) la0
           obtain ⟨gp2, gq2⟩ := behindG st.lt la4
           try obtain ⟨gr2, gs2⟩ := behindG (st.ge _ (List.mem_cons_self ..)) la4
           try obtain ⟨gt2, gu2⟩ := behindG (st.ge _ (List.mem_cons_of_mem _ (List.mem_cons_self ..))) la4
           try obtain ⟨_, y0, y1, y2, y3⟩ := st.al _ (List.mem_cons_self ..)
           try obtain ⟨_, y4, y5, y6, y7⟩ := st.al _ (List.mem_cons_of_mem _ (List.mem_cons_self ..))))
    all_goals
      go_wp2_with fail
      go_meet
      refine ⟨_, _, p16, A16, n16, c16, p17, A17, n17, c17, rfl, rfl, ?_⟩
      with_reducible first | exact st.fin1a z16 z17 | exact st.fin1b z16 z17 | exact st.fin2a z16 z17 | exact st.fin2b z16 z17 | exact st.fin3a z16 z17 | exact st.fin3b z16 z17
  case rest =>
  clear st
  obtain ⟨l, r, pl, Al, nl, cl, pr, Ar, nr, cr, rfl, rfl, s0⟩ := hcut
  have KM := (((s0.k.consBox s0.bq).consBox s0.br).ncons s0.zq).ncons s0.zr
  have ggl := s0.gg
  have ggr := s0.gh
  have nel := s0.ne
  have nl0 : l ≠ j := by omega
  have nr0 : r ≠ j := by omega
  have nl1 : l ≠ h := by omega
  have nr1 : r ≠ h := by omega
  have nl2 : l ≠ g := by omega
  have nr2 : r ≠ g := by omega
  have nl3 : l ≠ w.heap.size + 1 := by omega
  have nr3 : r ≠ w.heap.size + 1 := by omega
  have nl4 : l ≠ w.heap.size := by omega
  have nr4 : r ≠ w.heap.size := by omega
  clear s0
  have lr := (KM.num).small (k := 9) (by decide)
  go_upto_region 7 with (fail)
  obtain ⟨_, jra, jrb, _, _⟩ := (KM.head).two
  obtain ⟨_, jsa, jsb, _, _⟩ := (KM.tail.tail.head).two
  obtain ⟨_, jwa, jwb, _, _⟩ := (KM.tail.tail.tail.head).two
  go_region_held3 (fun w' => w'.cell? ⟨r, 0, none⟩ = some (.bool pr) ∧ w'.cell? ⟨r, 1, none⟩ = some (.slice Ar nr cr) ∧ w'.cell? ⟨j, 0, none⟩ = some (.bool p3) ∧ w'.cell? ⟨j, 1, none⟩ = some (.slice A3 n3 c3) ∧ w'.cell? ⟨h, 0, none⟩ = some (.bool ph) ∧ w'.cell? ⟨h, 1, none⟩ = some (.slice Ah nh ch)) (first | (with_reducible exact ⟨(KM.head).two.2.1, (KM.head).two.2.2.1, (KM.tail.tail.head).two.2.1, (KM.tail.tail.head).two.2.2.1, (KM.tail.tail.tail.head).two.2.1, (KM.tail.tail.tail.head).two.2.2.1⟩) | (with_reducible exact ⟨(KM.drew.head).two.2.1, (KM.drew.head).two.2.2.1, (KM.drew.tail.tail.head).two.2.1, (KM.drew.tail.tail.head).two.2.2.1, (KM.drew.tail.tail.tail.head).two.2.1, (KM.drew.tail.tail.tail.head).two.2.2.1⟩) | go_keep)
    (first
      | (go_at_call 21; (with_reducible refine (C1.out ph p3 Ah A3 nh n3 ch c3 _ (by with_reducible first | exact KM.nt.nt.nt.num | exact KM.drew.nt.nt.nt.num) (by with_reducible first | exact KM.nt.nt.num | exact KM.drew.nt.nt.num) (by omega) (by omega)).mono ?_); rintro e W9 ⟨rfl, k⟩
         with_reducible (first | replace KM := KM.below k | replace KM := KM.drew.below k)
         clear k
         obtain ⟨_, kra, krb, _, _⟩ := (KM.head).two
         obtain ⟨_, ksa, ksb, _, _⟩ := (KM.tail.tail.head).two
         obtain ⟨_, kwa, kwb, _, _⟩ := (KM.tail.tail.tail.head).two
         obtain ⟨_, kza, kzb, _, _⟩ := (KM.tail.tail.tail.tail.head).two
         obtain ⟨_, kba, kbb, _, _⟩ := (KM.tail.tail.tail.tail.tail.head).two)
      | (go_at_call 22; (with_reducible refine (SR.out pr Ar nr cr _ (by with_reducible first | exact KM.num | exact KM.drew.num) (by omega)).mono ?_); rintro e W9 ⟨rfl, k⟩
         with_reducible (first | replace KM := KM.below k | replace KM := KM.drew.below k)
         clear k
         obtain ⟨_, kra, krb, _, _⟩ := (KM.head).two
         obtain ⟨_, ksa, ksb, _, _⟩ := (KM.tail.tail.head).two
         obtain ⟨_, kwa, kwb, _, _⟩ := (KM.tail.tail.tail.head).two
         obtain ⟨_, kza, kzb, _, _⟩ := (KM.tail.tail.tail.tail.head).two
         obtain ⟨_, kba, kbb, _, _⟩ := (KM.tail.tail.tail.tail.tail.head).two)
      | (go_at_call 23; (with_reducible refine (AD.out ph ph Ah Ah nh nh ch ch _ (by with_reducible first | exact KM.nt.nt.nt.num | exact KM.drew.nt.nt.nt.num) (by with_reducible first | exact KM.nt.nt.nt.num | exact KM.drew.nt.nt.nt.num) (by omega) (by omega)).mono ?_); rintro e W9 ⟨p9, A9, n9, c9, rfl, z9, k⟩
         have l9 := z9.small sg.out
         with_reducible (first | replace KM := KM.below k | replace KM := KM.drew.below k)
         clear k
         obtain ⟨_, kra, krb, _, _⟩ := (KM.head).two
         obtain ⟨_, ksa, ksb, _, _⟩ := (KM.tail.tail.head).two
         obtain ⟨_, kwa, kwb, _, _⟩ := (KM.tail.tail.tail.head).two
         obtain ⟨_, kza, kzb, _, _⟩ := (KM.tail.tail.tail.tail.head).two
         obtain ⟨_, kba, kbb, _, _⟩ := (KM.tail.tail.tail.tail.tail.head).two)
      | (go_at_call 21; (with_reducible refine (C2.out p9 p3 A9 A3 n9 n3 c9 c3 _ (by with_reducible first | exact z9 | exact z9.below (Below.refl _ _).drew) (by with_reducible first | exact KM.nt.nt.num | exact KM.drew.nt.nt.num) (by omega) (by omega)).mono ?_); rintro e W9 ⟨rfl, k⟩
         with_reducible (first | replace KM := KM.below k | replace KM := KM.drew.below k)
         clear k
         obtain ⟨_, kra, krb, _, _⟩ := (KM.head).two
         obtain ⟨_, ksa, ksb, _, _⟩ := (KM.tail.tail.head).two
         obtain ⟨_, kwa, kwb, _, _⟩ := (KM.tail.tail.tail.head).two
         obtain ⟨_, kza, kzb, _, _⟩ := (KM.tail.tail.tail.tail.head).two
         obtain ⟨_, kba, kbb, _, _⟩ := (KM.tail.tail.tail.tail.tail.head).two))
  all_goals
    obtain ⟨_, kza, kzb, _, _⟩ := (KM.tail.tail.tail.tail.head).two
    obtain ⟨_, kba, kbb, _, _⟩ := (KM.tail.tail.tail.tail.tail.head).two
    go_wp2_with fail
    refine (T2.out _).mono ?_
    rintro e wd ⟨rfl, k⟩
    replace KM := KM.below k
    clear k
    go_upto_region 10 with (fail)
    have hlv := KM.head.lt
    replace KM := KM.more2 (.int .i64 (hiW z)) (.int .u64 (loW z)) 24
    generalize wd.alloc (.cells #[.int .i64 (hiW z), .int .u64 (loW z)] 24) = we at *
    generalize wd.heap.size = v at *
    go_wp2_with fail
    refine (AL.out _).mono ?_
    rintro e wf ⟨rfl, k⟩
    replace KM := KM.below k
    clear k
    obtain ⟨_, ya, yb, yc, yd⟩ := (KM.head).two
    obtain ⟨_, za, zb, zc, zd⟩ := (KM.tail.tail.tail.tail.tail.head).two
    have HB := KM.hb
    go_wp2
    go_ret
    exact ⟨rfl, HB⟩
set_option maxRecDepth 100000 in
set_option maxHeartbeats 8000000 in
theorem near_low (a b m z D E qq : Int) (hm : ¬ 5 ≤ m) (T1 : Hid (∀ W, Calls Try.prog 9 #[.agg #[.int .i64 (hiW a), .int .u64 (loW a)], .agg #[.int .i64 (hiW b), .int .u64 (loW b)], .int .i64 m] W (fun o w' => o = .returned (.tuple #[.agg #[.int .i64 (hiW z), .int .u64 (loW z)], .int .i64 0]) ∧ Below W.heap.size W w'))) (OZ : Hid (∀ W, Calls Try.prog 19 #[.agg #[.int .i64 (hiW z), .int .u64 (loW z)]] W (RetZ W (z)))) (OA : Hid (∀ W, Calls Try.prog 19 #[.agg #[.int .i64 (hiW a), .int .u64 (loW a)]] W (RetZ W (a)))) (OB : Hid (∀ W, Calls Try.prog 19 #[.agg #[.int .i64 (hiW b), .int .u64 (loW b)]] W (RetZ W (b)))) (sz : Hid ((z).natAbs < 65536 ^ 9)) (sa : Hid ((a).natAbs < 65536 ^ 9)) (sb : Hid ((b).natAbs < 65536 ^ 9)) (SU : Hid (∀ (p q : Bool) (A B : Option Addr) (n m c d : Nat) (W : World), Zs W p A n c (z) → Zs W q B m d (a) → n ≤ 900000 → m ≤ 900000 → Calls Try.prog 18 #[.agg #[.bool p, .slice A n c], .agg #[.bool q, .slice B m d]] W (RetZ W (D)))) (sd : Hid ((D).natAbs < 65536 ^ 9)) (AB : Hid (∀ (p : Bool) (A : Option Addr) (n c : Nat) (W : World), Zs W p A n c (D) → n ≤ 1000000 → Calls Try.prog 17 #[.agg #[.bool p, .slice A n c]] W (RetZ W (E)))) (se : Hid ((E).natAbs < 65536 ^ 9)) (DV : Hid (∀ (p q : Bool) (A B : Option Addr) (n m c d : Nat) (W : World), Zs W p A n c (z) → Zs W q B m d (b) → n ≤ 3000 → m ≤ 3000 → Calls Try.prog 20 #[.agg #[.bool p, .slice A n c], .agg #[.bool q, .slice B m d]] W (RetQR W (qq) (0)))) (C1 : Hid (∀ (p q : Bool) (A B : Option Addr) (n m c d : Nat) (W : World), Zs W p A n c (E) → Zs W q B m d (b) → n ≤ 900000 → m ≤ 900000 → Calls Try.prog 21 #[.agg #[.bool p, .slice A n c], .agg #[.bool q, .slice B m d]] W (RetV W (.int .i64 (-1))))) (SR : Hid (∀ (p : Bool) (A : Option Addr) (n c : Nat) W, Zs W p A n c (0) → n ≤ 900000 → Calls Try.prog 22 #[.agg #[.bool p, .slice A n c]] W (RetV W (.int .i64 0)))) (T2 : Hid (∀ W, Calls Try.prog 9 #[.agg #[.int .i64 (hiW z), .int .u64 (loW z)], .agg #[.int .i64 (hiW b), .int .u64 (loW b)], .int .i64 m] W (fun o w' => o = .returned (.tuple #[.agg #[.int .i64 (hiW z), .int .u64 (loW z)], .int .i64 0]) ∧ Below W.heap.size W w'))) (AL : Hid (∀ W, Calls Try.prog 11 #[] W (fun o w' => o = .returned (.bool true) ∧ Below W.heap.size W w'))) (w : World) :
    Calls Try.prog 7 #[.agg #[.int .i64 (hiW a), .int .u64 (loW a)], .agg #[.int .i64 (hiW b), .int .u64 (loW b)], .int .i64 m] w (RetV w (.bool true)) := by
  have hd1 : decide (5 ≤ m) = false := decide_eq_false hm
  have hd2 : decide (m ≥ 5) = false := decide_eq_false hm
  go_enter Try.func7, Try.ntmps7
  go_wp2_with fail
  have KM := (((BM.nil w).more2 (.int .i64 (hiW a)) (.int .u64 (loW a)) 24).more2 (.int .i64 (hiW b)) (.int .u64 (loW b)) 24)
  try simp only [World.size_alloc] at KM
  generalize ((w.alloc (.cells #[.int .i64 (hiW a), .int .u64 (loW a)] 24)).alloc (.cells #[.int .i64 (hiW b), .int .u64 (loW b)] 24)) = w0 at *
  refine (T1.out _).mono ?_
  rintro e w1 ⟨rfl, k⟩
  replace KM := KM.below k
  clear k
  go_upto_region 2 with (fail)
  have hlg := KM.head.lt
  replace KM := KM.more2 (.int .i64 (hiW z)) (.int .u64 (loW z)) 24
  generalize w1.alloc (.cells #[.int .i64 (hiW z), .int .u64 (loW z)] 24) = w2 at *
  have ig0 : w1.heap.size ≠ w.heap.size + 1 := by omega
  have ig1 : w1.heap.size ≠ w.heap.size := by omega
  generalize w1.heap.size = g at *
  go_upto_region 4 with (fail)
  obtain ⟨lo, st, hlo⟩ := KM.preD (KM.tail.tail.head).lt
  have la0 : g ≤ lo := hlo (g, [.int .i64 (hiW z), .int .u64 (loW z)]) (by simp)
  have la1 : w.heap.size + 1 ≤ lo := hlo (w.heap.size + 1, [.int .i64 (hiW b), .int .u64 (loW b)]) (by simp)
  have la2 : w.heap.size ≤ lo := hlo (w.heap.size, [.int .i64 (hiW a), .int .u64 (loW a)]) (by simp)
  clear hlo
  go_cut [9] (fun v9 wx => OneCut lo (BM w [(g, [.int .i64 (hiW z), .int .u64 (loW z)]), (w.heap.size + 1, [.int .i64 (hiW b), .int .u64 (loW b)]), (w.heap.size, [.int .i64 (hiW a), .int .u64 (loW a)])] []) (E) v9 wx)
  case first =>
    obtain ⟨_, ja0, jb0, _, _⟩ := (KM.head).two
    obtain ⟨_, ja1, jb1, _, _⟩ := (KM.tail.tail.head).two
    clear KM
    have ⟨gp0, gq0⟩ := behindG st.lt la0
    have ⟨gp1, gq1⟩ := behindG st.lt la2
    go_region_held3 (fun w' => w'.cell? ⟨g, 0, none⟩ = some (.int .i64 (hiW z)) ∧ w'.cell? ⟨g, 1, none⟩ = some (.int .u64 (loW z)) ∧ w'.cell? ⟨w.heap.size, 0, none⟩ = some (.int .i64 (hiW a)) ∧ w'.cell? ⟨w.heap.size, 1, none⟩ = some (.int .u64 (loW a))) (first | (with_reducible exact ⟨(st.k.head).two.2.1, (st.k.head).two.2.2.1, (st.k.tail.tail.head).two.2.1, (st.k.tail.tail.head).two.2.2.1⟩) | (with_reducible exact ⟨(st.alloc1.k.head).two.2.1, (st.alloc1.k.head).two.2.2.1, (st.alloc1.k.tail.tail.head).two.2.1, (st.alloc1.k.tail.tail.head).two.2.2.1⟩) | (with_reducible exact ⟨(st.alloc2.k.head).two.2.1, (st.alloc2.k.head).two.2.2.1, (st.alloc2.k.tail.tail.head).two.2.1, (st.alloc2.k.tail.tail.head).two.2.2.1⟩) | (with_reducible exact ⟨(st.drew.k.head).two.2.1, (st.drew.k.head).two.2.2.1, (st.drew.k.tail.tail.head).two.2.1, (st.drew.k.tail.tail.head).two.2.2.1⟩) | (with_reducible exact ⟨(st.alloc1.drew.k.head).two.2.1, (st.alloc1.drew.k.head).two.2.2.1, (st.alloc1.drew.k.tail.tail.head).two.2.1, (st.alloc1.drew.k.tail.tail.head).two.2.2.1⟩) | (with_reducible exact ⟨(st.alloc2.drew.k.head).two.2.1, (st.alloc2.drew.k.head).two.2.2.1, (st.alloc2.drew.k.tail.tail.head).two.2.1, (st.alloc2.drew.k.tail.tail.head).two.2.2.1⟩) | go_keep)
      (first
        | (go_at_call 19; (with_reducible refine (OZ.out _).mono ?_); rintro e x5 ⟨p5, A5, n5, c5, rfl, z5, k⟩
           have l5 := z5.small sz.out
           with_reducible (first | replace st := st.below k | replace st := st.alloc1.below k | replace st := st.alloc2.below k | replace st := st.drew.below k | replace st := st.alloc1.drew.below k | replace st := st.alloc2.drew.below k)
           clear k
           obtain ⟨_, ka0, kb0, _, _⟩ := (st.k.head).two
           obtain ⟨_, ka1, kb1, _, _⟩ := (st.k.tail.tail.head).two
           obtain ⟨gp0, gq0⟩ := behindG st.lt la0
           try obtain ⟨gr0, gs0⟩ := behindG (st.ge _ (List.mem_cons_self ..)) la0
           try obtain ⟨gt0, gu0⟩ := behindG (st.ge _ (List.mem_cons_of_mem _ (List.mem_cons_self ..))) la0
           obtain ⟨gp1, gq1⟩ := behindG st.lt la2
           try obtain ⟨gr1, gs1⟩ := behindG (st.ge _ (List.mem_cons_self ..)) la2
           try obtain ⟨gt1, gu1⟩ := behindG (st.ge _ (List.mem_cons_of_mem _ (List.mem_cons_self ..))) la2
           try obtain ⟨_, y0, y1, y2, y3⟩ := st.al _ (List.mem_cons_self ..)
           try obtain ⟨_, y4, y5, y6, y7⟩ := st.al _ (List.mem_cons_of_mem _ (List.mem_cons_self ..)))
        | (go_at_call 19; (with_reducible refine (OA.out _).mono ?_); rintro e x6 ⟨p6, A6, n6, c6, rfl, z6, k⟩
           have l6 := z6.small sa.out
           with_reducible (first | replace z5 := z5.below k | replace z5 := (z5.below (below_box _ _)).below k | replace z5 := z5.drew.below k | replace z5 := (z5.below (below_box _ _)).drew.below k | replace z5 := ((z5.below (below_box _ _)).below (below_box _ _)).below k | replace z5 := ((z5.below (below_box _ _)).below (below_box _ _)).drew.below k)
           with_reducible (first | replace st := st.below k | replace st := st.alloc1.below k | replace st := st.alloc2.below k | replace st := st.drew.below k | replace st := st.alloc1.drew.below k | replace st := st.alloc2.drew.below k)
           clear k
           obtain ⟨_, ka0, kb0, _, _⟩ := (st.k.head).two
           obtain ⟨_, ka1, kb1, _, _⟩ := (st.k.tail.tail.head).two
           obtain ⟨gp0, gq0⟩ := behindG st.lt la0
           try obtain ⟨gr0, gs0⟩ := behindG (st.ge _ (List.mem_cons_self ..)) la0
           try obtain ⟨gt0, gu0⟩ := behindG (st.ge _ (List.mem_cons_of_mem _ (List.mem_cons_self ..))) la0
           obtain ⟨gp1, gq1⟩ := behindG st.lt la2
           try obtain ⟨gr1, gs1⟩ := behindG (st.ge _ (List.mem_cons_self ..)) la2
           try obtain ⟨gt1, gu1⟩ := behindG (st.ge _ (List.mem_cons_of_mem _ (List.mem_cons_self ..))) la2
           try obtain ⟨_, y0, y1, y2, y3⟩ := st.al _ (List.mem_cons_self ..)
           try obtain ⟨_, y4, y5, y6, y7⟩ := st.al _ (List.mem_cons_of_mem _ (List.mem_cons_self ..)))
        | (go_at_call 18; (with_reducible refine (SU.out p5 p6 A5 A6 n5 n6 c5 c6 _ (by with_reducible first | exact z5 | exact (z5.below (below_box _ _)) | exact z5.drew | exact (z5.below (below_box _ _)).drew | exact ((z5.below (below_box _ _)).below (below_box _ _)) | exact ((z5.below (below_box _ _)).below (below_box _ _)).drew) (by with_reducible first | exact z6 | exact (z6.below (below_box _ _)) | exact z6.drew | exact (z6.below (below_box _ _)).drew | exact ((z6.below (below_box _ _)).below (below_box _ _)) | exact ((z6.below (below_box _ _)).below (below_box _ _)).drew) (by omega) (by omega)).mono ?_); rintro e x7 ⟨p7, A7, n7, c7, rfl, z7, k⟩
           have l7 := z7.small sd.out
           with_reducible (first | replace st := st.below k | replace st := st.alloc1.below k | replace st := st.alloc2.below k | replace st := st.drew.below k | replace st := st.alloc1.drew.below k | replace st := st.alloc2.drew.below k)
           clear k
           obtain ⟨_, ka0, kb0, _, _⟩ := (st.k.head).two
           obtain ⟨_, ka1, kb1, _, _⟩ := (st.k.tail.tail.head).two
           obtain ⟨gp0, gq0⟩ := behindG st.lt la0
           try obtain ⟨gr0, gs0⟩ := behindG (st.ge _ (List.mem_cons_self ..)) la0
           try obtain ⟨gt0, gu0⟩ := behindG (st.ge _ (List.mem_cons_of_mem _ (List.mem_cons_self ..))) la0
           obtain ⟨gp1, gq1⟩ := behindG st.lt la2
           try obtain ⟨gr1, gs1⟩ := behindG (st.ge _ (List.mem_cons_self ..)) la2
           try obtain ⟨gt1, gu1⟩ := behindG (st.ge _ (List.mem_cons_of_mem _ (List.mem_cons_self ..))) la2
           try obtain ⟨_, y0, y1, y2, y3⟩ := st.al _ (List.mem_cons_self ..)
           try obtain ⟨_, y4, y5, y6, y7⟩ := st.al _ (List.mem_cons_of_mem _ (List.mem_cons_self ..)))
        | (go_at_call 17; (with_reducible refine (AB.out p7 A7 n7 c7 _ (by with_reducible first | exact z7 | exact (z7.below (below_box _ _)) | exact z7.drew | exact (z7.below (below_box _ _)).drew | exact ((z7.below (below_box _ _)).below (below_box _ _)) | exact ((z7.below (below_box _ _)).below (below_box _ _)).drew) (by omega)).mono ?_); rintro e x8 ⟨p8, A8, n8, c8, rfl, z8, k⟩
           with_reducible (first | replace st := st.below k | replace st := st.alloc1.below k | replace st := st.alloc2.below k | replace st := st.drew.below k | replace st := st.alloc1.drew.below k | replace st := st.alloc2.drew.below k)
           clear k
           obtain ⟨_, ka0, kb0, _, _⟩ := (st.k.head).two
           obtain ⟨_, ka1, kb1, _, _⟩ := (st.k.tail.tail.head).two
           obtain ⟨gp0, gq0⟩ := behindG st.lt la0
           try obtain ⟨gr0, gs0⟩ := behindG (st.ge _ (List.mem_cons_self ..)) la0
           try obtain ⟨gt0, gu0⟩ := behindG (st.ge _ (List.mem_cons_of_mem _ (List.mem_cons_self ..))) la0
           obtain ⟨gp1, gq1⟩ := behindG st.lt la2
           try obtain ⟨gr1, gs1⟩ := behindG (st.ge _ (List.mem_cons_self ..)) la2
           try obtain ⟨gt1, gu1⟩ := behindG (st.ge _ (List.mem_cons_of_mem _ (List.mem_cons_self ..))) la2
           try obtain ⟨_, y0, y1, y2, y3⟩ := st.al _ (List.mem_cons_self ..)
           try obtain ⟨_, y4, y5, y6, y7⟩ := st.al _ (List.mem_cons_of_mem _ (List.mem_cons_self ..))))
    all_goals
      go_wp2_with fail
      go_meet
      refine ⟨_, p8, A8, n8, c8, rfl, ?_⟩
      with_reducible first | exact st.one1 z8 | exact st.one2 z8
  case rest =>
  clear st
  obtain ⟨h, ph, Ah, nh, ch, rfl, s0⟩ := hcut
  have KM := (s0.k.consBox s0.bx).ncons s0.zx
  have ggh := s0.gg
  have nh0 : h ≠ g := by omega
  have nh1 : h ≠ w.heap.size + 1 := by omega
  have nh2 : h ≠ w.heap.size := by omega
  clear s0
  have lh := (KM.num).small se.out
  obtain ⟨_, ba, bb, bc, bd⟩ := (KM.tail.tail.head).two
  go_wp2_with fail
  clear ba bb bc bd
  refine (OB.out _).mono ?_
  rintro e w3 ⟨p3, A3, n3, c3, rfl, z3, k⟩
  have l3 := z3.small sb.out
  replace KM := (KM.below k).ncons z3
  clear k z3
  go_upto_region 6 with (fail)
  have hlj := KM.head.lt
  replace KM := KM.more2 (.bool p3) (.slice A3 n3 c3) 38
  generalize w3.alloc (.cells #[.bool p3, .slice A3 n3 c3] 38) = w4 at *
  have ij0 : w3.heap.size ≠ h := by omega
  have ij1 : w3.heap.size ≠ g := by omega
  have ij2 : w3.heap.size ≠ w.heap.size + 1 := by omega
  have ij3 : w3.heap.size ≠ w.heap.size := by omega
  generalize w3.heap.size = j at *
  obtain ⟨lo, st, hlo⟩ := KM.preD (KM.tail.tail.tail.tail.head).lt
  have la0 : j ≤ lo := hlo (j, [.bool p3, .slice A3 n3 c3]) (by simp)
  have la1 : h ≤ lo := hlo (h, [.bool ph, .slice Ah nh ch]) (by simp)
  have la2 : g ≤ lo := hlo (g, [.int .i64 (hiW z), .int .u64 (loW z)]) (by simp)
  have la3 : w.heap.size + 1 ≤ lo := hlo (w.heap.size + 1, [.int .i64 (hiW b), .int .u64 (loW b)]) (by simp)
  have la4 : w.heap.size ≤ lo := hlo (w.heap.size, [.int .i64 (hiW a), .int .u64 (loW a)]) (by simp)
  clear hlo
  go_cut [11, 12] (fun v11 v12 wx => DivCutD lo (BM w [(j, [.bool p3, .slice A3 n3 c3]), (h, [.bool ph, .slice Ah nh ch]), (g, [.int .i64 (hiW z), .int .u64 (loW z)]), (w.heap.size + 1, [.int .i64 (hiW b), .int .u64 (loW b)]), (w.heap.size, [.int .i64 (hiW a), .int .u64 (loW a)])] [(p3, A3, n3, c3, b), (ph, Ah, nh, ch, E)]) (qq) (0) v11 v12 wx)
  case first =>
    obtain ⟨_, ja0, jb0, _, _⟩ := (KM.tail.tail.head).two
    obtain ⟨_, ja1, jb1, _, _⟩ := (KM.head).two
    clear KM
    have ⟨gp0, gq0⟩ := behindG st.lt la2
    have ⟨gp1, gq1⟩ := behindG st.lt la0
    have ⟨gp2, gq2⟩ := behindG st.lt la4
    go_region_held3 (fun w' => w'.cell? ⟨g, 0, none⟩ = some (.int .i64 (hiW z)) ∧ w'.cell? ⟨g, 1, none⟩ = some (.int .u64 (loW z)) ∧ w'.cell? ⟨j, 0, none⟩ = some (.bool p3) ∧ w'.cell? ⟨j, 1, none⟩ = some (.slice A3 n3 c3)) (first | (with_reducible exact ⟨(st.k.tail.tail.head).two.2.1, (st.k.tail.tail.head).two.2.2.1, (st.k.head).two.2.1, (st.k.head).two.2.2.1⟩) | (with_reducible exact ⟨(st.alloc1.k.tail.tail.head).two.2.1, (st.alloc1.k.tail.tail.head).two.2.2.1, (st.alloc1.k.head).two.2.1, (st.alloc1.k.head).two.2.2.1⟩) | (with_reducible exact ⟨(st.alloc2.k.tail.tail.head).two.2.1, (st.alloc2.k.tail.tail.head).two.2.2.1, (st.alloc2.k.head).two.2.1, (st.alloc2.k.head).two.2.2.1⟩) | (with_reducible exact ⟨(st.drew.k.tail.tail.head).two.2.1, (st.drew.k.tail.tail.head).two.2.2.1, (st.drew.k.head).two.2.1, (st.drew.k.head).two.2.2.1⟩) | (with_reducible exact ⟨(st.alloc1.drew.k.tail.tail.head).two.2.1, (st.alloc1.drew.k.tail.tail.head).two.2.2.1, (st.alloc1.drew.k.head).two.2.1, (st.alloc1.drew.k.head).two.2.2.1⟩) | (with_reducible exact ⟨(st.alloc2.drew.k.tail.tail.head).two.2.1, (st.alloc2.drew.k.tail.tail.head).two.2.2.1, (st.alloc2.drew.k.head).two.2.1, (st.alloc2.drew.k.head).two.2.2.1⟩) | go_keep)
      (first
        | (go_at_call 19; (with_reducible refine (OZ.out _).mono ?_); rintro e x15 ⟨p15, A15, n15, c15, rfl, z15, k⟩
           have l15 := z15.small sz.out
           with_reducible (first | replace st := st.below k | replace st := st.alloc1.below k | replace st := st.alloc2.below k | replace st := st.drew.below k | replace st := st.alloc1.drew.below k | replace st := st.alloc2.drew.below k)
           clear k
           obtain ⟨_, ka0, kb0, _, _⟩ := (st.k.tail.tail.head).two
           obtain ⟨_, ka1, kb1, _, _⟩ := (st.k.head).two
           obtain ⟨gp0, gq0⟩ := behindG st.lt la2
           try obtain ⟨gr0, gs0⟩ := behindG (st.ge _ (List.mem_cons_self ..)) la2
           try obtain ⟨gt0, gu0⟩ := behindG (st.ge _ (List.mem_cons_of_mem _ (List.mem_cons_self ..))) la2
           obtain ⟨gp1, gq1⟩ := behindG st.lt la0
           try obtain ⟨gr1, gs1⟩ := behindG (st.ge _ (List.mem_cons_self ..)) la0
           try obtain ⟨gt1, gu1⟩ := behindG (st.ge _ (List.mem_cons_of_mem _ (List.mem_cons_self ..))) la0
           obtain ⟨gp2, gq2⟩ := behindG st.lt la4
           try obtain ⟨gr2, gs2⟩ := behindG (st.ge _ (List.mem_cons_self ..)) la4
           try obtain ⟨gt2, gu2⟩ := behindG (st.ge _ (List.mem_cons_of_mem _ (List.mem_cons_self ..))) la4
           try obtain ⟨_, y0, y1, y2, y3⟩ := st.al _ (List.mem_cons_self ..)
           try obtain ⟨_, y4, y5, y6, y7⟩ := st.al _ (List.mem_cons_of_mem _ (List.mem_cons_self ..)))
        | (go_at_call 20; (with_reducible refine (DV.out p15 p3 A15 A3 n15 n3 c15 c3 _ (by with_reducible first | exact z15 | exact (z15.below (below_box _ _)) | exact z15.drew | exact (z15.below (below_box _ _)).drew | exact ((z15.below (below_box _ _)).below (below_box _ _)) | exact ((z15.below (below_box _ _)).below (below_box _ _)).drew) (by with_reducible first | exact st.k.num | exact st.alloc1.k.num | exact st.alloc2.k.num | exact st.drew.k.num | exact st.alloc1.drew.k.num | exact st.alloc2.drew.k.num) (by omega) (by omega)).mono ?_); rintro e x16 ⟨p16, A16, n16, c16, p17, A17, n17, c17, rfl, z16, z17, k⟩
           with_reducible (first | replace st := st.below k | replace st := st.alloc1.below k | replace st := st.alloc2.below k | replace st := st.drew.below k | replace st := st.alloc1.drew.below k | replace st := st.alloc2.drew.below k)
           clear k
           obtain ⟨_, ka0, kb0, _, _⟩ := (st.k.tail.tail.head).two
           obtain ⟨_, ka1, kb1, _, _⟩ := (st.k.head).two
           obtain ⟨gp0, gq0⟩ := behindG st.lt la2
           try obtain ⟨gr0, gs0⟩ := behindG (st.ge _ (List.mem_cons_self ..)) la2
           try obtain ⟨gt0, gu0⟩ := behindG (st.ge _ (List.mem_cons_of_mem _ (List.mem_cons_self ..))) la2
           obtain ⟨gp1, gq1⟩ := behindG st.lt la0
           try obtain ⟨gr1, gs1⟩ := behindG (st.ge _ (List.mem_cons_self ..)) la0
           try obtain ⟨gt1, gu1⟩ := behindG (st.ge _ (List.mem_cons_of_mem _ (List.mem_cons_self ..))) la0
           obtain ⟨gp2, gq2⟩ := behindG st.lt la4
           try obtain ⟨gr2, gs2⟩ := behindG (st.ge _ (List.mem_cons_self ..)) la4
           try obtain ⟨gt2, gu2⟩ := behindG (st.ge _ (List.mem_cons_of_mem _ (List.mem_cons_self ..))) la4
           try obtain ⟨_, y0, y1, y2, y3⟩ := st.al _ (List.mem_cons_self ..)
           try obtain ⟨_, y4, y5, y6, y7⟩ := st.al _ (List.mem_cons_of_mem _ (List.mem_cons_self ..))))
    all_goals
      go_wp2_with fail
      go_meet
      refine ⟨_, _, p16, A16, n16, c16, p17, A17, n17, c17, rfl, rfl, ?_⟩
      with_reducible first | exact st.fin1a z16 z17 | exact st.fin1b z16 z17 | exact st.fin2a z16 z17 | exact st.fin2b z16 z17 | exact st.fin3a z16 z17 | exact st.fin3b z16 z17
  case rest =>
  clear st
  obtain ⟨l, r, pl, Al, nl, cl, pr, Ar, nr, cr, rfl, rfl, s0⟩ := hcut
  have KM := (((s0.k.consBox s0.bq).consBox s0.br).ncons s0.zq).ncons s0.zr
  have ggl := s0.gg
  have ggr := s0.gh
  have nel := s0.ne
  have nl0 : l ≠ j := by omega
  have nr0 : r ≠ j := by omega
  have nl1 : l ≠ h := by omega
  have nr1 : r ≠ h := by omega
  have nl2 : l ≠ g := by omega
  have nr2 : r ≠ g := by omega
  have nl3 : l ≠ w.heap.size + 1 := by omega
  have nr3 : r ≠ w.heap.size + 1 := by omega
  have nl4 : l ≠ w.heap.size := by omega
  have nr4 : r ≠ w.heap.size := by omega
  clear s0
  have lr := (KM.num).small (k := 9) (by decide)
  go_upto_region 7 with (fail)
  replace KM := KM.drew
  refine wp_region_noPanic ?_
  refine wp_region_held_drew (S := (fun w' => w'.cell? ⟨r, 0, none⟩ = some (.bool pr) ∧ w'.cell? ⟨r, 1, none⟩ = some (.slice Ar nr cr) ∧ w'.cell? ⟨j, 0, none⟩ = some (.bool p3) ∧ w'.cell? ⟨j, 1, none⟩ = some (.slice A3 n3 c3) ∧ w'.cell? ⟨h, 0, none⟩ = some (.bool ph) ∧ w'.cell? ⟨h, 1, none⟩ = some (.slice Ah nh ch))) (by kernel_rfl) ⟨(KM.head).two.2.1, (KM.head).two.2.2.1, (KM.tail.tail.head).two.2.1, (KM.tail.tail.head).two.2.2.1, (KM.tail.tail.tail.head).two.2.1, (KM.tail.tail.tail.head).two.2.2.1⟩ (fun hHeld => ?_)
  refine wpAnyH_take (i := 0) (oi := { dst := some 56, op := Op.load 38 (Operand.tmp 9), type := 38, pos := "law.go:81", after := #[], guard := none }) (v := ?_) rfl (by kernel_rfl) (by kernel_rfl) (by kernel_rfl) (fun _ _ _ h => h) (Or.inl ⟨by rfl, ?_⟩) (by assumption) ?_
  rotate_left
  · intro w hSw
    try dsimp only at hSw
    go_simp
    any_goals with_reducible rfl
  try simp only [Act.put, List.setIfInBounds_toArray, List.set_cons_zero, List.set_cons_succ]
  refine wpAnyH_take (i := 1) (oi := { dst := some 57, op := Op.load 38 (Operand.tmp 10), type := 38, pos := "law.go:81", after := #[], guard := none }) (v := ?_) rfl (by kernel_rfl) (by kernel_rfl) (by kernel_rfl) (fun _ _ _ h => h) (Or.inl ⟨by rfl, ?_⟩) (by assumption) ?_
  rotate_left
  · intro w hSw
    try dsimp only at hSw
    go_simp
    any_goals with_reducible rfl
  try simp only [Act.put, List.setIfInBounds_toArray, List.set_cons_zero, List.set_cons_succ]
  refine wpAnyH_ready (rs := [2]) (by kernel_rfl) (by simp) ?_
  refine AllReadyH.cons (o := { dst := some 58, op := Op.call { callee := Callee.value (Operand.func 21), args := #[Operand.tmp 56, Operand.tmp 57], argTypes := #[38, 38] }, type := 3, pos := "law.go:81", after := #[{ on := 0, ground := Ground.data }, { on := 1, ground := Ground.data }], guard := none }) rfl (fun K hK => ?_) AllReadyH.nil
  go_simp
  go_at_call 21
  refine (C1.out ph p3 Ah A3 nh n3 ch c3 _ (by first | exact KM.nt.nt.nt.num | exact KM.drew.nt.nt.nt.num) (by with_reducible first | exact KM.nt.nt.num | exact KM.drew.nt.nt.num) (by omega) (by omega)).mono ?_
  rintro e W9 ⟨rfl, k⟩
  replace KM := KM.below k
  clear k
  refine hK.out _ _ (⟨(KM.head).two.2.1, (KM.head).two.2.2.1, (KM.tail.tail.head).two.2.1, (KM.tail.tail.head).two.2.2.1, (KM.tail.tail.tail.head).two.2.1, (KM.tail.tail.tail.head).two.2.2.1⟩) (fun hHeld => ?_)
  clear hK K
  try simp only [Act.put, List.setIfInBounds_toArray, List.set_cons_zero, List.set_cons_succ]
  refine wpAnyH_take (i := 3) (oi := { dst := some 59, op := Op.binOp BinOp.geq 3 (Operand.tmp 58) (Operand.const (Value.int IntKind.i64 0)) 3, type := 4, pos := "law.go:81", after := #[{ on := 2, ground := Ground.data }], guard := none }) (v := ?_) rfl (by kernel_rfl) (by kernel_rfl) (by kernel_rfl) (fun _ _ _ h => h) (Or.inl ⟨by rfl, ?_⟩) (by assumption) ?_
  rotate_left
  · intro w hSw
    try dsimp only at hSw
    go_simp
    any_goals with_reducible rfl
  try simp only [Act.put, List.setIfInBounds_toArray, List.set_cons_zero, List.set_cons_succ]
  refine wpAnyH_take (i := 4) (oi := { dst := some 60, op := Op.move (Operand.tmp 59), type := 4, pos := "law.go:81", after := #[{ on := 3, ground := Ground.data }, { on := 2, ground := Ground.chain }], guard := none }) (v := ?_) rfl (by kernel_rfl) (by kernel_rfl) (by kernel_rfl) (fun _ _ _ h => h) (Or.inl ⟨by rfl, ?_⟩) (by assumption) ?_
  rotate_left
  · intro w hSw
    try dsimp only at hSw
    go_simp
    any_goals with_reducible rfl
  try simp only [Act.put, List.setIfInBounds_toArray, List.set_cons_zero, List.set_cons_succ]
  refine wpAnyH_take (i := 5) (oi := { dst := some 61, op := Op.load 38 (Operand.tmp 12), type := 38, pos := "law.go:81", after := #[{ on := 4, ground := Ground.guard }], guard := some (4, false) }) (v := ?_) rfl (by kernel_rfl) (by kernel_rfl) (by kernel_rfl) (fun _ _ _ h => h) (Or.inl ⟨by rfl, ?_⟩) (by assumption) ?_
  rotate_left
  · intro w hSw
    try dsimp only at hSw
    go_simp
    any_goals with_reducible rfl
  try simp only [Act.put, List.setIfInBounds_toArray, List.set_cons_zero, List.set_cons_succ]
  refine wpAnyH_ready (rs := [6]) (by kernel_rfl) (by simp) ?_
  refine AllReadyH.cons (o := { dst := some 62, op := Op.call { callee := Callee.value (Operand.func 22), args := #[Operand.tmp 61], argTypes := #[38] }, type := 3, pos := "law.go:81", after := #[{ on := 5, ground := Ground.data }, { on := 4, ground := Ground.chain }, { on := 4, ground := Ground.guard }], guard := some (4, false) }) rfl (fun K hK => ?_) AllReadyH.nil
  go_simp
  go_at_call 22
  refine (SR.out pr Ar nr cr _ (by with_reducible first | exact KM.num | exact KM.drew.num) (by omega)).mono ?_
  rintro e W9 ⟨rfl, k⟩
  replace KM := KM.below k
  clear k
  refine hK.out _ _ (⟨(KM.head).two.2.1, (KM.head).two.2.2.1, (KM.tail.tail.head).two.2.1, (KM.tail.tail.head).two.2.2.1, (KM.tail.tail.tail.head).two.2.1, (KM.tail.tail.tail.head).two.2.2.1⟩) (fun hHeld => ?_)
  clear hK K
  try simp only [Act.put, List.setIfInBounds_toArray, List.set_cons_zero, List.set_cons_succ]
  refine wpAnyH_take (i := 7) (oi := { dst := some 63, op := Op.binOp BinOp.neq 3 (Operand.tmp 62) (Operand.const (Value.int IntKind.i64 0)) 3, type := 4, pos := "law.go:81", after := #[{ on := 6, ground := Ground.data }, { on := 4, ground := Ground.guard }], guard := some (4, false) }) (v := ?_) rfl (by kernel_rfl) (by kernel_rfl) (by kernel_rfl) (fun _ _ _ h => h) (Or.inl ⟨by rfl, ?_⟩) (by assumption) ?_
  rotate_left
  · intro w hSw
    try dsimp only at hSw
    go_simp
    any_goals with_reducible rfl
  try simp only [Act.put, List.setIfInBounds_toArray, List.set_cons_zero, List.set_cons_succ]
  refine wpAnyH_take (i := 8) (oi := { dst := some 64, op := Op.pick (Operand.tmp 60) (Operand.const (Value.bool true)) (Operand.tmp 63), type := 4, pos := "law.go:81", after := #[{ on := 4, ground := Ground.data }, { on := 7, ground := Ground.data }], guard := none }) (v := ?_) rfl (by kernel_rfl) (by kernel_rfl) (by kernel_rfl) (fun _ _ _ h => h) (Or.inl ⟨by rfl, ?_⟩) (by assumption) ?_
  rotate_left
  · intro w hSw
    try dsimp only at hSw
    go_simp
    any_goals with_reducible rfl
  try simp only [Act.put, List.setIfInBounds_toArray, List.set_cons_zero, List.set_cons_succ]
  refine wpAnyH_take (i := 9) (oi := { dst := some 65, op := Op.move (Operand.tmp 64), type := 4, pos := "law.go:81", after := #[{ on := 8, ground := Ground.data }, { on := 6, ground := Ground.chain }], guard := none }) (v := ?_) rfl (by kernel_rfl) (by kernel_rfl) (by kernel_rfl) (fun _ _ _ h => h) (Or.inl ⟨by rfl, ?_⟩) (by assumption) ?_
  rotate_left
  · intro w hSw
    try dsimp only at hSw
    go_simp
    any_goals with_reducible rfl
  try simp only [Act.put, List.setIfInBounds_toArray, List.set_cons_zero, List.set_cons_succ]
  refine wpAnyH_take (i := 10) (oi := { dst := some 66, op := Op.move (Operand.tmp 2), type := 3, pos := "law.go:81", after := #[{ on := 9, ground := Ground.guard }], guard := some (9, false) }) (v := ?_) rfl (by kernel_rfl) (by kernel_rfl) (by kernel_rfl) (fun _ _ _ h => h) (Or.inl ⟨by rfl, ?_⟩) (by assumption) ?_
  rotate_left
  · intro w hSw
    try dsimp only at hSw
    go_simp
    any_goals with_reducible rfl
  try simp only [Act.put, List.setIfInBounds_toArray, List.set_cons_zero, List.set_cons_succ]
  refine wpAnyH_take (i := 11) (oi := { dst := some 67, op := Op.binOp BinOp.geq 3 (Operand.tmp 66) (Operand.const (Value.int IntKind.i64 5)) 3, type := 4, pos := "law.go:81", after := #[{ on := 10, ground := Ground.data }, { on := 9, ground := Ground.guard }], guard := some (9, false) }) (v := ?_) rfl (by kernel_rfl) (by kernel_rfl) (by kernel_rfl) (fun _ _ _ h => h) (Or.inl ⟨by rfl, ?_⟩) (by assumption) ?_
  rotate_left
  · intro w hSw
    try dsimp only at hSw
    go_simp
    any_goals with_reducible rfl
  try simp only [Act.put, List.setIfInBounds_toArray, List.set_cons_zero, List.set_cons_succ]
  refine wpAnyH_take (i := 12) (oi := { dst := some 68, op := Op.move (Operand.tmp 67), type := 4, pos := "law.go:81", after := #[{ on := 11, ground := Ground.data }, { on := 9, ground := Ground.chain }, { on := 9, ground := Ground.guard }], guard := some (9, false) }) (v := ?_) rfl (by kernel_rfl) (by kernel_rfl) (by kernel_rfl) (fun _ _ _ h => h) (Or.inl ⟨by rfl, ?_⟩) (by assumption) ?_
  rotate_left
  · intro w hSw
    try dsimp only at hSw
    go_simp
    any_goals with_reducible rfl
  try simp only [Act.put, List.setIfInBounds_toArray, List.set_cons_zero, List.set_cons_succ]
  refine wpAnyH_take (i := 13) (oi := { dst := some 69, op := Op.load 38 (Operand.tmp 9), type := 38, pos := "law.go:81", after := #[{ on := 12, ground := Ground.guard }], guard := some (12, true) }) (v := undef) rfl (by kernel_rfl) (by kernel_rfl) (by kernel_rfl) (fun _ _ _ h => h) (Or.inr ⟨by rfl, rfl⟩) (by assumption) ?_
  try simp only [Act.put, List.setIfInBounds_toArray, List.set_cons_zero, List.set_cons_succ]
  refine wpAnyH_take (i := 14) (oi := { dst := some 70, op := Op.load 38 (Operand.tmp 9), type := 38, pos := "law.go:81", after := #[{ on := 12, ground := Ground.guard }], guard := some (12, true) }) (v := undef) rfl (by kernel_rfl) (by kernel_rfl) (by kernel_rfl) (fun _ _ _ h => h) (Or.inr ⟨by rfl, rfl⟩) (by assumption) ?_
  try simp only [Act.put, List.setIfInBounds_toArray, List.set_cons_zero, List.set_cons_succ]
  refine wpAnyH_take (i := 15) (oi := { dst := some 71, op := Op.call { callee := Callee.value (Operand.func 23), args := #[Operand.tmp 69, Operand.tmp 70], argTypes := #[38, 38] }, type := 38, pos := "law.go:81", after := #[{ on := 13, ground := Ground.data }, { on := 14, ground := Ground.data }, { on := 12, ground := Ground.chain }, { on := 12, ground := Ground.guard }], guard := some (12, true) }) (v := undef) rfl (by kernel_rfl) (by kernel_rfl) (by kernel_rfl) (fun _ _ _ h => h) (Or.inr ⟨by rfl, rfl⟩) (by assumption) ?_
  try simp only [Act.put, List.setIfInBounds_toArray, List.set_cons_zero, List.set_cons_succ]
  refine wpAnyH_take (i := 16) (oi := { dst := some 72, op := Op.load 38 (Operand.tmp 10), type := 38, pos := "law.go:81", after := #[{ on := 12, ground := Ground.guard }], guard := some (12, true) }) (v := undef) rfl (by kernel_rfl) (by kernel_rfl) (by kernel_rfl) (fun _ _ _ h => h) (Or.inr ⟨by rfl, rfl⟩) (by assumption) ?_
  try simp only [Act.put, List.setIfInBounds_toArray, List.set_cons_zero, List.set_cons_succ]
  refine wpAnyH_take (i := 17) (oi := { dst := some 73, op := Op.call { callee := Callee.value (Operand.func 21), args := #[Operand.tmp 71, Operand.tmp 72], argTypes := #[38, 38] }, type := 3, pos := "law.go:81", after := #[{ on := 15, ground := Ground.data }, { on := 16, ground := Ground.data }, { on := 15, ground := Ground.chain }, { on := 12, ground := Ground.guard }], guard := some (12, true) }) (v := undef) rfl (by kernel_rfl) (by kernel_rfl) (by kernel_rfl) (fun _ _ _ h => h) (Or.inr ⟨by rfl, rfl⟩) (by assumption) ?_
  try simp only [Act.put, List.setIfInBounds_toArray, List.set_cons_zero, List.set_cons_succ]
  refine wpAnyH_take (i := 18) (oi := { dst := some 74, op := Op.binOp BinOp.gtr 3 (Operand.tmp 73) (Operand.const (Value.int IntKind.i64 0)) 3, type := 4, pos := "law.go:81", after := #[{ on := 17, ground := Ground.data }, { on := 12, ground := Ground.guard }], guard := some (12, true) }) (v := undef) rfl (by kernel_rfl) (by kernel_rfl) (by kernel_rfl) (fun _ _ _ h => h) (Or.inr ⟨by rfl, rfl⟩) (by assumption) ?_
  try simp only [Act.put, List.setIfInBounds_toArray, List.set_cons_zero, List.set_cons_succ]
  refine wpAnyH_take (i := 19) (oi := { dst := some 75, op := Op.pick (Operand.tmp 68) (Operand.tmp 74) (Operand.const (Value.bool false)), type := 4, pos := "law.go:81", after := #[{ on := 12, ground := Ground.data }, { on := 18, ground := Ground.data }, { on := 9, ground := Ground.guard }], guard := some (9, false) }) (v := ?_) rfl (by kernel_rfl) (by kernel_rfl) (by kernel_rfl) (fun _ _ _ h => h) (Or.inl ⟨by rfl, ?_⟩) (by assumption) ?_
  rotate_left
  · intro w hSw
    try dsimp only at hSw
    go_simp
    any_goals with_reducible rfl
  try simp only [Act.put, List.setIfInBounds_toArray, List.set_cons_zero, List.set_cons_succ]
  refine wpAnyH_take (i := 20) (oi := { dst := some 76, op := Op.pick (Operand.tmp 65) (Operand.const (Value.bool true)) (Operand.tmp 75), type := 4, pos := "law.go:81", after := #[{ on := 9, ground := Ground.data }, { on := 19, ground := Ground.data }], guard := none }) (v := ?_) rfl (by kernel_rfl) (by kernel_rfl) (by kernel_rfl) (fun _ _ _ h => h) (Or.inl ⟨by rfl, ?_⟩) (by assumption) ?_
  rotate_left
  · intro w hSw
    try dsimp only at hSw
    go_simp
    any_goals with_reducible rfl
  try simp only [Act.put, List.setIfInBounds_toArray, List.set_cons_zero, List.set_cons_succ]
  refine wpAnyH_done (by kernel_rfl) ?_ _
  refine NoPanic.normal ?_
  obtain ⟨_, kza, kzb, _, _⟩ := (KM.tail.tail.tail.tail.head).two
  obtain ⟨_, kba, kbb, _, _⟩ := (KM.tail.tail.tail.tail.tail.head).two
  go_wp2_with fail
  refine (T2.out _).mono ?_
  rintro e wd ⟨rfl, k⟩
  replace KM := KM.below k
  clear k
  go_upto_region 10 with (fail)
  have hlv := KM.head.lt
  replace KM := KM.more2 (.int .i64 (hiW z)) (.int .u64 (loW z)) 24
  generalize wd.alloc (.cells #[.int .i64 (hiW z), .int .u64 (loW z)] 24) = we at *
  generalize wd.heap.size = v at *
  go_wp2_with fail
  refine (AL.out _).mono ?_
  rintro e wf ⟨rfl, k⟩
  replace KM := KM.below k
  clear k
  obtain ⟨_, ya, yb, yc, yd⟩ := (KM.head).two
  obtain ⟨_, za, zb, zc, zd⟩ := (KM.tail.tail.tail.tail.tail.head).two
  have HB := KM.hb
  go_wp2
  go_ret
  exact ⟨rfl, HB⟩
theorem ret_over {w : World} {z : Int} {e : Ending} {w' : World} (hz : ¬ InW z) (h : RetWE w z e w') : e = .returned (.tuple #[.agg #[.int .i64 0, .int .u64 0], .int .i64 2]) ∧ Below w.heap.size w w' := by
  obtain ⟨t1, t2, t3⟩ := told_no hz
  refine ⟨?_, h.2⟩
  rw [h.1, t1, t2, t3]
theorem roundNear_walk (a b m : Int) (ha : InW a) (hb : InW b) (_ : In64 m) (w : World) :
    Calls Try.prog 7 #[.agg #[.int .i64 (hiW a), .int .u64 (loW a)], .agg #[.int .i64 (hiW b), .int .u64 (loW b)], .int .i64 m] w (RetV w (.bool true)) := by
  have A := Lib.hid alive_ret
  by_cases h : m < 1 ∨ 9 < m ∨ b ≤ 0
  · exact near_arg a b m 0 0 (Lib.hid fun W => roundTo_no a b m h W) A w
  · have hb0 : 0 < b := by omega
    have hm : 1 ≤ m ∧ m ≤ 9 := by omega
    have e1 : ∀ (a : Int), nearR a b m = nearZ a b m := fun a => by unfold nearR upN upD; rw [if_neg (by omega), if_neg (by omega)]
    have T1 := fun W => roundTo_any a b m ha hb hb0 hm.1 hm.2 W
    rw [e1] at T1
    have d1 := near_dist (n := a) (d := b) (m := m) hb0
    have d2 := fun h5 => near_half (n := a) (d := b) (m := m) hb0 h5
    rw [Int.mul_comm] at d1 d2
    have st := near_stay (k := nearZ a b m) (d := b) (m := m) hb0
    have qe : (nearZ a b m * b).fdiv b = nearZ a b m ∧ (nearZ a b m * b).fmod b = 0 := by
      obtain ⟨f1, f2⟩ := floor_parts (n := nearZ a b m * b) hb0
      exact ⟨by rw [f1, Int.mul_ediv_cancel _ (by omega)], by rw [f2, Int.mul_emod_left]⟩
    by_cases iz : InW (nearZ a b m * b)
    · have T2 := fun W => roundTo_any (nearZ a b m * b) b m iz hb hb0 hm.1 hm.2 W
      rw [e1, st] at T2
      generalize nearZ a b m * b = z at *
      generalize nearZ a b m = q at *
      have aa := abs_w ha
      have az := abs_w iz
      have ab := abs_w hb
      have hd : (z - a).natAbs < b.natAbs := by omega
      have sd : (z - a).natAbs < 65536 ^ 9 := small_2w (by omega)
      have se : (((z - a).natAbs : Int)).natAbs < 65536 ^ 9 := by rw [Int.natAbs_natCast]; exact sd
      have T1' := Lib.hid (fun W => (T1 W).mono fun _ _ h => ret_in iz h)
      have T2' := Lib.hid (fun W => (T2 W).mono fun _ _ h => ret_in iz h)
      have DV := Lib.hid (fun p q' A B n m' c d W h1 h2 h3 h4 => (by have := div_any p q' A B n m' c d z b W h1 h2 h3 h4 (by omega); rwa [qe.1, qe.2] at this : Calls Try.prog 20 #[.agg #[.bool p, .slice A n c], .agg #[.bool q', .slice B m' d]] W (RetQR W q 0)))
      have C1 := Lib.hid (fun p q' A B n m' c d W h1 h2 h3 h4 => (by have := cmp_any p q' A B n m' c d (((z - a).natAbs : Int)) b W h1 h2 h3 h4; rwa [cmpZ_lt (by omega)] at this : Calls Try.prog 21 #[.agg #[.bool p, .slice A n c], .agg #[.bool q', .slice B m' d]] W (RetV W (.int .i64 (-1)))))
      have SR := Lib.hid (fun p A n c W h1 h2 => (by have := sign_any p A n c 0 W h1 h2; rwa [cmpZ_eq rfl] at this : Calls Try.prog 22 #[.agg #[.bool p, .slice A n c]] W (RetV W (.int .i64 0))))
      have OZ := Lib.hid (fun W => wof_z z iz W)
      have OA := Lib.hid (fun W => wof_z a ha W)
      have OB := Lib.hid (fun W => wof_z b hb W)
      by_cases h5 : 5 ≤ m
      · have d3 := d2 h5
        have hc : ¬ 0 < cmpZ (((z - a).natAbs : Int) + ((z - a).natAbs : Int)) b := by
          rcases Int.lt_trichotomy (((z - a).natAbs : Int) + ((z - a).natAbs : Int)) b with k | k | k
          · rw [cmpZ_lt k]; decide
          · rw [cmpZ_eq k]; decide
          · omega
        refine near_high a b m z (z - a) _ q _ _ h5 hc T1' OZ OA OB (Lib.hid (small_w iz)) (Lib.hid (small_w ha)) (Lib.hid (small_w hb)) (Lib.hid fun p q A B n m c d W h1 h2 h3 h4 => sub_any p q A B n m c d z a W h1 h2 h3 h4) (Lib.hid sd)
          (Lib.hid fun p A n c W h1 h2 => abs_any p A n c (z - a) W h1 h2) (Lib.hid se) DV C1 SR (Lib.hid fun p q A B n m c d W h1 h2 h3 h4 => add_any p q A B n m c d _ _ W h1 h2 h3 h4) (Lib.hid ?_) (Lib.hid fun p q A B n m c d W h1 h2 h3 h4 => cmp_any p q A B n m c d _ b W h1 h2 h3 h4) T2' A w
        rw [show (65536 : Nat) ^ 10 = 65536 ^ 9 * 65536 by decide]
        omega
      · exact near_low a b m z (z - a) _ q h5 T1' OZ OA OB (Lib.hid (small_w iz)) (Lib.hid (small_w ha)) (Lib.hid (small_w hb)) (Lib.hid fun p q A B n m c d W h1 h2 h3 h4 => sub_any p q A B n m c d z a W h1 h2 h3 h4) (Lib.hid sd)
          (Lib.hid fun p A n c W h1 h2 => abs_any p A n c (z - a) W h1 h2) (Lib.hid se) DV C1 SR T2' A w
    · exact near_over a b m 0 0 (Lib.hid fun W => (T1 W).mono fun _ _ h => ret_over iz h) A hm.1 hm.2 w
end Go.Proofs.Ytnopgdheffnfdaa
