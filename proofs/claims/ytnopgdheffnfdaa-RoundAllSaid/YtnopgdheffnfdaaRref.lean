/- The document's answer of layer 4: numbers and fractions rounded, out of what their calls answer. -/
import Derived.Test.YtnopgdheffnfdaaRwalk
import Derived.Test.YtnopgdheffnfdaaGmix
import Derived.Test.YtnopgdheffnfdaaRup
namespace Go.Proofs.Ytnopgdheffnfdaa
open Go.RowKit

set_option maxRecDepth 100000 in
set_option maxHeartbeats 8000000 in
theorem toR_least (a b mo s : Int) (OB : Hid (∀ W, Calls Try.prog 19 #[.agg #[.int .i64 (hiW b), .int .u64 (loW b)]] W (RetZ W (b)))) (sb : Hid ((b).natAbs < 65536 ^ 9)) (SI : Hid (∀ (p : Bool) (A : Option Addr) (n c : Nat) W, Zs W p A n c (b) → n ≤ 900000 → Calls Try.prog 22 #[.agg #[.bool p, .slice A n c]] W (RetV W (.int .i64 s)))) (hs : s ≤ 0) (w : World) :
    Calls Try.prog 10 #[.agg #[.int .i64 (hiW a), .int .u64 (loW a)], .agg #[.int .i64 (hiW b), .int .u64 (loW b)], .int .i64 mo] w (RetNo w 1) := by
  go_enter Try.func10, Try.ntmps10
  go_wp2_with fail
  have KM := ((((BM.nil w).more2 (.int .i64 (hiW a)) (.int .u64 (loW a)) 24).more2 (.int .i64 (hiW b)) (.int .u64 (loW b)) 24).more2 (.int .i64 0) (.int .u64 0) 24)
  try simp only [World.size_alloc] at KM
  generalize (((w.alloc (.cells #[.int .i64 (hiW a), .int .u64 (loW a)] 24)).alloc (.cells #[.int .i64 (hiW b), .int .u64 (loW b)] 24)).alloc (.cells #[.int .i64 0, .int .u64 0] 24)) = w0 at *
  refine (OB.out _).mono ?_
  rintro e w1 ⟨p1, A1, n1, c1, rfl, z1, k⟩
  have l1 := z1.small sb.out
  replace KM := (KM.below k).ncons z1
  clear k z1
  go_upto_region 2 with (fail)
  have hlg := KM.head.lt
  replace KM := KM.more2 (.bool p1) (.slice A1 n1 c1) 38
  generalize w1.alloc (.cells #[.bool p1, .slice A1 n1 c1] 38) = w2 at *
  have ig0 : w1.heap.size ≠ w.heap.size + 1 + 1 := by omega
  have ig1 : w1.heap.size ≠ w.heap.size + 1 := by omega
  have ig2 : w1.heap.size ≠ w.heap.size := by omega
  generalize w1.heap.size = g at *
  obtain ⟨_, da, db, dc, dd⟩ := (KM.head).two
  go_wp2_with fail
  clear da db dc dd
  refine (SI.out _ _ _ _ _ KM.num (by omega)).mono ?_
  rintro e w3 ⟨rfl, k⟩
  replace KM := KM.below k
  clear k
  obtain ⟨_, ra, rb, rc, rd⟩ := (KM.tail.head).two
  go_wp2
  obtain ⟨_, P0, P1, _, _⟩ := ((KM.tail.head).self2 (.int .i64 0) (.int .u64 0)).two
  have HB := (KM.hb.setCell (p := ⟨w.heap.size + 1 + 1, 0, none⟩) (by show _ ≤ w.heap.size + 1 + 1; omega) (.int .i64 0)).setCell (p := ⟨w.heap.size + 1 + 1, 1, none⟩) (by show _ ≤ w.heap.size + 1 + 1; omega) (.int .u64 0)
  exact bodyPost_ret (v := .tuple #[.agg #[.int .i64 0, .int .u64 0], .int .i64 1]) (by simp [results, Try.results10, go_sem, P0, P1]) rfl (⟨rfl, HB⟩)
set_option maxRecDepth 100000 in
set_option maxHeartbeats 8000000 in
theorem toR_mode (a b mo s : Int) (OB : Hid (∀ W, Calls Try.prog 19 #[.agg #[.int .i64 (hiW b), .int .u64 (loW b)]] W (RetZ W (b)))) (sb : Hid ((b).natAbs < 65536 ^ 9)) (SI : Hid (∀ (p : Bool) (A : Option Addr) (n c : Nat) W, Zs W p A n c (b) → n ≤ 900000 → Calls Try.prog 22 #[.agg #[.bool p, .slice A n c]] W (RetV W (.int .i64 s)))) (hs : ¬ s ≤ 0) (OA : Hid (∀ W, Calls Try.prog 19 #[.agg #[.int .i64 (hiW a), .int .u64 (loW a)]] W (RetZ W (a)))) (sa : Hid ((a).natAbs < 65536 ^ 9)) (NN : Hid (∀ (p q : Bool) (A B : Option Addr) (n m c d : Nat) (W : World), Calls Try.prog 30 #[.agg #[.bool p, .slice A n c], .agg #[.bool q, .slice B m d], .int .i64 mo] W (fun e w' => e = .returned (.tuple #[.agg #[.bool false, .slice none 0 0], .bool false]) ∧ Below W.heap.size W w'))) (w : World) :
    Calls Try.prog 10 #[.agg #[.int .i64 (hiW a), .int .u64 (loW a)], .agg #[.int .i64 (hiW b), .int .u64 (loW b)], .int .i64 mo] w (RetNo w 1) := by
  go_enter Try.func10, Try.ntmps10
  go_wp2_with fail
  have KM := ((((BM.nil w).more2 (.int .i64 (hiW a)) (.int .u64 (loW a)) 24).more2 (.int .i64 (hiW b)) (.int .u64 (loW b)) 24).more2 (.int .i64 0) (.int .u64 0) 24)
  try simp only [World.size_alloc] at KM
  generalize (((w.alloc (.cells #[.int .i64 (hiW a), .int .u64 (loW a)] 24)).alloc (.cells #[.int .i64 (hiW b), .int .u64 (loW b)] 24)).alloc (.cells #[.int .i64 0, .int .u64 0] 24)) = w0 at *
  refine (OB.out _).mono ?_
  rintro e w1 ⟨p1, A1, n1, c1, rfl, z1, k⟩
  have l1 := z1.small sb.out
  replace KM := (KM.below k).ncons z1
  clear k z1
  go_upto_region 2 with (fail)
  have hlg := KM.head.lt
  replace KM := KM.more2 (.bool p1) (.slice A1 n1 c1) 38
  generalize w1.alloc (.cells #[.bool p1, .slice A1 n1 c1] 38) = w2 at *
  have ig0 : w1.heap.size ≠ w.heap.size + 1 + 1 := by omega
  have ig1 : w1.heap.size ≠ w.heap.size + 1 := by omega
  have ig2 : w1.heap.size ≠ w.heap.size := by omega
  generalize w1.heap.size = g at *
  obtain ⟨_, da, db, dc, dd⟩ := (KM.head).two
  go_wp2_with fail
  clear da db dc dd
  refine (SI.out _ _ _ _ _ KM.num (by omega)).mono ?_
  rintro e w3 ⟨rfl, k⟩
  replace KM := KM.below k
  clear k
  go_wp2_with fail
  obtain ⟨lo, st, hlo⟩ := KM.preD (KM.tail.tail.tail.head).lt
  have la0 : g ≤ lo := hlo (g, [.bool p1, .slice A1 n1 c1]) (by simp)
  have la1 : w.heap.size + 1 + 1 ≤ lo := hlo (w.heap.size + 1 + 1, [.int .i64 0, .int .u64 0]) (by simp)
  have la2 : w.heap.size + 1 ≤ lo := hlo (w.heap.size + 1, [.int .i64 (hiW b), .int .u64 (loW b)]) (by simp)
  have la3 : w.heap.size ≤ lo := hlo (w.heap.size, [.int .i64 (hiW a), .int .u64 (loW a)]) (by simp)
  clear hlo
  go_cut [9, 10] (fun v9 v10 wx => OneCut lo (BM w [(g, [.bool p1, .slice A1 n1 c1]), (w.heap.size + 1 + 1, [.int .i64 0, .int .u64 0]), (w.heap.size + 1, [.int .i64 (hiW b), .int .u64 (loW b)]), (w.heap.size, [.int .i64 (hiW a), .int .u64 (loW a)])] [(p1, A1, n1, c1, b)]) (0) v9 wx ∧ v10 = .bool false)
  case first =>
    obtain ⟨_, ja0, jb0, _, _⟩ := (KM.tail.tail.tail.head).two
    obtain ⟨_, ja1, jb1, _, _⟩ := (KM.head).two
    clear KM
    have ⟨gp0, gq0⟩ := behindG st.lt la3
    have ⟨gp1, gq1⟩ := behindG st.lt la0
    go_region_held3 (fun w' => w'.cell? ⟨w.heap.size, 0, none⟩ = some (.int .i64 (hiW a)) ∧ w'.cell? ⟨w.heap.size, 1, none⟩ = some (.int .u64 (loW a)) ∧ w'.cell? ⟨g, 0, none⟩ = some (.bool p1) ∧ w'.cell? ⟨g, 1, none⟩ = some (.slice A1 n1 c1)) (first | (with_reducible exact ⟨(st.k.tail.tail.tail.head).two.2.1, (st.k.tail.tail.tail.head).two.2.2.1, (st.k.head).two.2.1, (st.k.head).two.2.2.1⟩) | (with_reducible exact ⟨(st.alloc1.k.tail.tail.tail.head).two.2.1, (st.alloc1.k.tail.tail.tail.head).two.2.2.1, (st.alloc1.k.head).two.2.1, (st.alloc1.k.head).two.2.2.1⟩) | (with_reducible exact ⟨(st.alloc2.k.tail.tail.tail.head).two.2.1, (st.alloc2.k.tail.tail.tail.head).two.2.2.1, (st.alloc2.k.head).two.2.1, (st.alloc2.k.head).two.2.2.1⟩) | (with_reducible exact ⟨(st.drew.k.tail.tail.tail.head).two.2.1, (st.drew.k.tail.tail.tail.head).two.2.2.1, (st.drew.k.head).two.2.1, (st.drew.k.head).two.2.2.1⟩) | (with_reducible exact ⟨(st.alloc1.drew.k.tail.tail.tail.head).two.2.1, (st.alloc1.drew.k.tail.tail.tail.head).two.2.2.1, (st.alloc1.drew.k.head).two.2.1, (st.alloc1.drew.k.head).two.2.2.1⟩) | (with_reducible exact ⟨(st.alloc2.drew.k.tail.tail.tail.head).two.2.1, (st.alloc2.drew.k.tail.tail.tail.head).two.2.2.1, (st.alloc2.drew.k.head).two.2.1, (st.alloc2.drew.k.head).two.2.2.1⟩) | go_keep)
      (first
        | (go_at_call 19; (with_reducible refine (OA.out _).mono ?_); rintro e x5 ⟨p5, A5, n5, c5, rfl, z5, k⟩
           have l5 := z5.small sa.out
           with_reducible (first | replace st := st.below k | replace st := st.alloc1.below k | replace st := st.alloc2.below k | replace st := st.drew.below k | replace st := st.alloc1.drew.below k | replace st := st.alloc2.drew.below k)
           clear k
           obtain ⟨_, ka0, kb0, _, _⟩ := (st.k.tail.tail.tail.head).two
           obtain ⟨_, ka1, kb1, _, _⟩ := (st.k.head).two
           obtain ⟨gp0, gq0⟩ := behindG st.lt la3
           try obtain ⟨gr0, gs0⟩ := behindG (st.ge _ (List.mem_cons_self ..)) la3
           try obtain ⟨gt0, gu0⟩ := behindG (st.ge _ (List.mem_cons_of_mem _ (List.mem_cons_self ..))) la3
           obtain ⟨gp1, gq1⟩ := behindG st.lt la0
           try obtain ⟨gr1, gs1⟩ := behindG (st.ge _ (List.mem_cons_self ..)) la0
           try obtain ⟨gt1, gu1⟩ := behindG (st.ge _ (List.mem_cons_of_mem _ (List.mem_cons_self ..))) la0
           try obtain ⟨_, y0, y1, y2, y3⟩ := st.al _ (List.mem_cons_self ..)
           try obtain ⟨_, y4, y5, y6, y7⟩ := st.al _ (List.mem_cons_of_mem _ (List.mem_cons_self ..)))
        | (go_at_call 30; (with_reducible refine (NN.out _ _ _ _ _ _ _ _ _).mono ?_); rintro e x6 ⟨rfl, k⟩
           with_reducible (first | replace st := st.below k | replace st := st.alloc1.below k | replace st := st.alloc2.below k | replace st := st.drew.below k | replace st := st.alloc1.drew.below k | replace st := st.alloc2.drew.below k)
           clear k
           obtain ⟨_, ka0, kb0, _, _⟩ := (st.k.tail.tail.tail.head).two
           obtain ⟨_, ka1, kb1, _, _⟩ := (st.k.head).two
           obtain ⟨gp0, gq0⟩ := behindG st.lt la3
           try obtain ⟨gr0, gs0⟩ := behindG (st.ge _ (List.mem_cons_self ..)) la3
           try obtain ⟨gt0, gu0⟩ := behindG (st.ge _ (List.mem_cons_of_mem _ (List.mem_cons_self ..))) la3
           obtain ⟨gp1, gq1⟩ := behindG st.lt la0
           try obtain ⟨gr1, gs1⟩ := behindG (st.ge _ (List.mem_cons_self ..)) la0
           try obtain ⟨gt1, gu1⟩ := behindG (st.ge _ (List.mem_cons_of_mem _ (List.mem_cons_self ..))) la0
           try obtain ⟨_, y0, y1, y2, y3⟩ := st.al _ (List.mem_cons_self ..)
           try obtain ⟨_, y4, y5, y6, y7⟩ := st.al _ (List.mem_cons_of_mem _ (List.mem_cons_self ..))))
    all_goals
      go_wp2_with fail
      go_meet
      refine ⟨⟨_, false, none, 0, 0, rfl, ?_⟩, rfl⟩
      with_reducible first | exact st.one1 (Zs.zero _) | exact st.one2 (Zs.zero _)
  case rest =>
  clear st
  obtain ⟨⟨h, ph, Ah, nh, ch, rfl, s0⟩, rfl⟩ := hcut
  have KM := (s0.k.consBox s0.bx).ncons s0.zx
  have ggh := s0.gg
  have nh0 : h ≠ g := by omega
  have nh1 : h ≠ w.heap.size + 1 + 1 := by omega
  have nh2 : h ≠ w.heap.size + 1 := by omega
  have nh3 : h ≠ w.heap.size := by omega
  clear s0
  obtain ⟨_, ra, rb, rc, rd⟩ := (KM.tail.tail.head).two
  go_wp2
  obtain ⟨_, P0, P1, _, _⟩ := ((KM.tail.tail.head).self2 (.int .i64 0) (.int .u64 0)).two
  have HB := (KM.hb.setCell (p := ⟨w.heap.size + 1 + 1, 0, none⟩) (by show _ ≤ w.heap.size + 1 + 1; omega) (.int .i64 0)).setCell (p := ⟨w.heap.size + 1 + 1, 1, none⟩) (by show _ ≤ w.heap.size + 1 + 1; omega) (.int .u64 0)
  exact bodyPost_ret (v := .tuple #[.agg #[.int .i64 0, .int .u64 0], .int .i64 1]) (by simp [results, Try.results10, go_sem, P0, P1]) rfl (⟨rfl, HB⟩)
set_option maxRecDepth 100000 in
set_option maxHeartbeats 8000000 in
theorem toR_any (a b mo s K P : Int) (OB : Hid (∀ W, Calls Try.prog 19 #[.agg #[.int .i64 (hiW b), .int .u64 (loW b)]] W (RetZ W (b)))) (sb : Hid ((b).natAbs < 65536 ^ 9)) (SI : Hid (∀ (p : Bool) (A : Option Addr) (n c : Nat) W, Zs W p A n c (b) → n ≤ 900000 → Calls Try.prog 22 #[.agg #[.bool p, .slice A n c]] W (RetV W (.int .i64 s)))) (hs : ¬ s ≤ 0) (OA : Hid (∀ W, Calls Try.prog 19 #[.agg #[.int .i64 (hiW a), .int .u64 (loW a)]] W (RetZ W (a)))) (sa : Hid ((a).natAbs < 65536 ^ 9)) (NE : Hid (∀ (p q : Bool) (A B : Option Addr) (n m c d : Nat) (W : World), Zs W p A n c (a) → Zs W q B m d (b) → Calls Try.prog 30 #[.agg #[.bool p, .slice A n c], .agg #[.bool q, .slice B m d], .int .i64 mo] W (RetNB W (K)))) (sk : Hid ((K).natAbs < 65536 ^ 9)) (MU : Hid (∀ (p q : Bool) (A B : Option Addr) (n m c d : Nat) (W : World), Zs W p A n c (K) → Zs W q B m d (b) → n ≤ 400000 → m ≤ 400000 → Calls Try.prog 32 #[.agg #[.bool p, .slice A n c], .agg #[.bool q, .slice B m d]] W (RetZ W (P)))) (sp : Hid ((P).natAbs < 65536 ^ 20)) (TD : Hid (∀ (p : Bool) (A : Option Addr) (n c : Nat) (W : World), Zs W p A n c (P) → n ≤ 2000 → Calls Try.prog 31 #[.agg #[.bool p, .slice A n c]] W (RetWE W (P)))) (w : World) :
    Calls Try.prog 10 #[.agg #[.int .i64 (hiW a), .int .u64 (loW a)], .agg #[.int .i64 (hiW b), .int .u64 (loW b)], .int .i64 mo] w (RetWE w P) := by
  go_enter Try.func10, Try.ntmps10
  go_wp2_with fail
  have KM := ((((BM.nil w).more2 (.int .i64 (hiW a)) (.int .u64 (loW a)) 24).more2 (.int .i64 (hiW b)) (.int .u64 (loW b)) 24).more2 (.int .i64 0) (.int .u64 0) 24)
  try simp only [World.size_alloc] at KM
  generalize (((w.alloc (.cells #[.int .i64 (hiW a), .int .u64 (loW a)] 24)).alloc (.cells #[.int .i64 (hiW b), .int .u64 (loW b)] 24)).alloc (.cells #[.int .i64 0, .int .u64 0] 24)) = w0 at *
  refine (OB.out _).mono ?_
  rintro e w1 ⟨p1, A1, n1, c1, rfl, z1, k⟩
  have l1 := z1.small sb.out
  replace KM := (KM.below k).ncons z1
  clear k z1
  go_upto_region 2 with (fail)
  have hlg := KM.head.lt
  replace KM := KM.more2 (.bool p1) (.slice A1 n1 c1) 38
  generalize w1.alloc (.cells #[.bool p1, .slice A1 n1 c1] 38) = w2 at *
  have ig0 : w1.heap.size ≠ w.heap.size + 1 + 1 := by omega
  have ig1 : w1.heap.size ≠ w.heap.size + 1 := by omega
  have ig2 : w1.heap.size ≠ w.heap.size := by omega
  generalize w1.heap.size = g at *
  obtain ⟨_, da, db, dc, dd⟩ := (KM.head).two
  go_wp2_with fail
  clear da db dc dd
  refine (SI.out _ _ _ _ _ KM.num (by omega)).mono ?_
  rintro e w3 ⟨rfl, k⟩
  replace KM := KM.below k
  clear k
  go_wp2_with fail
  obtain ⟨lo, st, hlo⟩ := KM.preD (KM.tail.tail.tail.head).lt
  have la0 : g ≤ lo := hlo (g, [.bool p1, .slice A1 n1 c1]) (by simp)
  have la1 : w.heap.size + 1 + 1 ≤ lo := hlo (w.heap.size + 1 + 1, [.int .i64 0, .int .u64 0]) (by simp)
  have la2 : w.heap.size + 1 ≤ lo := hlo (w.heap.size + 1, [.int .i64 (hiW b), .int .u64 (loW b)]) (by simp)
  have la3 : w.heap.size ≤ lo := hlo (w.heap.size, [.int .i64 (hiW a), .int .u64 (loW a)]) (by simp)
  clear hlo
  go_cut [9, 10] (fun v9 v10 wx => OneCut lo (BM w [(g, [.bool p1, .slice A1 n1 c1]), (w.heap.size + 1 + 1, [.int .i64 0, .int .u64 0]), (w.heap.size + 1, [.int .i64 (hiW b), .int .u64 (loW b)]), (w.heap.size, [.int .i64 (hiW a), .int .u64 (loW a)])] [(p1, A1, n1, c1, b)]) (K) v9 wx ∧ v10 = .bool true)
  case first =>
    obtain ⟨_, ja0, jb0, _, _⟩ := (KM.tail.tail.tail.head).two
    obtain ⟨_, ja1, jb1, _, _⟩ := (KM.head).two
    clear KM
    have ⟨gp0, gq0⟩ := behindG st.lt la3
    have ⟨gp1, gq1⟩ := behindG st.lt la0
    go_region_held3 (fun w' => w'.cell? ⟨w.heap.size, 0, none⟩ = some (.int .i64 (hiW a)) ∧ w'.cell? ⟨w.heap.size, 1, none⟩ = some (.int .u64 (loW a)) ∧ w'.cell? ⟨g, 0, none⟩ = some (.bool p1) ∧ w'.cell? ⟨g, 1, none⟩ = some (.slice A1 n1 c1)) (first | (with_reducible exact ⟨(st.k.tail.tail.tail.head).two.2.1, (st.k.tail.tail.tail.head).two.2.2.1, (st.k.head).two.2.1, (st.k.head).two.2.2.1⟩) | (with_reducible exact ⟨(st.alloc1.k.tail.tail.tail.head).two.2.1, (st.alloc1.k.tail.tail.tail.head).two.2.2.1, (st.alloc1.k.head).two.2.1, (st.alloc1.k.head).two.2.2.1⟩) | (with_reducible exact ⟨(st.alloc2.k.tail.tail.tail.head).two.2.1, (st.alloc2.k.tail.tail.tail.head).two.2.2.1, (st.alloc2.k.head).two.2.1, (st.alloc2.k.head).two.2.2.1⟩) | (with_reducible exact ⟨(st.drew.k.tail.tail.tail.head).two.2.1, (st.drew.k.tail.tail.tail.head).two.2.2.1, (st.drew.k.head).two.2.1, (st.drew.k.head).two.2.2.1⟩) | (with_reducible exact ⟨(st.alloc1.drew.k.tail.tail.tail.head).two.2.1, (st.alloc1.drew.k.tail.tail.tail.head).two.2.2.1, (st.alloc1.drew.k.head).two.2.1, (st.alloc1.drew.k.head).two.2.2.1⟩) | (with_reducible exact ⟨(st.alloc2.drew.k.tail.tail.tail.head).two.2.1, (st.alloc2.drew.k.tail.tail.tail.head).two.2.2.1, (st.alloc2.drew.k.head).two.2.1, (st.alloc2.drew.k.head).two.2.2.1⟩) | go_keep)
      (first
        | (go_at_call 19; (with_reducible refine (OA.out _).mono ?_); rintro e x5 ⟨p5, A5, n5, c5, rfl, z5, k⟩
           have l5 := z5.small sa.out
           with_reducible (first | replace st := st.below k | replace st := st.alloc1.below k | replace st := st.alloc2.below k | replace st := st.drew.below k | replace st := st.alloc1.drew.below k | replace st := st.alloc2.drew.below k)
           clear k
           obtain ⟨_, ka0, kb0, _, _⟩ := (st.k.tail.tail.tail.head).two
           obtain ⟨_, ka1, kb1, _, _⟩ := (st.k.head).two
           obtain ⟨gp0, gq0⟩ := behindG st.lt la3
           try obtain ⟨gr0, gs0⟩ := behindG (st.ge _ (List.mem_cons_self ..)) la3
           try obtain ⟨gt0, gu0⟩ := behindG (st.ge _ (List.mem_cons_of_mem _ (List.mem_cons_self ..))) la3
           obtain ⟨gp1, gq1⟩ := behindG st.lt la0
           try obtain ⟨gr1, gs1⟩ := behindG (st.ge _ (List.mem_cons_self ..)) la0
           try obtain ⟨gt1, gu1⟩ := behindG (st.ge _ (List.mem_cons_of_mem _ (List.mem_cons_self ..))) la0
           try obtain ⟨_, y0, y1, y2, y3⟩ := st.al _ (List.mem_cons_self ..)
           try obtain ⟨_, y4, y5, y6, y7⟩ := st.al _ (List.mem_cons_of_mem _ (List.mem_cons_self ..)))
        | (go_at_call 30; (with_reducible refine (NE.out p5 p1 A5 A1 n5 n1 c5 c1 _ (by with_reducible first | exact z5 | exact (z5.below (below_box _ _)) | exact z5.drew | exact (z5.below (below_box _ _)).drew | exact ((z5.below (below_box _ _)).below (below_box _ _)) | exact ((z5.below (below_box _ _)).below (below_box _ _)).drew) (by with_reducible first | exact st.k.num | exact st.alloc1.k.num | exact st.alloc2.k.num | exact st.drew.k.num | exact st.alloc1.drew.k.num | exact st.alloc2.drew.k.num)).mono ?_); rintro e x6 ⟨p6, A6, n6, c6, rfl, z6, k⟩
           with_reducible (first | replace st := st.below k | replace st := st.alloc1.below k | replace st := st.alloc2.below k | replace st := st.drew.below k | replace st := st.alloc1.drew.below k | replace st := st.alloc2.drew.below k)
           clear k
           obtain ⟨_, ka0, kb0, _, _⟩ := (st.k.tail.tail.tail.head).two
           obtain ⟨_, ka1, kb1, _, _⟩ := (st.k.head).two
           obtain ⟨gp0, gq0⟩ := behindG st.lt la3
           try obtain ⟨gr0, gs0⟩ := behindG (st.ge _ (List.mem_cons_self ..)) la3
           try obtain ⟨gt0, gu0⟩ := behindG (st.ge _ (List.mem_cons_of_mem _ (List.mem_cons_self ..))) la3
           obtain ⟨gp1, gq1⟩ := behindG st.lt la0
           try obtain ⟨gr1, gs1⟩ := behindG (st.ge _ (List.mem_cons_self ..)) la0
           try obtain ⟨gt1, gu1⟩ := behindG (st.ge _ (List.mem_cons_of_mem _ (List.mem_cons_self ..))) la0
           try obtain ⟨_, y0, y1, y2, y3⟩ := st.al _ (List.mem_cons_self ..)
           try obtain ⟨_, y4, y5, y6, y7⟩ := st.al _ (List.mem_cons_of_mem _ (List.mem_cons_self ..))))
    all_goals
      go_wp2_with fail
      go_meet
      refine ⟨⟨_, p6, A6, n6, c6, rfl, ?_⟩, rfl⟩
      with_reducible first | exact st.one1 z6 | exact st.one2 z6
  case rest =>
  clear st
  obtain ⟨⟨h, ph, Ah, nh, ch, rfl, s0⟩, rfl⟩ := hcut
  have KM := (s0.k.consBox s0.bx).ncons s0.zx
  have ggh := s0.gg
  have nh0 : h ≠ g := by omega
  have nh1 : h ≠ w.heap.size + 1 + 1 := by omega
  have nh2 : h ≠ w.heap.size + 1 := by omega
  have nh3 : h ≠ w.heap.size := by omega
  clear s0
  have lh := (KM.num).small sk.out
  obtain ⟨_, ka, kb, kc, kd⟩ := (KM.head).two
  obtain ⟨_, da, db, dc, dd⟩ := (KM.tail.head).two
  go_wp2_with fail
  clear ka kb kc kd da db dc dd
  refine (MU.out _ _ _ _ _ _ _ _ _ KM.num KM.nt.num (by omega) (by omega)).mono ?_
  rintro e w7 ⟨p7, A7, n7, c7, rfl, z7, k⟩
  have l7 := z7.small sp.out
  replace KM := (KM.below k).ncons z7
  clear k z7
  go_wp2_with fail
  refine (TD.out _ _ _ _ _ KM.num (by omega)).mono ?_
  rintro e w8 ⟨rfl, k⟩
  replace KM := KM.below k
  clear k
  obtain ⟨_, ra, rb, rc, rd⟩ := (KM.tail.tail.head).two
  go_wp2
  obtain ⟨_, P0, P1, _, _⟩ := ((KM.tail.tail.head).self2 (.int .i64 (hv P)) (.int .u64 (lv P))).two
  have HB := (KM.hb.setCell (p := ⟨w.heap.size + 1 + 1, 0, none⟩) (by show _ ≤ w.heap.size + 1 + 1; omega) (.int .i64 (hv P))).setCell (p := ⟨w.heap.size + 1 + 1, 1, none⟩) (by show _ ≤ w.heap.size + 1 + 1; omega) (.int .u64 (lv P))
  exact bodyPost_ret (v := .tuple #[.agg #[.int .i64 (hv P), .int .u64 (lv P)], .int .i64 (ev P)]) (by simp [results, Try.results10, go_sem, P0, P1]) rfl (⟨rfl, HB⟩)
set_option maxRecDepth 100000 in
set_option maxHeartbeats 8000000 in
theorem ratioR_less (a b mo : Int) (OA : Hid (∀ W, Calls Try.prog 19 #[.agg #[.int .i64 (hiW a), .int .u64 (loW a)]] W (RetZ W (a)))) (OB : Hid (∀ W, Calls Try.prog 19 #[.agg #[.int .i64 (hiW b), .int .u64 (loW b)]] W (RetZ W (b)))) (sa : Hid ((a).natAbs < 65536 ^ 9)) (sb : Hid ((b).natAbs < 65536 ^ 9)) (hm : mo < 1) (w : World) :
    Calls Try.prog 13 #[.agg #[.int .i64 (hiW a), .int .u64 (loW a)], .agg #[.int .i64 (hiW b), .int .u64 (loW b)], .int .i64 mo] w (RetNo w 1) := by
  go_enter Try.func13, Try.ntmps13
  go_upto_region 1 with (fail)
  have KM := ((((BM.nil w).more2 (.int .i64 (hiW a)) (.int .u64 (loW a)) 24).more2 (.int .i64 (hiW b)) (.int .u64 (loW b)) 24).more2 (.int .i64 0) (.int .u64 0) 24)
  try simp only [World.size_alloc] at KM
  generalize (((w.alloc (.cells #[.int .i64 (hiW a), .int .u64 (loW a)] 24)).alloc (.cells #[.int .i64 (hiW b), .int .u64 (loW b)] 24)).alloc (.cells #[.int .i64 0, .int .u64 0] 24)) = w0 at *
  obtain ⟨lo, st, hlo⟩ := KM.preD (KM.tail.tail.head).lt
  have la0 : w.heap.size + 1 + 1 ≤ lo := hlo (w.heap.size + 1 + 1, [.int .i64 0, .int .u64 0]) (by simp)
  have la1 : w.heap.size + 1 ≤ lo := hlo (w.heap.size + 1, [.int .i64 (hiW b), .int .u64 (loW b)]) (by simp)
  have la2 : w.heap.size ≤ lo := hlo (w.heap.size, [.int .i64 (hiW a), .int .u64 (loW a)]) (by simp)
  clear hlo
  go_cut [8, 9] (fun v8 v9 wx => DivCutD lo (BM w [(w.heap.size + 1 + 1, [.int .i64 0, .int .u64 0]), (w.heap.size + 1, [.int .i64 (hiW b), .int .u64 (loW b)]), (w.heap.size, [.int .i64 (hiW a), .int .u64 (loW a)])] []) (a) (b) v8 v9 wx)
  case first =>
    obtain ⟨_, ja0, jb0, _, _⟩ := (KM.tail.tail.head).two
    obtain ⟨_, ja1, jb1, _, _⟩ := (KM.tail.head).two
    clear KM
    have ⟨gp0, gq0⟩ := behindG st.lt la2
    have ⟨gp1, gq1⟩ := behindG st.lt la1
    go_region_held3 (fun w' => w'.cell? ⟨w.heap.size, 0, none⟩ = some (.int .i64 (hiW a)) ∧ w'.cell? ⟨w.heap.size, 1, none⟩ = some (.int .u64 (loW a)) ∧ w'.cell? ⟨w.heap.size + 1, 0, none⟩ = some (.int .i64 (hiW b)) ∧ w'.cell? ⟨w.heap.size + 1, 1, none⟩ = some (.int .u64 (loW b))) (first | (with_reducible exact ⟨(st.k.tail.tail.head).two.2.1, (st.k.tail.tail.head).two.2.2.1, (st.k.tail.head).two.2.1, (st.k.tail.head).two.2.2.1⟩) | (with_reducible exact ⟨(st.alloc1.k.tail.tail.head).two.2.1, (st.alloc1.k.tail.tail.head).two.2.2.1, (st.alloc1.k.tail.head).two.2.1, (st.alloc1.k.tail.head).two.2.2.1⟩) | (with_reducible exact ⟨(st.alloc2.k.tail.tail.head).two.2.1, (st.alloc2.k.tail.tail.head).two.2.2.1, (st.alloc2.k.tail.head).two.2.1, (st.alloc2.k.tail.head).two.2.2.1⟩) | (with_reducible exact ⟨(st.drew.k.tail.tail.head).two.2.1, (st.drew.k.tail.tail.head).two.2.2.1, (st.drew.k.tail.head).two.2.1, (st.drew.k.tail.head).two.2.2.1⟩) | (with_reducible exact ⟨(st.alloc1.drew.k.tail.tail.head).two.2.1, (st.alloc1.drew.k.tail.tail.head).two.2.2.1, (st.alloc1.drew.k.tail.head).two.2.1, (st.alloc1.drew.k.tail.head).two.2.2.1⟩) | (with_reducible exact ⟨(st.alloc2.drew.k.tail.tail.head).two.2.1, (st.alloc2.drew.k.tail.tail.head).two.2.2.1, (st.alloc2.drew.k.tail.head).two.2.1, (st.alloc2.drew.k.tail.head).two.2.2.1⟩) | go_keep)
      (first
        | (go_at_call 19; (with_reducible refine (OA.out _).mono ?_); rintro e x5 ⟨p5, A5, n5, c5, rfl, z5, k⟩
           have l5 := z5.small sa.out
           with_reducible (first | replace st := st.below k | replace st := st.alloc1.below k | replace st := st.alloc2.below k | replace st := st.drew.below k | replace st := st.alloc1.drew.below k | replace st := st.alloc2.drew.below k)
           clear k
           obtain ⟨_, ka0, kb0, _, _⟩ := (st.k.tail.tail.head).two
           obtain ⟨_, ka1, kb1, _, _⟩ := (st.k.tail.head).two
           obtain ⟨gp0, gq0⟩ := behindG st.lt la2
           try obtain ⟨gr0, gs0⟩ := behindG (st.ge _ (List.mem_cons_self ..)) la2
           try obtain ⟨gt0, gu0⟩ := behindG (st.ge _ (List.mem_cons_of_mem _ (List.mem_cons_self ..))) la2
           obtain ⟨gp1, gq1⟩ := behindG st.lt la1
           try obtain ⟨gr1, gs1⟩ := behindG (st.ge _ (List.mem_cons_self ..)) la1
           try obtain ⟨gt1, gu1⟩ := behindG (st.ge _ (List.mem_cons_of_mem _ (List.mem_cons_self ..))) la1
           try obtain ⟨_, y0, y1, y2, y3⟩ := st.al _ (List.mem_cons_self ..)
           try obtain ⟨_, y4, y5, y6, y7⟩ := st.al _ (List.mem_cons_of_mem _ (List.mem_cons_self ..)))
        | (go_at_call 19; (with_reducible refine (OB.out _).mono ?_); rintro e x6 ⟨p6, A6, n6, c6, rfl, z6, k⟩
           have l6 := z6.small sb.out
           with_reducible (first | replace z5 := z5.below k | replace z5 := (z5.below (below_box _ _)).below k | replace z5 := z5.drew.below k | replace z5 := (z5.below (below_box _ _)).drew.below k | replace z5 := ((z5.below (below_box _ _)).below (below_box _ _)).below k | replace z5 := ((z5.below (below_box _ _)).below (below_box _ _)).drew.below k)
           with_reducible (first | replace st := st.below k | replace st := st.alloc1.below k | replace st := st.alloc2.below k | replace st := st.drew.below k | replace st := st.alloc1.drew.below k | replace st := st.alloc2.drew.below k)
           clear k
           obtain ⟨_, ka0, kb0, _, _⟩ := (st.k.tail.tail.head).two
           obtain ⟨_, ka1, kb1, _, _⟩ := (st.k.tail.head).two
           obtain ⟨gp0, gq0⟩ := behindG st.lt la2
           try obtain ⟨gr0, gs0⟩ := behindG (st.ge _ (List.mem_cons_self ..)) la2
           try obtain ⟨gt0, gu0⟩ := behindG (st.ge _ (List.mem_cons_of_mem _ (List.mem_cons_self ..))) la2
           obtain ⟨gp1, gq1⟩ := behindG st.lt la1
           try obtain ⟨gr1, gs1⟩ := behindG (st.ge _ (List.mem_cons_self ..)) la1
           try obtain ⟨gt1, gu1⟩ := behindG (st.ge _ (List.mem_cons_of_mem _ (List.mem_cons_self ..))) la1
           try obtain ⟨_, y0, y1, y2, y3⟩ := st.al _ (List.mem_cons_self ..)
           try obtain ⟨_, y4, y5, y6, y7⟩ := st.al _ (List.mem_cons_of_mem _ (List.mem_cons_self ..))))
    all_goals
      go_wp2_with fail
      go_meet
      refine ⟨_, _, p5, A5, n5, c5, p6, A6, n6, c6, rfl, rfl, ?_⟩
      with_reducible first | exact st.fin1a z5 z6 | exact st.fin1b z5 z6 | exact st.fin2a z5 z6 | exact st.fin2b z5 z6 | exact st.fin3a z5 z6 | exact st.fin3b z5 z6
  case rest =>
  clear st
  obtain ⟨g, h, pg, Ag, ng, cg, ph, Ah, nh, ch, rfl, rfl, s0⟩ := hcut
  have KM := (((s0.k.consBox s0.bq).consBox s0.br).ncons s0.zq).ncons s0.zr
  have ggg := s0.gg
  have ggh := s0.gh
  have neg := s0.ne
  have ng0 : g ≠ w.heap.size + 1 + 1 := by omega
  have nh0 : h ≠ w.heap.size + 1 + 1 := by omega
  have ng1 : g ≠ w.heap.size + 1 := by omega
  have nh1 : h ≠ w.heap.size + 1 := by omega
  have ng2 : g ≠ w.heap.size := by omega
  have nh2 : h ≠ w.heap.size := by omega
  clear s0
  have lg := (KM.nt.num).small sa.out
  have lh := (KM.num).small sb.out
  obtain ⟨_, ra, rb, rc, rd⟩ := (KM.tail.tail.head).two
  go_wp2
  obtain ⟨_, P0, P1, _, _⟩ := ((KM.tail.tail.head).self2 (.int .i64 0) (.int .u64 0)).two
  have HB := (KM.hb.setCell (p := ⟨w.heap.size + 1 + 1, 0, none⟩) (by show _ ≤ w.heap.size + 1 + 1; omega) (.int .i64 0)).setCell (p := ⟨w.heap.size + 1 + 1, 1, none⟩) (by show _ ≤ w.heap.size + 1 + 1; omega) (.int .u64 0)
  exact bodyPost_ret (v := .tuple #[.agg #[.int .i64 0, .int .u64 0], .int .i64 1]) (by simp [results, Try.results13, go_sem, P0, P1]) rfl (⟨rfl, HB⟩)
set_option maxRecDepth 100000 in
set_option maxHeartbeats 8000000 in
theorem ratioR_more (a b mo : Int) (OA : Hid (∀ W, Calls Try.prog 19 #[.agg #[.int .i64 (hiW a), .int .u64 (loW a)]] W (RetZ W (a)))) (OB : Hid (∀ W, Calls Try.prog 19 #[.agg #[.int .i64 (hiW b), .int .u64 (loW b)]] W (RetZ W (b)))) (sa : Hid ((a).natAbs < 65536 ^ 9)) (sb : Hid ((b).natAbs < 65536 ^ 9)) (hm : ¬ mo < 1) (hn : 9 < mo) (w : World) :
    Calls Try.prog 13 #[.agg #[.int .i64 (hiW a), .int .u64 (loW a)], .agg #[.int .i64 (hiW b), .int .u64 (loW b)], .int .i64 mo] w (RetNo w 1) := by
  go_enter Try.func13, Try.ntmps13
  go_upto_region 1 with (fail)
  have KM := ((((BM.nil w).more2 (.int .i64 (hiW a)) (.int .u64 (loW a)) 24).more2 (.int .i64 (hiW b)) (.int .u64 (loW b)) 24).more2 (.int .i64 0) (.int .u64 0) 24)
  try simp only [World.size_alloc] at KM
  generalize (((w.alloc (.cells #[.int .i64 (hiW a), .int .u64 (loW a)] 24)).alloc (.cells #[.int .i64 (hiW b), .int .u64 (loW b)] 24)).alloc (.cells #[.int .i64 0, .int .u64 0] 24)) = w0 at *
  obtain ⟨lo, st, hlo⟩ := KM.preD (KM.tail.tail.head).lt
  have la0 : w.heap.size + 1 + 1 ≤ lo := hlo (w.heap.size + 1 + 1, [.int .i64 0, .int .u64 0]) (by simp)
  have la1 : w.heap.size + 1 ≤ lo := hlo (w.heap.size + 1, [.int .i64 (hiW b), .int .u64 (loW b)]) (by simp)
  have la2 : w.heap.size ≤ lo := hlo (w.heap.size, [.int .i64 (hiW a), .int .u64 (loW a)]) (by simp)
  clear hlo
  go_cut [8, 9] (fun v8 v9 wx => DivCutD lo (BM w [(w.heap.size + 1 + 1, [.int .i64 0, .int .u64 0]), (w.heap.size + 1, [.int .i64 (hiW b), .int .u64 (loW b)]), (w.heap.size, [.int .i64 (hiW a), .int .u64 (loW a)])] []) (a) (b) v8 v9 wx)
  case first =>
    obtain ⟨_, ja0, jb0, _, _⟩ := (KM.tail.tail.head).two
    obtain ⟨_, ja1, jb1, _, _⟩ := (KM.tail.head).two
    clear KM
    have ⟨gp0, gq0⟩ := behindG st.lt la2
    have ⟨gp1, gq1⟩ := behindG st.lt la1
    go_region_held3 (fun w' => w'.cell? ⟨w.heap.size, 0, none⟩ = some (.int .i64 (hiW a)) ∧ w'.cell? ⟨w.heap.size, 1, none⟩ = some (.int .u64 (loW a)) ∧ w'.cell? ⟨w.heap.size + 1, 0, none⟩ = some (.int .i64 (hiW b)) ∧ w'.cell? ⟨w.heap.size + 1, 1, none⟩ = some (.int .u64 (loW b))) (first | (with_reducible exact ⟨(st.k.tail.tail.head).two.2.1, (st.k.tail.tail.head).two.2.2.1, (st.k.tail.head).two.2.1, (st.k.tail.head).two.2.2.1⟩) | (with_reducible exact ⟨(st.alloc1.k.tail.tail.head).two.2.1, (st.alloc1.k.tail.tail.head).two.2.2.1, (st.alloc1.k.tail.head).two.2.1, (st.alloc1.k.tail.head).two.2.2.1⟩) | (with_reducible exact ⟨(st.alloc2.k.tail.tail.head).two.2.1, (st.alloc2.k.tail.tail.head).two.2.2.1, (st.alloc2.k.tail.head).two.2.1, (st.alloc2.k.tail.head).two.2.2.1⟩) | (with_reducible exact ⟨(st.drew.k.tail.tail.head).two.2.1, (st.drew.k.tail.tail.head).two.2.2.1, (st.drew.k.tail.head).two.2.1, (st.drew.k.tail.head).two.2.2.1⟩) | (with_reducible exact ⟨(st.alloc1.drew.k.tail.tail.head).two.2.1, (st.alloc1.drew.k.tail.tail.head).two.2.2.1, (st.alloc1.drew.k.tail.head).two.2.1, (st.alloc1.drew.k.tail.head).two.2.2.1⟩) | (with_reducible exact ⟨(st.alloc2.drew.k.tail.tail.head).two.2.1, (st.alloc2.drew.k.tail.tail.head).two.2.2.1, (st.alloc2.drew.k.tail.head).two.2.1, (st.alloc2.drew.k.tail.head).two.2.2.1⟩) | go_keep)
      (first
        | (go_at_call 19; (with_reducible refine (OA.out _).mono ?_); rintro e x5 ⟨p5, A5, n5, c5, rfl, z5, k⟩
           have l5 := z5.small sa.out
           with_reducible (first | replace st := st.below k | replace st := st.alloc1.below k | replace st := st.alloc2.below k | replace st := st.drew.below k | replace st := st.alloc1.drew.below k | replace st := st.alloc2.drew.below k)
           clear k
           obtain ⟨_, ka0, kb0, _, _⟩ := (st.k.tail.tail.head).two
           obtain ⟨_, ka1, kb1, _, _⟩ := (st.k.tail.head).two
           obtain ⟨gp0, gq0⟩ := behindG st.lt la2
           try obtain ⟨gr0, gs0⟩ := behindG (st.ge _ (List.mem_cons_self ..)) la2
           try obtain ⟨gt0, gu0⟩ := behindG (st.ge _ (List.mem_cons_of_mem _ (List.mem_cons_self ..))) la2
           obtain ⟨gp1, gq1⟩ := behindG st.lt la1
           try obtain ⟨gr1, gs1⟩ := behindG (st.ge _ (List.mem_cons_self ..)) la1
           try obtain ⟨gt1, gu1⟩ := behindG (st.ge _ (List.mem_cons_of_mem _ (List.mem_cons_self ..))) la1
           try obtain ⟨_, y0, y1, y2, y3⟩ := st.al _ (List.mem_cons_self ..)
           try obtain ⟨_, y4, y5, y6, y7⟩ := st.al _ (List.mem_cons_of_mem _ (List.mem_cons_self ..)))
        | (go_at_call 19; (with_reducible refine (OB.out _).mono ?_); rintro e x6 ⟨p6, A6, n6, c6, rfl, z6, k⟩
           have l6 := z6.small sb.out
           with_reducible (first | replace z5 := z5.below k | replace z5 := (z5.below (below_box _ _)).below k | replace z5 := z5.drew.below k | replace z5 := (z5.below (below_box _ _)).drew.below k | replace z5 := ((z5.below (below_box _ _)).below (below_box _ _)).below k | replace z5 := ((z5.below (below_box _ _)).below (below_box _ _)).drew.below k)
           with_reducible (first | replace st := st.below k | replace st := st.alloc1.below k | replace st := st.alloc2.below k | replace st := st.drew.below k | replace st := st.alloc1.drew.below k | replace st := st.alloc2.drew.below k)
           clear k
           obtain ⟨_, ka0, kb0, _, _⟩ := (st.k.tail.tail.head).two
           obtain ⟨_, ka1, kb1, _, _⟩ := (st.k.tail.head).two
           obtain ⟨gp0, gq0⟩ := behindG st.lt la2
           try obtain ⟨gr0, gs0⟩ := behindG (st.ge _ (List.mem_cons_self ..)) la2
           try obtain ⟨gt0, gu0⟩ := behindG (st.ge _ (List.mem_cons_of_mem _ (List.mem_cons_self ..))) la2
           obtain ⟨gp1, gq1⟩ := behindG st.lt la1
           try obtain ⟨gr1, gs1⟩ := behindG (st.ge _ (List.mem_cons_self ..)) la1
           try obtain ⟨gt1, gu1⟩ := behindG (st.ge _ (List.mem_cons_of_mem _ (List.mem_cons_self ..))) la1
           try obtain ⟨_, y0, y1, y2, y3⟩ := st.al _ (List.mem_cons_self ..)
           try obtain ⟨_, y4, y5, y6, y7⟩ := st.al _ (List.mem_cons_of_mem _ (List.mem_cons_self ..))))
    all_goals
      go_wp2_with fail
      go_meet
      refine ⟨_, _, p5, A5, n5, c5, p6, A6, n6, c6, rfl, rfl, ?_⟩
      with_reducible first | exact st.fin1a z5 z6 | exact st.fin1b z5 z6 | exact st.fin2a z5 z6 | exact st.fin2b z5 z6 | exact st.fin3a z5 z6 | exact st.fin3b z5 z6
  case rest =>
  clear st
  obtain ⟨g, h, pg, Ag, ng, cg, ph, Ah, nh, ch, rfl, rfl, s0⟩ := hcut
  have KM := (((s0.k.consBox s0.bq).consBox s0.br).ncons s0.zq).ncons s0.zr
  have ggg := s0.gg
  have ggh := s0.gh
  have neg := s0.ne
  have ng0 : g ≠ w.heap.size + 1 + 1 := by omega
  have nh0 : h ≠ w.heap.size + 1 + 1 := by omega
  have ng1 : g ≠ w.heap.size + 1 := by omega
  have nh1 : h ≠ w.heap.size + 1 := by omega
  have ng2 : g ≠ w.heap.size := by omega
  have nh2 : h ≠ w.heap.size := by omega
  clear s0
  have lg := (KM.nt.num).small sa.out
  have lh := (KM.num).small sb.out
  obtain ⟨_, ra, rb, rc, rd⟩ := (KM.tail.tail.head).two
  go_wp2
  obtain ⟨_, P0, P1, _, _⟩ := ((KM.tail.tail.head).self2 (.int .i64 0) (.int .u64 0)).two
  have HB := (KM.hb.setCell (p := ⟨w.heap.size + 1 + 1, 0, none⟩) (by show _ ≤ w.heap.size + 1 + 1; omega) (.int .i64 0)).setCell (p := ⟨w.heap.size + 1 + 1, 1, none⟩) (by show _ ≤ w.heap.size + 1 + 1; omega) (.int .u64 0)
  exact bodyPost_ret (v := .tuple #[.agg #[.int .i64 0, .int .u64 0], .int .i64 1]) (by simp [results, Try.results13, go_sem, P0, P1]) rfl (⟨rfl, HB⟩)
set_option maxRecDepth 100000 in
set_option maxHeartbeats 8000000 in
theorem ratioR_zero (a b mo : Int) (OA : Hid (∀ W, Calls Try.prog 19 #[.agg #[.int .i64 (hiW a), .int .u64 (loW a)]] W (RetZ W (a)))) (OB : Hid (∀ W, Calls Try.prog 19 #[.agg #[.int .i64 (hiW b), .int .u64 (loW b)]] W (RetZ W (b)))) (sa : Hid ((a).natAbs < 65536 ^ 9)) (sb : Hid ((b).natAbs < 65536 ^ 9)) (hm : ¬ mo < 1) (hn : ¬ 9 < mo) (SI : Hid (∀ (p : Bool) (A : Option Addr) (n c : Nat) W, Zs W p A n c (b) → n ≤ 900000 → Calls Try.prog 22 #[.agg #[.bool p, .slice A n c]] W (RetV W (.int .i64 0)))) (w : World) :
    Calls Try.prog 13 #[.agg #[.int .i64 (hiW a), .int .u64 (loW a)], .agg #[.int .i64 (hiW b), .int .u64 (loW b)], .int .i64 mo] w (RetNo w 3) := by
  go_enter Try.func13, Try.ntmps13
  go_upto_region 1 with (fail)
  have KM := ((((BM.nil w).more2 (.int .i64 (hiW a)) (.int .u64 (loW a)) 24).more2 (.int .i64 (hiW b)) (.int .u64 (loW b)) 24).more2 (.int .i64 0) (.int .u64 0) 24)
  try simp only [World.size_alloc] at KM
  generalize (((w.alloc (.cells #[.int .i64 (hiW a), .int .u64 (loW a)] 24)).alloc (.cells #[.int .i64 (hiW b), .int .u64 (loW b)] 24)).alloc (.cells #[.int .i64 0, .int .u64 0] 24)) = w0 at *
  obtain ⟨lo, st, hlo⟩ := KM.preD (KM.tail.tail.head).lt
  have la0 : w.heap.size + 1 + 1 ≤ lo := hlo (w.heap.size + 1 + 1, [.int .i64 0, .int .u64 0]) (by simp)
  have la1 : w.heap.size + 1 ≤ lo := hlo (w.heap.size + 1, [.int .i64 (hiW b), .int .u64 (loW b)]) (by simp)
  have la2 : w.heap.size ≤ lo := hlo (w.heap.size, [.int .i64 (hiW a), .int .u64 (loW a)]) (by simp)
  clear hlo
  go_cut [8, 9] (fun v8 v9 wx => DivCutD lo (BM w [(w.heap.size + 1 + 1, [.int .i64 0, .int .u64 0]), (w.heap.size + 1, [.int .i64 (hiW b), .int .u64 (loW b)]), (w.heap.size, [.int .i64 (hiW a), .int .u64 (loW a)])] []) (a) (b) v8 v9 wx)
  case first =>
    obtain ⟨_, ja0, jb0, _, _⟩ := (KM.tail.tail.head).two
    obtain ⟨_, ja1, jb1, _, _⟩ := (KM.tail.head).two
    clear KM
    have ⟨gp0, gq0⟩ := behindG st.lt la2
    have ⟨gp1, gq1⟩ := behindG st.lt la1
    go_region_held3 (fun w' => w'.cell? ⟨w.heap.size, 0, none⟩ = some (.int .i64 (hiW a)) ∧ w'.cell? ⟨w.heap.size, 1, none⟩ = some (.int .u64 (loW a)) ∧ w'.cell? ⟨w.heap.size + 1, 0, none⟩ = some (.int .i64 (hiW b)) ∧ w'.cell? ⟨w.heap.size + 1, 1, none⟩ = some (.int .u64 (loW b))) (first | (with_reducible exact ⟨(st.k.tail.tail.head).two.2.1, (st.k.tail.tail.head).two.2.2.1, (st.k.tail.head).two.2.1, (st.k.tail.head).two.2.2.1⟩) | (with_reducible exact ⟨(st.alloc1.k.tail.tail.head).two.2.1, (st.alloc1.k.tail.tail.head).two.2.2.1, (st.alloc1.k.tail.head).two.2.1, (st.alloc1.k.tail.head).two.2.2.1⟩) | (with_reducible exact ⟨(st.alloc2.k.tail.tail.head).two.2.1, (st.alloc2.k.tail.tail.head).two.2.2.1, (st.alloc2.k.tail.head).two.2.1, (st.alloc2.k.tail.head).two.2.2.1⟩) | (with_reducible exact ⟨(st.drew.k.tail.tail.head).two.2.1, (st.drew.k.tail.tail.head).two.2.2.1, (st.drew.k.tail.head).two.2.1, (st.drew.k.tail.head).two.2.2.1⟩) | (with_reducible exact ⟨(st.alloc1.drew.k.tail.tail.head).two.2.1, (st.alloc1.drew.k.tail.tail.head).two.2.2.1, (st.alloc1.drew.k.tail.head).two.2.1, (st.alloc1.drew.k.tail.head).two.2.2.1⟩) | (with_reducible exact ⟨(st.alloc2.drew.k.tail.tail.head).two.2.1, (st.alloc2.drew.k.tail.tail.head).two.2.2.1, (st.alloc2.drew.k.tail.head).two.2.1, (st.alloc2.drew.k.tail.head).two.2.2.1⟩) | go_keep)
      (first
        | (go_at_call 19; (with_reducible refine (OA.out _).mono ?_); rintro e x5 ⟨p5, A5, n5, c5, rfl, z5, k⟩
           have l5 := z5.small sa.out
           with_reducible (first | replace st := st.below k | replace st := st.alloc1.below k | replace st := st.alloc2.below k | replace st := st.drew.below k | replace st := st.alloc1.drew.below k | replace st := st.alloc2.drew.below k)
           clear k
           obtain ⟨_, ka0, kb0, _, _⟩ := (st.k.tail.tail.head).two
           obtain ⟨_, ka1, kb1, _, _⟩ := (st.k.tail.head).two
           obtain ⟨gp0, gq0⟩ := behindG st.lt la2
           try obtain ⟨gr0, gs0⟩ := behindG (st.ge _ (List.mem_cons_self ..)) la2
           try obtain ⟨gt0, gu0⟩ := behindG (st.ge _ (List.mem_cons_of_mem _ (List.mem_cons_self ..))) la2
           obtain ⟨gp1, gq1⟩ := behindG st.lt la1
           try obtain ⟨gr1, gs1⟩ := behindG (st.ge _ (List.mem_cons_self ..)) la1
           try obtain ⟨gt1, gu1⟩ := behindG (st.ge _ (List.mem_cons_of_mem _ (List.mem_cons_self ..))) la1
           try obtain ⟨_, y0, y1, y2, y3⟩ := st.al _ (List.mem_cons_self ..)
           try obtain ⟨_, y4, y5, y6, y7⟩ := st.al _ (List.mem_cons_of_mem _ (List.mem_cons_self ..)))
        | (go_at_call 19; (with_reducible refine (OB.out _).mono ?_); rintro e x6 ⟨p6, A6, n6, c6, rfl, z6, k⟩
           have l6 := z6.small sb.out
           with_reducible (first | replace z5 := z5.below k | replace z5 := (z5.below (below_box _ _)).below k | replace z5 := z5.drew.below k | replace z5 := (z5.below (below_box _ _)).drew.below k | replace z5 := ((z5.below (below_box _ _)).below (below_box _ _)).below k | replace z5 := ((z5.below (below_box _ _)).below (below_box _ _)).drew.below k)
           with_reducible (first | replace st := st.below k | replace st := st.alloc1.below k | replace st := st.alloc2.below k | replace st := st.drew.below k | replace st := st.alloc1.drew.below k | replace st := st.alloc2.drew.below k)
           clear k
           obtain ⟨_, ka0, kb0, _, _⟩ := (st.k.tail.tail.head).two
           obtain ⟨_, ka1, kb1, _, _⟩ := (st.k.tail.head).two
           obtain ⟨gp0, gq0⟩ := behindG st.lt la2
           try obtain ⟨gr0, gs0⟩ := behindG (st.ge _ (List.mem_cons_self ..)) la2
           try obtain ⟨gt0, gu0⟩ := behindG (st.ge _ (List.mem_cons_of_mem _ (List.mem_cons_self ..))) la2
           obtain ⟨gp1, gq1⟩ := behindG st.lt la1
           try obtain ⟨gr1, gs1⟩ := behindG (st.ge _ (List.mem_cons_self ..)) la1
           try obtain ⟨gt1, gu1⟩ := behindG (st.ge _ (List.mem_cons_of_mem _ (List.mem_cons_self ..))) la1
           try obtain ⟨_, y0, y1, y2, y3⟩ := st.al _ (List.mem_cons_self ..)
           try obtain ⟨_, y4, y5, y6, y7⟩ := st.al _ (List.mem_cons_of_mem _ (List.mem_cons_self ..))))
    all_goals
      go_wp2_with fail
      go_meet
      refine ⟨_, _, p5, A5, n5, c5, p6, A6, n6, c6, rfl, rfl, ?_⟩
      with_reducible first | exact st.fin1a z5 z6 | exact st.fin1b z5 z6 | exact st.fin2a z5 z6 | exact st.fin2b z5 z6 | exact st.fin3a z5 z6 | exact st.fin3b z5 z6
  case rest =>
  clear st
  obtain ⟨g, h, pg, Ag, ng, cg, ph, Ah, nh, ch, rfl, rfl, s0⟩ := hcut
  have KM := (((s0.k.consBox s0.bq).consBox s0.br).ncons s0.zq).ncons s0.zr
  have ggg := s0.gg
  have ggh := s0.gh
  have neg := s0.ne
  have ng0 : g ≠ w.heap.size + 1 + 1 := by omega
  have nh0 : h ≠ w.heap.size + 1 + 1 := by omega
  have ng1 : g ≠ w.heap.size + 1 := by omega
  have nh1 : h ≠ w.heap.size + 1 := by omega
  have ng2 : g ≠ w.heap.size := by omega
  have nh2 : h ≠ w.heap.size := by omega
  clear s0
  have lg := (KM.nt.num).small sa.out
  have lh := (KM.num).small sb.out
  obtain ⟨_, ya, yb, yc, yd⟩ := (KM.head).two
  go_wp2_with fail
  clear ya yb yc yd
  refine (SI.out _ _ _ _ _ KM.num (by omega)).mono ?_
  rintro e w3 ⟨rfl, k⟩
  replace KM := KM.below k
  clear k
  obtain ⟨_, ra, rb, rc, rd⟩ := (KM.tail.tail.head).two
  go_wp2
  obtain ⟨_, P0, P1, _, _⟩ := ((KM.tail.tail.head).self2 (.int .i64 0) (.int .u64 0)).two
  have HB := (KM.hb.setCell (p := ⟨w.heap.size + 1 + 1, 0, none⟩) (by show _ ≤ w.heap.size + 1 + 1; omega) (.int .i64 0)).setCell (p := ⟨w.heap.size + 1 + 1, 1, none⟩) (by show _ ≤ w.heap.size + 1 + 1; omega) (.int .u64 0)
  exact bodyPost_ret (v := .tuple #[.agg #[.int .i64 0, .int .u64 0], .int .i64 3]) (by simp [results, Try.results13, go_sem, P0, P1]) rfl (⟨rfl, HB⟩)
set_option maxRecDepth 100000 in
set_option maxHeartbeats 8000000 in
theorem ratioR_pos (a b mo s K : Int) (OA : Hid (∀ W, Calls Try.prog 19 #[.agg #[.int .i64 (hiW a), .int .u64 (loW a)]] W (RetZ W (a)))) (OB : Hid (∀ W, Calls Try.prog 19 #[.agg #[.int .i64 (hiW b), .int .u64 (loW b)]] W (RetZ W (b)))) (sa : Hid ((a).natAbs < 65536 ^ 9)) (sb : Hid ((b).natAbs < 65536 ^ 9)) (hm : ¬ mo < 1) (hn : ¬ 9 < mo) (hs : (s == 0) = false) (SI : Hid (∀ (p : Bool) (A : Option Addr) (n c : Nat) W, Zs W p A n c (b) → n ≤ 900000 → Calls Try.prog 22 #[.agg #[.bool p, .slice A n c]] W (RetV W (.int .i64 s)))) (sk : Hid ((K).natAbs < 65536 ^ 9)) (TD : Hid (∀ (p : Bool) (A : Option Addr) (n c : Nat) (W : World), Zs W p A n c (K) → n ≤ 2000 → Calls Try.prog 31 #[.agg #[.bool p, .slice A n c]] W (RetWE W (K)))) (hb : ¬ b < 0) (NE : Hid (∀ (p q : Bool) (A B : Option Addr) (n m c d : Nat) (W : World), Zs W p A n c (a) → Zs W q B m d (b) → Calls Try.prog 30 #[.agg #[.bool p, .slice A n c], .agg #[.bool q, .slice B m d], .int .i64 mo] W (RetNB W (K)))) (w : World) :
    Calls Try.prog 13 #[.agg #[.int .i64 (hiW a), .int .u64 (loW a)], .agg #[.int .i64 (hiW b), .int .u64 (loW b)], .int .i64 mo] w (RetWE w K) := by
  go_enter Try.func13, Try.ntmps13
  go_upto_region 1 with (fail)
  have KM := ((((BM.nil w).more2 (.int .i64 (hiW a)) (.int .u64 (loW a)) 24).more2 (.int .i64 (hiW b)) (.int .u64 (loW b)) 24).more2 (.int .i64 0) (.int .u64 0) 24)
  try simp only [World.size_alloc] at KM
  generalize (((w.alloc (.cells #[.int .i64 (hiW a), .int .u64 (loW a)] 24)).alloc (.cells #[.int .i64 (hiW b), .int .u64 (loW b)] 24)).alloc (.cells #[.int .i64 0, .int .u64 0] 24)) = w0 at *
  obtain ⟨lo, st, hlo⟩ := KM.preD (KM.tail.tail.head).lt
  have la0 : w.heap.size + 1 + 1 ≤ lo := hlo (w.heap.size + 1 + 1, [.int .i64 0, .int .u64 0]) (by simp)
  have la1 : w.heap.size + 1 ≤ lo := hlo (w.heap.size + 1, [.int .i64 (hiW b), .int .u64 (loW b)]) (by simp)
  have la2 : w.heap.size ≤ lo := hlo (w.heap.size, [.int .i64 (hiW a), .int .u64 (loW a)]) (by simp)
  clear hlo
  go_cut [8, 9] (fun v8 v9 wx => DivCutD lo (BM w [(w.heap.size + 1 + 1, [.int .i64 0, .int .u64 0]), (w.heap.size + 1, [.int .i64 (hiW b), .int .u64 (loW b)]), (w.heap.size, [.int .i64 (hiW a), .int .u64 (loW a)])] []) (a) (b) v8 v9 wx)
  case first =>
    obtain ⟨_, ja0, jb0, _, _⟩ := (KM.tail.tail.head).two
    obtain ⟨_, ja1, jb1, _, _⟩ := (KM.tail.head).two
    clear KM
    have ⟨gp0, gq0⟩ := behindG st.lt la2
    have ⟨gp1, gq1⟩ := behindG st.lt la1
    go_region_held3 (fun w' => w'.cell? ⟨w.heap.size, 0, none⟩ = some (.int .i64 (hiW a)) ∧ w'.cell? ⟨w.heap.size, 1, none⟩ = some (.int .u64 (loW a)) ∧ w'.cell? ⟨w.heap.size + 1, 0, none⟩ = some (.int .i64 (hiW b)) ∧ w'.cell? ⟨w.heap.size + 1, 1, none⟩ = some (.int .u64 (loW b))) (first | (with_reducible exact ⟨(st.k.tail.tail.head).two.2.1, (st.k.tail.tail.head).two.2.2.1, (st.k.tail.head).two.2.1, (st.k.tail.head).two.2.2.1⟩) | (with_reducible exact ⟨(st.alloc1.k.tail.tail.head).two.2.1, (st.alloc1.k.tail.tail.head).two.2.2.1, (st.alloc1.k.tail.head).two.2.1, (st.alloc1.k.tail.head).two.2.2.1⟩) | (with_reducible exact ⟨(st.alloc2.k.tail.tail.head).two.2.1, (st.alloc2.k.tail.tail.head).two.2.2.1, (st.alloc2.k.tail.head).two.2.1, (st.alloc2.k.tail.head).two.2.2.1⟩) | (with_reducible exact ⟨(st.drew.k.tail.tail.head).two.2.1, (st.drew.k.tail.tail.head).two.2.2.1, (st.drew.k.tail.head).two.2.1, (st.drew.k.tail.head).two.2.2.1⟩) | (with_reducible exact ⟨(st.alloc1.drew.k.tail.tail.head).two.2.1, (st.alloc1.drew.k.tail.tail.head).two.2.2.1, (st.alloc1.drew.k.tail.head).two.2.1, (st.alloc1.drew.k.tail.head).two.2.2.1⟩) | (with_reducible exact ⟨(st.alloc2.drew.k.tail.tail.head).two.2.1, (st.alloc2.drew.k.tail.tail.head).two.2.2.1, (st.alloc2.drew.k.tail.head).two.2.1, (st.alloc2.drew.k.tail.head).two.2.2.1⟩) | go_keep)
      (first
        | (go_at_call 19; (with_reducible refine (OA.out _).mono ?_); rintro e x5 ⟨p5, A5, n5, c5, rfl, z5, k⟩
           have l5 := z5.small sa.out
           with_reducible (first | replace st := st.below k | replace st := st.alloc1.below k | replace st := st.alloc2.below k | replace st := st.drew.below k | replace st := st.alloc1.drew.below k | replace st := st.alloc2.drew.below k)
           clear k
           obtain ⟨_, ka0, kb0, _, _⟩ := (st.k.tail.tail.head).two
           obtain ⟨_, ka1, kb1, _, _⟩ := (st.k.tail.head).two
           obtain ⟨gp0, gq0⟩ := behindG st.lt la2
           try obtain ⟨gr0, gs0⟩ := behindG (st.ge _ (List.mem_cons_self ..)) la2
           try obtain ⟨gt0, gu0⟩ := behindG (st.ge _ (List.mem_cons_of_mem _ (List.mem_cons_self ..))) la2
           obtain ⟨gp1, gq1⟩ := behindG st.lt la1
           try obtain ⟨gr1, gs1⟩ := behindG (st.ge _ (List.mem_cons_self ..)) la1
           try obtain ⟨gt1, gu1⟩ := behindG (st.ge _ (List.mem_cons_of_mem _ (List.mem_cons_self ..))) la1
           try obtain ⟨_, y0, y1, y2, y3⟩ := st.al _ (List.mem_cons_self ..)
           try obtain ⟨_, y4, y5, y6, y7⟩ := st.al _ (List.mem_cons_of_mem _ (List.mem_cons_self ..)))
        | (go_at_call 19; (with_reducible refine (OB.out _).mono ?_); rintro e x6 ⟨p6, A6, n6, c6, rfl, z6, k⟩
           have l6 := z6.small sb.out
           with_reducible (first | replace z5 := z5.below k | replace z5 := (z5.below (below_box _ _)).below k | replace z5 := z5.drew.below k | replace z5 := (z5.below (below_box _ _)).drew.below k | replace z5 := ((z5.below (below_box _ _)).below (below_box _ _)).below k | replace z5 := ((z5.below (below_box _ _)).below (below_box _ _)).drew.below k)
           with_reducible (first | replace st := st.below k | replace st := st.alloc1.below k | replace st := st.alloc2.below k | replace st := st.drew.below k | replace st := st.alloc1.drew.below k | replace st := st.alloc2.drew.below k)
           clear k
           obtain ⟨_, ka0, kb0, _, _⟩ := (st.k.tail.tail.head).two
           obtain ⟨_, ka1, kb1, _, _⟩ := (st.k.tail.head).two
           obtain ⟨gp0, gq0⟩ := behindG st.lt la2
           try obtain ⟨gr0, gs0⟩ := behindG (st.ge _ (List.mem_cons_self ..)) la2
           try obtain ⟨gt0, gu0⟩ := behindG (st.ge _ (List.mem_cons_of_mem _ (List.mem_cons_self ..))) la2
           obtain ⟨gp1, gq1⟩ := behindG st.lt la1
           try obtain ⟨gr1, gs1⟩ := behindG (st.ge _ (List.mem_cons_self ..)) la1
           try obtain ⟨gt1, gu1⟩ := behindG (st.ge _ (List.mem_cons_of_mem _ (List.mem_cons_self ..))) la1
           try obtain ⟨_, y0, y1, y2, y3⟩ := st.al _ (List.mem_cons_self ..)
           try obtain ⟨_, y4, y5, y6, y7⟩ := st.al _ (List.mem_cons_of_mem _ (List.mem_cons_self ..))))
    all_goals
      go_wp2_with fail
      go_meet
      refine ⟨_, _, p5, A5, n5, c5, p6, A6, n6, c6, rfl, rfl, ?_⟩
      with_reducible first | exact st.fin1a z5 z6 | exact st.fin1b z5 z6 | exact st.fin2a z5 z6 | exact st.fin2b z5 z6 | exact st.fin3a z5 z6 | exact st.fin3b z5 z6
  case rest =>
  clear st
  obtain ⟨g, h, pg, Ag, ng, cg, ph, Ah, nh, ch, rfl, rfl, s0⟩ := hcut
  have KM := (((s0.k.consBox s0.bq).consBox s0.br).ncons s0.zq).ncons s0.zr
  have ggg := s0.gg
  have ggh := s0.gh
  have neg := s0.ne
  have ng0 : g ≠ w.heap.size + 1 + 1 := by omega
  have nh0 : h ≠ w.heap.size + 1 + 1 := by omega
  have ng1 : g ≠ w.heap.size + 1 := by omega
  have nh1 : h ≠ w.heap.size + 1 := by omega
  have ng2 : g ≠ w.heap.size := by omega
  have nh2 : h ≠ w.heap.size := by omega
  clear s0
  have lg := (KM.nt.num).small sa.out
  have lh := (KM.num).small sb.out
  obtain ⟨_, ya, yb, yc, yd⟩ := (KM.head).two
  go_wp2_with fail
  clear ya yb yc yd
  refine (SI.out _ _ _ _ _ KM.num (by omega)).mono ?_
  rintro e w3 ⟨rfl, k⟩
  replace KM := KM.below k
  clear k
  have hp := (KM.num).sign
  rw [decide_eq_false (show ¬ b < 0 by omega)] at hp
  subst hp
  obtain ⟨_, ya, yb, yc, yd⟩ := (KM.head).two
  obtain ⟨_, xa, xb, xc, xd⟩ := (KM.tail.head).two
  go_wp2_with fail
  clear ya yb yc yd xa xb xc xd
  refine (NE.out _ _ _ _ _ _ _ _ _ KM.nt.num KM.num).mono ?_
  rintro e wb ⟨pb, Ab, nb, cb, rfl, zb, k⟩
  have lb := zb.small sk.out
  replace KM := (KM.below k).ncons zb
  clear k zb
  go_upto_region 10 with (fail)
  have hlf := KM.head.lt
  have hlk := KM.tail.head.lt
  replace KM := KM.more2 (.bool pb) (.slice Ab nb cb) 38
  generalize wb.alloc (.cells #[.bool pb, .slice Ab nb cb] 38) = wc at *
  have if0 : wb.heap.size ≠ h := by omega
  have if1 : wb.heap.size ≠ g := by omega
  have if2 : wb.heap.size ≠ w.heap.size + 1 + 1 := by omega
  have if3 : wb.heap.size ≠ w.heap.size + 1 := by omega
  have if4 : wb.heap.size ≠ w.heap.size := by omega
  generalize wb.heap.size = f at *
  obtain ⟨_, ka, kb, kc, kd⟩ := (KM.head).two
  go_wp2_with fail
  clear ka kb kc kd
  refine (TD.out _ _ _ _ _ KM.num (by omega)).mono ?_
  rintro e wd ⟨rfl, k⟩
  replace KM := KM.below k
  clear k
  obtain ⟨_, ra, rb, rc, rd⟩ := (KM.tail.tail.tail.head).two
  go_wp2
  obtain ⟨_, P0, P1, _, _⟩ := ((KM.tail.tail.tail.head).self2 (.int .i64 (hv K)) (.int .u64 (lv K))).two
  have HB := (KM.hb.setCell (p := ⟨w.heap.size + 1 + 1, 0, none⟩) (by show _ ≤ w.heap.size + 1 + 1; omega) (.int .i64 (hv K))).setCell (p := ⟨w.heap.size + 1 + 1, 1, none⟩) (by show _ ≤ w.heap.size + 1 + 1; omega) (.int .u64 (lv K))
  exact bodyPost_ret (v := .tuple #[.agg #[.int .i64 (hv K), .int .u64 (lv K)], .int .i64 (ev K)]) (by simp [results, Try.results13, go_sem, P0, P1]) rfl (⟨rfl, HB⟩)
set_option maxRecDepth 100000 in
set_option maxHeartbeats 8000000 in
theorem ratioR_neg (a b mo s K : Int) (OA : Hid (∀ W, Calls Try.prog 19 #[.agg #[.int .i64 (hiW a), .int .u64 (loW a)]] W (RetZ W (a)))) (OB : Hid (∀ W, Calls Try.prog 19 #[.agg #[.int .i64 (hiW b), .int .u64 (loW b)]] W (RetZ W (b)))) (sa : Hid ((a).natAbs < 65536 ^ 9)) (sb : Hid ((b).natAbs < 65536 ^ 9)) (hm : ¬ mo < 1) (hn : ¬ 9 < mo) (hs : (s == 0) = false) (SI : Hid (∀ (p : Bool) (A : Option Addr) (n c : Nat) W, Zs W p A n c (b) → n ≤ 900000 → Calls Try.prog 22 #[.agg #[.bool p, .slice A n c]] W (RetV W (.int .i64 s)))) (sk : Hid ((K).natAbs < 65536 ^ 9)) (TD : Hid (∀ (p : Bool) (A : Option Addr) (n c : Nat) (W : World), Zs W p A n c (K) → n ≤ 2000 → Calls Try.prog 31 #[.agg #[.bool p, .slice A n c]] W (RetWE W (K)))) (hb : b < 0) (NX : Hid (∀ (p : Bool) (A : Option Addr) (n c : Nat) (W : World), Zs W p A n c (a) → n ≤ 1000000 → Calls Try.prog 34 #[.agg #[.bool p, .slice A n c]] W (RetZ W (-a)))) (NY : Hid (∀ (p : Bool) (A : Option Addr) (n c : Nat) (W : World), Zs W p A n c (b) → n ≤ 1000000 → Calls Try.prog 34 #[.agg #[.bool p, .slice A n c]] W (RetZ W (-b)))) (sx : Hid ((-a).natAbs < 65536 ^ 9)) (sy : Hid ((-b).natAbs < 65536 ^ 9)) (NE : Hid (∀ (p q : Bool) (A B : Option Addr) (n m c d : Nat) (W : World), Zs W p A n c (-a) → Zs W q B m d (-b) → Calls Try.prog 30 #[.agg #[.bool p, .slice A n c], .agg #[.bool q, .slice B m d], .int .i64 mo] W (RetNB W (K)))) (w : World) :
    Calls Try.prog 13 #[.agg #[.int .i64 (hiW a), .int .u64 (loW a)], .agg #[.int .i64 (hiW b), .int .u64 (loW b)], .int .i64 mo] w (RetWE w K) := by
  go_enter Try.func13, Try.ntmps13
  go_upto_region 1 with (fail)
  have KM := ((((BM.nil w).more2 (.int .i64 (hiW a)) (.int .u64 (loW a)) 24).more2 (.int .i64 (hiW b)) (.int .u64 (loW b)) 24).more2 (.int .i64 0) (.int .u64 0) 24)
  try simp only [World.size_alloc] at KM
  generalize (((w.alloc (.cells #[.int .i64 (hiW a), .int .u64 (loW a)] 24)).alloc (.cells #[.int .i64 (hiW b), .int .u64 (loW b)] 24)).alloc (.cells #[.int .i64 0, .int .u64 0] 24)) = w0 at *
  obtain ⟨lo, st, hlo⟩ := KM.preD (KM.tail.tail.head).lt
  have la0 : w.heap.size + 1 + 1 ≤ lo := hlo (w.heap.size + 1 + 1, [.int .i64 0, .int .u64 0]) (by simp)
  have la1 : w.heap.size + 1 ≤ lo := hlo (w.heap.size + 1, [.int .i64 (hiW b), .int .u64 (loW b)]) (by simp)
  have la2 : w.heap.size ≤ lo := hlo (w.heap.size, [.int .i64 (hiW a), .int .u64 (loW a)]) (by simp)
  clear hlo
  go_cut [8, 9] (fun v8 v9 wx => DivCutD lo (BM w [(w.heap.size + 1 + 1, [.int .i64 0, .int .u64 0]), (w.heap.size + 1, [.int .i64 (hiW b), .int .u64 (loW b)]), (w.heap.size, [.int .i64 (hiW a), .int .u64 (loW a)])] []) (a) (b) v8 v9 wx)
  case first =>
    obtain ⟨_, ja0, jb0, _, _⟩ := (KM.tail.tail.head).two
    obtain ⟨_, ja1, jb1, _, _⟩ := (KM.tail.head).two
    clear KM
    have ⟨gp0, gq0⟩ := behindG st.lt la2
    have ⟨gp1, gq1⟩ := behindG st.lt la1
    go_region_held3 (fun w' => w'.cell? ⟨w.heap.size, 0, none⟩ = some (.int .i64 (hiW a)) ∧ w'.cell? ⟨w.heap.size, 1, none⟩ = some (.int .u64 (loW a)) ∧ w'.cell? ⟨w.heap.size + 1, 0, none⟩ = some (.int .i64 (hiW b)) ∧ w'.cell? ⟨w.heap.size + 1, 1, none⟩ = some (.int .u64 (loW b))) (first | (with_reducible exact ⟨(st.k.tail.tail.head).two.2.1, (st.k.tail.tail.head).two.2.2.1, (st.k.tail.head).two.2.1, (st.k.tail.head).two.2.2.1⟩) | (with_reducible exact ⟨(st.alloc1.k.tail.tail.head).two.2.1, (st.alloc1.k.tail.tail.head).two.2.2.1, (st.alloc1.k.tail.head).two.2.1, (st.alloc1.k.tail.head).two.2.2.1⟩) | (with_reducible exact ⟨(st.alloc2.k.tail.tail.head).two.2.1, (st.alloc2.k.tail.tail.head).two.2.2.1, (st.alloc2.k.tail.head).two.2.1, (st.alloc2.k.tail.head).two.2.2.1⟩) | (with_reducible exact ⟨(st.drew.k.tail.tail.head).two.2.1, (st.drew.k.tail.tail.head).two.2.2.1, (st.drew.k.tail.head).two.2.1, (st.drew.k.tail.head).two.2.2.1⟩) | (with_reducible exact ⟨(st.alloc1.drew.k.tail.tail.head).two.2.1, (st.alloc1.drew.k.tail.tail.head).two.2.2.1, (st.alloc1.drew.k.tail.head).two.2.1, (st.alloc1.drew.k.tail.head).two.2.2.1⟩) | (with_reducible exact ⟨(st.alloc2.drew.k.tail.tail.head).two.2.1, (st.alloc2.drew.k.tail.tail.head).two.2.2.1, (st.alloc2.drew.k.tail.head).two.2.1, (st.alloc2.drew.k.tail.head).two.2.2.1⟩) | go_keep)
      (first
        | (go_at_call 19; (with_reducible refine (OA.out _).mono ?_); rintro e x5 ⟨p5, A5, n5, c5, rfl, z5, k⟩
           have l5 := z5.small sa.out
           with_reducible (first | replace st := st.below k | replace st := st.alloc1.below k | replace st := st.alloc2.below k | replace st := st.drew.below k | replace st := st.alloc1.drew.below k | replace st := st.alloc2.drew.below k)
           clear k
           obtain ⟨_, ka0, kb0, _, _⟩ := (st.k.tail.tail.head).two
           obtain ⟨_, ka1, kb1, _, _⟩ := (st.k.tail.head).two
           obtain ⟨gp0, gq0⟩ := behindG st.lt la2
           try obtain ⟨gr0, gs0⟩ := behindG (st.ge _ (List.mem_cons_self ..)) la2
           try obtain ⟨gt0, gu0⟩ := behindG (st.ge _ (List.mem_cons_of_mem _ (List.mem_cons_self ..))) la2
           obtain ⟨gp1, gq1⟩ := behindG st.lt la1
           try obtain ⟨gr1, gs1⟩ := behindG (st.ge _ (List.mem_cons_self ..)) la1
           try obtain ⟨gt1, gu1⟩ := behindG (st.ge _ (List.mem_cons_of_mem _ (List.mem_cons_self ..))) la1
           try obtain ⟨_, y0, y1, y2, y3⟩ := st.al _ (List.mem_cons_self ..)
           try obtain ⟨_, y4, y5, y6, y7⟩ := st.al _ (List.mem_cons_of_mem _ (List.mem_cons_self ..)))
        | (go_at_call 19; (with_reducible refine (OB.out _).mono ?_); rintro e x6 ⟨p6, A6, n6, c6, rfl, z6, k⟩
           have l6 := z6.small sb.out
           with_reducible (first | replace z5 := z5.below k | replace z5 := (z5.below (below_box _ _)).below k | replace z5 := z5.drew.below k | replace z5 := (z5.below (below_box _ _)).drew.below k | replace z5 := ((z5.below (below_box _ _)).below (below_box _ _)).below k | replace z5 := ((z5.below (below_box _ _)).below (below_box _ _)).drew.below k)
           with_reducible (first | replace st := st.below k | replace st := st.alloc1.below k | replace st := st.alloc2.below k | replace st := st.drew.below k | replace st := st.alloc1.drew.below k | replace st := st.alloc2.drew.below k)
           clear k
           obtain ⟨_, ka0, kb0, _, _⟩ := (st.k.tail.tail.head).two
           obtain ⟨_, ka1, kb1, _, _⟩ := (st.k.tail.head).two
           obtain ⟨gp0, gq0⟩ := behindG st.lt la2
           try obtain ⟨gr0, gs0⟩ := behindG (st.ge _ (List.mem_cons_self ..)) la2
           try obtain ⟨gt0, gu0⟩ := behindG (st.ge _ (List.mem_cons_of_mem _ (List.mem_cons_self ..))) la2
           obtain ⟨gp1, gq1⟩ := behindG st.lt la1
           try obtain ⟨gr1, gs1⟩ := behindG (st.ge _ (List.mem_cons_self ..)) la1
           try obtain ⟨gt1, gu1⟩ := behindG (st.ge _ (List.mem_cons_of_mem _ (List.mem_cons_self ..))) la1
           try obtain ⟨_, y0, y1, y2, y3⟩ := st.al _ (List.mem_cons_self ..)
           try obtain ⟨_, y4, y5, y6, y7⟩ := st.al _ (List.mem_cons_of_mem _ (List.mem_cons_self ..))))
    all_goals
      go_wp2_with fail
      go_meet
      refine ⟨_, _, p5, A5, n5, c5, p6, A6, n6, c6, rfl, rfl, ?_⟩
      with_reducible first | exact st.fin1a z5 z6 | exact st.fin1b z5 z6 | exact st.fin2a z5 z6 | exact st.fin2b z5 z6 | exact st.fin3a z5 z6 | exact st.fin3b z5 z6
  case rest =>
  clear st
  obtain ⟨g, h, pg, Ag, ng, cg, ph, Ah, nh, ch, rfl, rfl, s0⟩ := hcut
  have KM := (((s0.k.consBox s0.bq).consBox s0.br).ncons s0.zq).ncons s0.zr
  have ggg := s0.gg
  have ggh := s0.gh
  have neg := s0.ne
  have ng0 : g ≠ w.heap.size + 1 + 1 := by omega
  have nh0 : h ≠ w.heap.size + 1 + 1 := by omega
  have ng1 : g ≠ w.heap.size + 1 := by omega
  have nh1 : h ≠ w.heap.size + 1 := by omega
  have ng2 : g ≠ w.heap.size := by omega
  have nh2 : h ≠ w.heap.size := by omega
  clear s0
  have lg := (KM.nt.num).small sa.out
  have lh := (KM.num).small sb.out
  obtain ⟨_, ya, yb, yc, yd⟩ := (KM.head).two
  go_wp2_with fail
  clear ya yb yc yd
  refine (SI.out _ _ _ _ _ KM.num (by omega)).mono ?_
  rintro e w3 ⟨rfl, k⟩
  replace KM := KM.below k
  clear k
  have hp := (KM.num).sign
  rw [decide_eq_true hb] at hp
  subst hp
  obtain ⟨_, ya, yb, yc, yd⟩ := (KM.head).two
  obtain ⟨_, xa, xb, xc, xd⟩ := (KM.tail.head).two
  go_wp2_with fail
  clear ya yb yc yd xa xb xc xd
  refine (NX.out _ _ _ _ _ KM.nt.num (by omega)).mono ?_
  rintro e w7 ⟨p7, A7, n7, c7, rfl, z7, k⟩
  have l7 := z7.small sx.out
  replace KM := (KM.below k).ncons z7
  clear k z7
  obtain ⟨_, xa, xb, xc, xd⟩ := (KM.tail.head).two
  go_upto_region 8 with (fail)
  clear xa xb xc xd
  replace KM := KM.swap
  have oh := Ne.symm neg
  replace KM := KM.put (p7) (.slice A7 n7 c7) (by omega) (by intro z hz; simp only [List.mem_cons, List.not_mem_nil, or_false] at hz; rcases hz with rfl | rfl | rfl | rfl <;> (show _ ≠ _; omega))
  generalize (w7.setCell ⟨g, 0, none⟩ (.bool p7)).setCell ⟨g, 1, none⟩ (.slice A7 n7 c7) = w8 at *
  obtain ⟨_, ya, yb, yc, yd⟩ := (KM.tail.head).two
  go_wp2_with fail
  clear ya yb yc yd
  refine (NY.out _ _ _ _ _ KM.nt.num (by omega)).mono ?_
  rintro e w9 ⟨p9, A9, n9, c9, rfl, z9, k⟩
  have l9 := z9.small sy.out
  replace KM := (KM.below k).ncons z9
  clear k z9
  obtain ⟨_, ya, yb, yc, yd⟩ := (KM.tail.head).two
  go_upto_region 9 with (fail)
  clear ya yb yc yd
  replace KM := KM.swap
  replace KM := KM.put (p9) (.slice A9 n9 c9) (by omega) (by intro z hz; simp only [List.mem_cons, List.not_mem_nil, or_false] at hz; rcases hz with rfl | rfl | rfl | rfl <;> (show _ ≠ _; omega))
  generalize (w9.setCell ⟨h, 0, none⟩ (.bool p9)).setCell ⟨h, 1, none⟩ (.slice A9 n9 c9) = wa at *
  obtain ⟨_, ya, yb, yc, yd⟩ := (KM.head).two
  obtain ⟨_, xa, xb, xc, xd⟩ := (KM.tail.head).two
  go_wp2_with fail
  clear ya yb yc yd xa xb xc xd
  refine (NE.out _ _ _ _ _ _ _ _ _ KM.nt.num KM.num).mono ?_
  rintro e wb ⟨pb, Ab, nb, cb, rfl, zb, k⟩
  have lb := zb.small sk.out
  replace KM := (KM.below k).ncons zb
  clear k zb
  go_upto_region 10 with (fail)
  have hlf := KM.head.lt
  have hlk := KM.tail.head.lt
  replace KM := KM.more2 (.bool pb) (.slice Ab nb cb) 38
  generalize wb.alloc (.cells #[.bool pb, .slice Ab nb cb] 38) = wc at *
  have if0 : wb.heap.size ≠ h := by omega
  have if1 : wb.heap.size ≠ g := by omega
  have if2 : wb.heap.size ≠ w.heap.size + 1 + 1 := by omega
  have if3 : wb.heap.size ≠ w.heap.size + 1 := by omega
  have if4 : wb.heap.size ≠ w.heap.size := by omega
  generalize wb.heap.size = f at *
  obtain ⟨_, ka, kb, kc, kd⟩ := (KM.head).two
  go_wp2_with fail
  clear ka kb kc kd
  refine (TD.out _ _ _ _ _ KM.num (by omega)).mono ?_
  rintro e wd ⟨rfl, k⟩
  replace KM := KM.below k
  clear k
  obtain ⟨_, ra, rb, rc, rd⟩ := (KM.tail.tail.tail.head).two
  go_wp2
  obtain ⟨_, P0, P1, _, _⟩ := ((KM.tail.tail.tail.head).self2 (.int .i64 (hv K)) (.int .u64 (lv K))).two
  have HB := (KM.hb.setCell (p := ⟨w.heap.size + 1 + 1, 0, none⟩) (by show _ ≤ w.heap.size + 1 + 1; omega) (.int .i64 (hv K))).setCell (p := ⟨w.heap.size + 1 + 1, 1, none⟩) (by show _ ≤ w.heap.size + 1 + 1; omega) (.int .u64 (lv K))
  exact bodyPost_ret (v := .tuple #[.agg #[.int .i64 (hv K), .int .u64 (lv K)], .int .i64 (ev K)]) (by simp [results, Try.results13, go_sem, P0, P1]) rfl (⟨rfl, HB⟩)
end Go.Proofs.Ytnopgdheffnfdaa
