/- Package divide's By and Gcd, at any wide numbers. -/
import Derived.Test.YtgkajbelekjahaaVfloor
import Derived.Test.YtgkajbelekjahaaDcommon
namespace Go.Proofs.Ytgkajbelekjahaa
open Go.RowKit

/-- What By leaves. -/
def RetBy (w : World) (x y r e : Int) (o : Ending) (w' : World) : Prop := o = .returned (.tuple #[.agg #[.int .i64 x, .int .u64 y], .int .i64 r, .int .i64 e]) ∧ Below w.heap.size w w'
theorem by_in {a n : Int} (ha : InW a) (hn : In64 n) (h0 : 0 < n) : InW (a.fdiv n) ∧ In64 (a.fmod n) ∧ InW (a.fmod n) := by
  have q := (fdiv_le a n (by omega)).1
  have aa := abs_w ha
  have r0 := Int.fmod_nonneg_of_pos a h0
  have r1 := Int.fmod_lt_of_pos a h0
  have e := Int.fmod_add_mul_fdiv a n
  generalize a.fmod n = R at *
  unfold In64 at *
  refine ⟨?_, by omega, inW_of_64 (by unfold In64; omega)⟩
  have hq : a.fdiv n ≠ 170141183460469231731687303715884105728 := by
    intro c
    rw [c] at e
    unfold InW two127 at ha
    omega
  unfold InW two127
  omega

set_option maxRecDepth 100000 in
set_option maxHeartbeats 8000000 in
theorem byW_arg (a n : Int) (hn : n ≤ 0) (w : World) :
    Calls Try.prog 15 #[.agg #[.int .i64 (hiW a), .int .u64 (loW a)], .int .i64 n] w (RetBy w 0 0 0 1) := by
  have KK := (((PairsK.nil w).more (.int .i64 (hiW a)) (.int .u64 (loW a)) 24).more (.int .i64 0) (.int .u64 0) 24)
  simp only [World.size_alloc] at KK
  go_enter Try.func15, Try.ntmps15
  go_wp2
  exact bodyPost_ret (v := .tuple #[.agg #[.int .i64 0, .int .u64 0], .int .i64 0, .int .i64 1]) (by simp [results, Try.results15, go_sem]) rfl ⟨rfl, KK.hb⟩

set_option maxRecDepth 100000 in
set_option maxHeartbeats 8000000 in
theorem byW_any (a n : Int) (ha : InW a) (hn : In64 n) (h0 : 0 < n) (w : World) :
    Calls Try.prog 15 #[.agg #[.int .i64 (hiW a), .int .u64 (loW a)], .int .i64 n] w (RetBy w (hiW (a.fdiv n)) (loW (a.fdiv n)) (a.fmod n) 0) := by
  obtain ⟨iQ, iR, iW⟩ := by_in ha hn h0
  have ON := Lib.hid (fun W => wideOf n hn W)
  obtain ⟨t1, t2, t3⟩ := told_in iQ
  obtain ⟨u1, u2, _⟩ := told_in iW
  have FW := Lib.hid (fun W => show Calls Try.prog 10 #[.agg #[.int .i64 (hiW a), .int .u64 (loW a)], .agg #[.int .i64 (hiW n), .int .u64 (loW n)]] W (RetHalves W (hiW (a.fdiv n)) (loW (a.fdiv n)) (hiW (a.fmod n)) (loW (a.fmod n)) 0) from (floorW_any a n ha (inW_of_64 hn) (by omega) W).mono fun e w' ⟨h1, h2⟩ => ⟨by rw [h1]; unfold hv2 lv2; rw [if_pos iQ, if_pos iQ, t1, t2, t3, u1, u2], h2⟩)
  have IN := Lib.hid (fun W => show Calls Try.prog 38 #[.agg #[.int .i64 (hiW (a.fmod n)), .int .u64 (loW (a.fmod n))]] W (RetV W (.tuple #[.int .i64 (a.fmod n), .bool true])) from by have := wideInt (a.fmod n) W; rwa [show iv (a.fmod n) = a.fmod n by unfold iv; rw [if_pos iR], decide_eq_true iR] at this)
  clear iQ iR iW t1 t2 t3 u1 u2 ha hn
  generalize a.fdiv n = Q at *
  generalize a.fmod n = R at *
  go_enter Try.func15, Try.ntmps15
  go_wp2_with fail
  have KK := (((PairsK.nil w).more (.int .i64 (hiW a)) (.int .u64 (loW a)) 24).more (.int .i64 0) (.int .u64 0) 24)
  simp only [World.size_alloc] at KK
  generalize ((w.alloc (.cells #[.int .i64 (hiW a), .int .u64 (loW a)] 24)).alloc (.cells #[.int .i64 0, .int .u64 0] 24)) = w0 at *
  obtain ⟨lo, st, hlo⟩ := KK.preG (KK.tail.head).lt 24 (.int .i64 0) (.int .u64 0)
  have la0 : w.heap.size + 1 ≤ lo := hlo (w.heap.size + 1, .int .i64 0, .int .u64 0) (by simp)
  have la1 : w.heap.size ≤ lo := hlo (w.heap.size, .int .i64 (hiW a), .int .u64 (loW a)) (by simp)
  clear hlo
  go_cut [7, 8, 9] (fun v7 v8 v9 wx => CutTwo lo (PairsK w [(w.heap.size + 1, .int .i64 0, .int .u64 0), (w.heap.size, .int .i64 (hiW a), .int .u64 (loW a))]) (.int .i64 (hiW Q)) (.int .u64 (loW Q)) (.int .i64 (hiW R)) (.int .u64 (loW R)) v7 v8 wx ∧ v9 = .int .i64 0)
  case first =>
    obtain ⟨_, ja0, jb0, _, _⟩ := KK.tail.head
    clear KK
    have ⟨gp0, gq0⟩ := behindG st.lt la1
    go_region_held3 (fun w' => w'.cell? ⟨w.heap.size, 0, none⟩ = some (.int .i64 (hiW a)) ∧ w'.cell? ⟨w.heap.size, 1, none⟩ = some (.int .u64 (loW a))) (first | (with_reducible exact ⟨st.k.tail.head.c0, st.k.tail.head.c1⟩) | (with_reducible exact ⟨st.alloc1.k.tail.head.c0, st.alloc1.k.tail.head.c1⟩) | (with_reducible exact ⟨st.alloc2.k.tail.head.c0, st.alloc2.k.tail.head.c1⟩) | (with_reducible exact ⟨st.drew.k.tail.head.c0, st.drew.k.tail.head.c1⟩) | (with_reducible exact ⟨st.alloc1.drew.k.tail.head.c0, st.alloc1.drew.k.tail.head.c1⟩) | (with_reducible exact ⟨st.alloc2.drew.k.tail.head.c0, st.alloc2.drew.k.tail.head.c1⟩) | go_keep)
      (first
        | (go_at_call 16; (with_reducible refine (ON.out _).mono ?_); rintro e x ⟨rfl, k⟩
           with_reducible (first | replace st := st.below k | replace st := st.alloc1.below k | replace st := st.alloc2.below k | replace st := st.drew.below k | replace st := st.alloc1.drew.below k | replace st := st.alloc2.drew.below k)
           clear k
           obtain ⟨_, ka0, kb0, _, _⟩ := st.k.tail.head
           obtain ⟨gp0, gq0⟩ := behindG st.lt la1
           try obtain ⟨gr0, gs0⟩ := behindG (st.ge _ (List.mem_cons_self ..)) la1
           try obtain ⟨gt0, gu0⟩ := behindG (st.ge _ (List.mem_cons_of_mem _ (List.mem_cons_self ..))) la1
           try obtain ⟨_, y0, y1, y2, y3⟩ := st.al _ (List.mem_cons_self ..)
           try obtain ⟨_, y4, y5, y6, y7⟩ := st.al _ (List.mem_cons_of_mem _ (List.mem_cons_self ..)))
        | (go_at_call 10; (with_reducible refine (FW.out _).mono ?_); rintro e x ⟨rfl, k⟩
           with_reducible (first | replace st := st.below k | replace st := st.alloc1.below k | replace st := st.alloc2.below k | replace st := st.drew.below k | replace st := st.alloc1.drew.below k | replace st := st.alloc2.drew.below k)
           clear k
           obtain ⟨_, ka0, kb0, _, _⟩ := st.k.tail.head
           obtain ⟨gp0, gq0⟩ := behindG st.lt la1
           try obtain ⟨gr0, gs0⟩ := behindG (st.ge _ (List.mem_cons_self ..)) la1
           try obtain ⟨gt0, gu0⟩ := behindG (st.ge _ (List.mem_cons_of_mem _ (List.mem_cons_self ..))) la1
           try obtain ⟨_, y0, y1, y2, y3⟩ := st.al _ (List.mem_cons_self ..)
           try obtain ⟨_, y4, y5, y6, y7⟩ := st.al _ (List.mem_cons_of_mem _ (List.mem_cons_self ..))))
    all_goals
      go_wp2_with fail
      go_meet
      refine ⟨⟨_, _, rfl, rfl, ?_⟩, rfl⟩
      with_reducible first | exact st.fin1a _ _ _ _ | exact st.fin1b _ _ _ _ | exact st.fin2a _ _ _ _ | exact st.fin2b _ _ _ _ | exact st.fin3a _ _ _ _ | exact st.fin3b _ _ _ _
  case rest =>
  obtain ⟨⟨g, h, rfl, rfl, s0⟩, rfl⟩ := hcut
  clear st
  have KK := (s0.k.cons s0.bg).cons s0.bh
  have ggg := s0.gg
  have ggh := s0.gh
  have neg := s0.ne
  have ng0 : g ≠ w.heap.size + 1 := by omega
  have nh0 : h ≠ w.heap.size + 1 := by omega
  have ng1 : g ≠ w.heap.size := by omega
  have nh1 : h ≠ w.heap.size := by omega
  clear s0 la0 la1 ggg ggh
  clear lo
  obtain ⟨_, h0', h1', _, _⟩ := KK.head
  go_wp2_with fail
  refine (IN.out _).mono ?_
  rintro e w1 ⟨rfl, k⟩
  replace KK := KK.below k
  clear k h0' h1'
  obtain ⟨_, q0, q1, _, _⟩ := KK.tail.head
  obtain ⟨_, s0, s1, s2, s3⟩ := KK.tail.tail.head
  go_wp2
  have P2 := KK.tail.tail.head.self2 (.int .i64 (hiW Q)) (.int .u64 (loW Q))
  have HB := (KK.hb.setCell (p := ⟨w.heap.size + 1, 0, none⟩) (by show _ ≤ w.heap.size + 1; omega) (.int .i64 (hiW Q))).setCell (p := ⟨w.heap.size + 1, 1, none⟩) (by show _ ≤ w.heap.size + 1; omega) (.int .u64 (loW Q))
  exact bodyPost_ret (v := .tuple #[.agg #[.int .i64 (hiW Q), .int .u64 (loW Q)], .int .i64 R, .int .i64 0]) (by simp [results, Try.results15, go_sem, P2.c0, P2.c1]) rfl ⟨rfl, HB⟩

theorem gcd_nat (a b : Int) : (Int.gcd (a.natAbs : Int) (b.natAbs : Int) : Int) = gcdZ a b := by unfold gcdZ; simp [Int.gcd]
theorem gcdZ_bound {a b : Int} (ha : a.natAbs ≤ 170141183460469231731687303715884105728) (hb : b.natAbs ≤ 170141183460469231731687303715884105728) : 0 ≤ gcdZ a b ∧ gcdZ a b ≤ 170141183460469231731687303715884105728 := by
  unfold gcdZ
  refine ⟨by omega, ?_⟩
  by_cases h : a.natAbs = 0
  · rw [h, Nat.gcd_zero_left]; omega
  · have := Nat.gcd_le_left b.natAbs (show 0 < a.natAbs by omega)
    omega

set_option maxRecDepth 100000 in
set_option maxHeartbeats 8000000 in
theorem gcdW_any (a b : Int) (ha : InW a) (hb : InW b) (w : World) :
    Calls Try.prog 17 #[.agg #[.int .i64 (hiW a), .int .u64 (loW a)], .agg #[.int .i64 (hiW b), .int .u64 (loW b)]] w (RetWE w (gcdZ a b)) := by
  have aa := abs_w ha
  have ab := abs_w hb
  obtain ⟨g0, g1⟩ := gcdZ_bound aa ab
  have SA := Lib.hid (fun W => sizeOf_any a ha W)
  have SB := Lib.hid (fun W => sizeOf_any b hb W)
  have CM := Lib.hid (fun W => show Calls Try.prog 39 #[.agg #[.int .u64 (hiW (a.natAbs : Int)), .int .u64 (loW (a.natAbs : Int))], .agg #[.int .u64 (hiW (b.natAbs : Int)), .int .u64 (loW (b.natAbs : Int))]] W (RetSz W (gcdZ a b)) from by rw [← gcd_nat]; exact common_sz (a.natAbs : Int) (b.natAbs : Int) (by omega) (by omega) (by omega) (by omega) W)
  have SG := Lib.hid (fun W => show Calls Try.prog 35 #[.agg #[.int .u64 (hiW (gcdZ a b)), .int .u64 (loW (gcdZ a b))], .bool false] W (RetWE W (gcdZ a b)) from signed_any (gcdZ a b) false g0 g1 W)
  clear aa ab g0 g1 ha hb
  generalize gcdZ a b = G at *
  generalize (a.natAbs : Int) = na at *
  generalize (b.natAbs : Int) = nb at *
  generalize gu : hv G = u at *
  generalize gv : lv G = v at *
  generalize gd : ev G = d at *
  have GG := Lib.hid (And.intro gu (And.intro gv gd))
  clear gu gv gd
  go_enter Try.func17, Try.ntmps17
  go_wp2_with fail
  have KK := ((((PairsK.nil w).more (.int .i64 (hiW a)) (.int .u64 (loW a)) 24).more (.int .i64 (hiW b)) (.int .u64 (loW b)) 24).more (.int .i64 0) (.int .u64 0) 24)
  simp only [World.size_alloc] at KK
  generalize (((w.alloc (.cells #[.int .i64 (hiW a), .int .u64 (loW a)] 24)).alloc (.cells #[.int .i64 (hiW b), .int .u64 (loW b)] 24)).alloc (.cells #[.int .i64 0, .int .u64 0] 24)) = w0 at *
  obtain ⟨_, a0, a1, _, _⟩ := KK.tail.tail.head
  obtain ⟨_, b0, b1, _, _⟩ := KK.tail.head
  have i1 : w.heap.size + 1 + 1 ≠ w.heap.size := by omega
  have i2 : w.heap.size + 1 + 1 ≠ w.heap.size + 1 := by omega
  go_region_held3 (fun w' => w'.cell? ⟨w.heap.size, 0, none⟩ = some (.int .i64 (hiW a)) ∧ w'.cell? ⟨w.heap.size, 1, none⟩ = some (.int .u64 (loW a)) ∧ w'.cell? ⟨w.heap.size + 1, 0, none⟩ = some (.int .i64 (hiW b)) ∧ w'.cell? ⟨w.heap.size + 1, 1, none⟩ = some (.int .u64 (loW b))) (first | (with_reducible exact ⟨KK.tail.tail.head.c0, KK.tail.tail.head.c1, KK.tail.head.c0, KK.tail.head.c1⟩) | (with_reducible exact ⟨KK.drew.tail.tail.head.c0, KK.drew.tail.tail.head.c1, KK.drew.tail.head.c0, KK.drew.tail.head.c1⟩) | go_keep)
    (first
      | (go_at_call 34; (with_reducible refine (SA.out _).mono ?_); rintro e x ⟨rfl, k⟩
         with_reducible (first | replace KK := KK.below k | replace KK := KK.drew.below k)
         clear k
         obtain ⟨_, ka, kb, _, _⟩ := KK.tail.tail.head
         obtain ⟨_, kc, kd, _, _⟩ := KK.tail.head
         obtain ⟨_, s0, s1, s2, s3⟩ := KK.head)
      | (go_at_call 34; (with_reducible refine (SB.out _).mono ?_); rintro e x ⟨rfl, k⟩
         with_reducible (first | replace KK := KK.below k | replace KK := KK.drew.below k)
         clear k
         obtain ⟨_, ka, kb, _, _⟩ := KK.tail.tail.head
         obtain ⟨_, kc, kd, _, _⟩ := KK.tail.head
         obtain ⟨_, s0, s1, s2, s3⟩ := KK.head)
      | (go_at_call 39; (with_reducible refine (CM.out _).mono ?_); rintro e x ⟨rfl, k⟩
         with_reducible (first | replace KK := KK.below k | replace KK := KK.drew.below k)
         clear k
         obtain ⟨_, ka, kb, _, _⟩ := KK.tail.tail.head
         obtain ⟨_, kc, kd, _, _⟩ := KK.tail.head
         obtain ⟨_, s0, s1, s2, s3⟩ := KK.head)
      | (go_at_call 35; (with_reducible refine (SG.out _).mono ?_); rintro e x ⟨rfl, k⟩
         rw [GG.out.1, GG.out.2.1, GG.out.2.2]
         with_reducible (first | replace KK := KK.below k | replace KK := KK.drew.below k)
         clear k
         obtain ⟨_, ka, kb, _, _⟩ := KK.tail.tail.head
         obtain ⟨_, kc, kd, _, _⟩ := KK.tail.head
         obtain ⟨_, s0, s1, s2, s3⟩ := KK.head))
  all_goals
    go_wp2
    have P2 := KK.head.self2 (.int .i64 u) (.int .u64 v)
    have HB := (KK.hb.setCell (p := ⟨w.heap.size + 1 + 1, 0, none⟩) (by show _ ≤ w.heap.size + 1 + 1; omega) (.int .i64 u)).setCell (p := ⟨w.heap.size + 1 + 1, 1, none⟩) (by show _ ≤ w.heap.size + 1 + 1; omega) (.int .u64 v)
    exact bodyPost_ret (v := .tuple #[.agg #[.int .i64 u, .int .u64 v], .int .i64 d]) (by simp [results, Try.results17, go_sem, P2.c0, P2.c1]) rfl ⟨by rw [GG.out.1, GG.out.2.1, GG.out.2.2], HB⟩
end Go.Proofs.Ytgkajbelekjahaa
