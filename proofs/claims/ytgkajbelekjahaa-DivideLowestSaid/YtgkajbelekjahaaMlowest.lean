/- The walk of DivideLowest: at any two wide numbers it returns true; what was there is as it was. -/
import Derived.Test.YtgkajbelekjahaaValive
import Derived.Test.YtgkajbelekjahaaVfrac
import Derived.Deep.RegionHeld3
namespace Go.Proofs.Ytgkajbelekjahaa
open Go.RowKit

theorem keptP_and {lo : Nat} {K1 K2 : World → Prop} (h1 : Kept lo K1) (h2 : Kept lo K2) : Kept lo (fun W => K1 W ∧ K2 W) :=
  ⟨fun W W' h k => ⟨h1.below W W' h.1 k, h2.below W W' h.2 k⟩, fun W b p v r u h bx hlt => ⟨h1.set2 W b p v r u h.1 bx hlt, h2.set2 W b p v r u h.2 bx hlt⟩⟩
theorem keptP_box {lo g : Nat} {p : Bool} {v : Value} (hg : g ≤ lo) : Kept lo (fun W => Box W g p v) :=
  ⟨fun _ _ h k => h.below' k, fun _ _ _ _ _ _ h _ hlt => h.far2 (by omega) _ _⟩
theorem keptP_zs {lo : Nat} {p : Bool} {A : Option Addr} {n c : Nat} {z : Int} : Kept lo (fun W => Zs W p A n c z) :=
  ⟨fun _ _ h k => h.below k, fun _ _ _ _ _ _ h bx _ => h.set2 bx.c0 _ _⟩

set_option maxRecDepth 100000 in
set_option maxHeartbeats 8000000 in
theorem lowest_zero (a : Int) (FR : Hid (∀ W, Calls Try.prog 21 #[.agg #[.int .i64 (hiW a), .int .u64 (loW a)], .agg #[.int .i64 0, .int .u64 0]] W (RetHalves W 0 0 0 0 3))) (w : World) :
    Calls Try.prog 9 #[.agg #[.int .i64 (hiW a), .int .u64 (loW a)], .agg #[.int .i64 0, .int .u64 0]] w (RetV w (.bool true)) := by
  go_enter Try.func9, Try.ntmps9
  go_wp2_with fail
  have KK := (((PairsK.nil w).more (.int .i64 (hiW a)) (.int .u64 (loW a)) 24).more (.int .i64 0) (.int .u64 0) 24)
  try simp only [World.size_alloc] at KK
  generalize ((w.alloc (.cells #[.int .i64 (hiW a), .int .u64 (loW a)] 24)).alloc (.cells #[.int .i64 0, .int .u64 0] 24)) = w0 at *
  refine (FR.out _).mono ?_
  rintro e w1 ⟨rfl, k⟩
  replace KK := KK.below k
  clear k
  obtain ⟨_, ba, bb, _, _⟩ := KK.head
  go_wp2_with fail
  clear ba bb
  have hlg := KK.head.lt
  replace KK := ((KK.more (.int .i64 0) (.int .u64 0) 24).more (.int .i64 0) (.int .u64 0) 24)
  rw [World.size_alloc] at KK
  generalize ((w1.alloc (.cells #[.int .i64 0, .int .u64 0] 24)).alloc (.cells #[.int .i64 0, .int .u64 0] 24)) = w2 at *
  generalize w1.heap.size = g at *
  clear hlg
  refine (alive3 _).mono ?_
  rintro e w3 ⟨rfl, k⟩
  replace KK := KK.below k
  clear k
  obtain ⟨_, ca, cb, _, _⟩ := KK.head
  obtain ⟨_, da, db, _, _⟩ := KK.tail.head
  obtain ⟨_, ba, bb, _, _⟩ := KK.tail.tail.head
  have HB := KK.hb
  go_wp2
  go_ret
  exact ⟨rfl, HB⟩

set_option maxRecDepth 100000 in
set_option maxHeartbeats 8000000 in
theorem lowest_over (a b : Int) (hb0 : b ≠ 0) (FR : Hid (∀ W, Calls Try.prog 21 #[.agg #[.int .i64 (hiW a), .int .u64 (loW a)], .agg #[.int .i64 (hiW b), .int .u64 (loW b)]] W (RetHalves W 0 0 0 0 2))) (w : World) :
    Calls Try.prog 9 #[.agg #[.int .i64 (hiW a), .int .u64 (loW a)], .agg #[.int .i64 (hiW b), .int .u64 (loW b)]] w (RetV w (.bool true)) := by
  have hw : hiW b = 0 → loW b = 0 → False := fun h k => hb0 (wide_zero h k)
  clear hb0
  generalize hiW b = x at *
  generalize loW b = y at *
  go_enter Try.func9, Try.ntmps9
  go_wp2_with fail
  have KK := (((PairsK.nil w).more (.int .i64 (hiW a)) (.int .u64 (loW a)) 24).more (.int .i64 x) (.int .u64 y) 24)
  try simp only [World.size_alloc] at KK
  generalize ((w.alloc (.cells #[.int .i64 (hiW a), .int .u64 (loW a)] 24)).alloc (.cells #[.int .i64 x, .int .u64 y] 24)) = w0 at *
  refine (FR.out _).mono ?_
  rintro e w1 ⟨rfl, k⟩
  replace KK := KK.below k
  clear k
  obtain ⟨_, ba, bb, _, _⟩ := KK.head
  go_wp2_with fail
  clear ba bb
  have hlg := KK.head.lt
  replace KK := ((KK.more (.int .i64 0) (.int .u64 0) 24).more (.int .i64 0) (.int .u64 0) 24)
  rw [World.size_alloc] at KK
  generalize ((w1.alloc (.cells #[.int .i64 0, .int .u64 0] 24)).alloc (.cells #[.int .i64 0, .int .u64 0] 24)) = w2 at *
  generalize w1.heap.size = g at *
  clear hlg
  refine (alive3 _).mono ?_
  rintro e w3 ⟨rfl, k⟩
  replace KK := KK.below k
  clear k
  obtain ⟨_, ca, cb, _, _⟩ := KK.head
  obtain ⟨_, da, db, _, _⟩ := KK.tail.head
  obtain ⟨_, ba, bb, _, _⟩ := KK.tail.tail.head
  have HB := KK.hb
  by_cases hx : x = 0
  · have hy : ¬ y = 0 := fun k => hw hx k
    have hy' : (y == 0) = false := by rw [beq_eq_false_iff_ne]; exact hy
    subst hx
    clear hw
    go_wp2
    go_ret
    exact ⟨rfl, HB⟩
  · have hx' : (x == 0) = false := by rw [beq_eq_false_iff_ne]; exact hx
    clear hw
    go_wp2
    go_ret
    exact ⟨rfl, HB⟩

set_option maxRecDepth 100000 in
set_option maxHeartbeats 8000000 in
theorem lowest_core (a b P Q o0 o1 : Int) (FR : Hid (∀ W, Calls Try.prog 21 #[.agg #[.int .i64 (hiW a), .int .u64 (loW a)], .agg #[.int .i64 (hiW b), .int .u64 (loW b)]] W (RetHalves W (hiW P) (loW P) (hiW Q) (loW Q) 0))) (GC : Hid (∀ W, Calls Try.prog 17 #[.agg #[.int .i64 (hiW P), .int .u64 (loW P)], .agg #[.int .i64 (hiW Q), .int .u64 (loW Q)]] W (fun e w' => e = .returned (.tuple #[.agg #[.int .i64 o0, .int .u64 o1], .int .i64 0]) ∧ Below W.heap.size W w'))) (ON : Hid (∀ W, Calls Try.prog 16 #[.int .i64 1] W (fun e w' => e = .returned (.agg #[.int .i64 o0, .int .u64 o1]) ∧ Below W.heap.size W w'))) (SG : Hid (∀ W, Calls Try.prog 23 #[.agg #[.int .i64 (hiW Q), .int .u64 (loW Q)]] W (RetV W (.int .i64 1)))) (Oa : Hid (∀ W, Calls Try.prog 20 #[.agg #[.int .i64 (hiW a), .int .u64 (loW a)]] W (RetZ W a))) (sa : Hid (a.natAbs < 65536 ^ 9)) (Ob : Hid (∀ W, Calls Try.prog 20 #[.agg #[.int .i64 (hiW b), .int .u64 (loW b)]] W (RetZ W b))) (sb : Hid (b.natAbs < 65536 ^ 9)) (OP : Hid (∀ W, Calls Try.prog 20 #[.agg #[.int .i64 (hiW P), .int .u64 (loW P)]] W (RetZ W P))) (sP : Hid (P.natAbs < 65536 ^ 9)) (OQ : Hid (∀ W, Calls Try.prog 20 #[.agg #[.int .i64 (hiW Q), .int .u64 (loW Q)]] W (RetZ W Q))) (sQ : Hid (Q.natAbs < 65536 ^ 9)) (he : Hid (P * b = a * Q)) (w : World) :
    Calls Try.prog 9 #[.agg #[.int .i64 (hiW a), .int .u64 (loW a)], .agg #[.int .i64 (hiW b), .int .u64 (loW b)]] w (RetV w (.bool true)) := by
  go_enter Try.func9, Try.ntmps9
  go_wp2_with fail
  have KK := (((PairsK.nil w).more (.int .i64 (hiW a)) (.int .u64 (loW a)) 24).more (.int .i64 (hiW b)) (.int .u64 (loW b)) 24)
  try simp only [World.size_alloc] at KK
  generalize ((w.alloc (.cells #[.int .i64 (hiW a), .int .u64 (loW a)] 24)).alloc (.cells #[.int .i64 (hiW b), .int .u64 (loW b)] 24)) = w0 at *
  refine (FR.out _).mono ?_
  rintro e w1 ⟨rfl, k⟩
  replace KK := KK.below k
  clear k
  obtain ⟨_, aa, ab, _, _⟩ := KK.tail.head
  obtain ⟨_, ba, bb, _, _⟩ := KK.head
  go_wp2_with fail
  clear aa ab ba bb
  have hlg := KK.head.lt
  replace KK := ((KK.more (.int .i64 (hiW P)) (.int .u64 (loW P)) 24).more (.int .i64 (hiW Q)) (.int .u64 (loW Q)) 24)
  rw [World.size_alloc] at KK
  generalize ((w1.alloc (.cells #[.int .i64 (hiW P), .int .u64 (loW P)] 24)).alloc (.cells #[.int .i64 (hiW Q), .int .u64 (loW Q)] 24)) = w2 at *
  generalize w1.heap.size = g at *
  clear hlg
  obtain ⟨_, pa, pb, _, _⟩ := KK.tail.head
  obtain ⟨_, qa, qb, _, _⟩ := KK.head
  go_wp2_with fail
  refine (GC.out _).mono ?_
  rintro e w3 ⟨rfl, k⟩
  replace KK := KK.below k
  clear k
  clear pa pb qa qb
  go_wp2_with fail
  have hlh := KK.head.lt
  replace KK := (KK.more (.int .i64 o0) (.int .u64 o1) 24)
  generalize (w3.alloc (.cells #[.int .i64 o0, .int .u64 o1] 24)) = w4 at *
  generalize w3.heap.size = h at *
  clear hlh
  have SM : ∀ x y : Int, x.natAbs < 65536 ^ 9 → y.natAbs < 65536 ^ 9 → (x * y).natAbs < 65536 ^ 18 := fun x y hx hy => by
    rw [Int.natAbs_mul, show (65536 : Nat) ^ 18 = 65536 ^ 9 * 65536 ^ 9 from by decide]
    exact Nat.mul_lt_mul'' hx hy
  have S1 := Lib.hid (SM P b sP.out sb.out)
  have S2 := Lib.hid (SM a Q sa.out sQ.out)
  clear SM
  have KL := KK
  clear KK
  have lt0 : h < w4.heap.size := (KL.head).lt
  have lt1 : g + 1 < w4.heap.size := (KL.tail.head).lt
  have lt2 : g < w4.heap.size := (KL.tail.tail.head).lt
  have lt3 : w.heap.size + 1 < w4.heap.size := (KL.tail.tail.tail.head).lt
  have lt4 : w.heap.size < w4.heap.size := (KL.tail.tail.tail.tail.head).lt
  obtain ⟨lo, hlo⟩ : ∃ lo, lo + 1 = w4.heap.size := ⟨w4.heap.size - 1, by omega⟩
  have la0 : h ≤ lo := by omega
  have la1 : g + 1 ≤ lo := by omega
  have la2 : g ≤ lo := by omega
  have la3 : w.heap.size + 1 ≤ lo := by omega
  have la4 : w.heap.size ≤ lo := by omega
  have st : PreD lo (PairsK w [(h, .int .i64 o0, .int .u64 o1), (g + 1, .int .i64 (hiW Q), .int .u64 (loW Q)), (g, .int .i64 (hiW P), .int .u64 (loW P)), (w.heap.size + 1, .int .i64 (hiW b), .int .u64 (loW b)), (w.heap.size, .int .i64 (hiW a), .int .u64 (loW a))]) w4 [] := ⟨PairsK.keptZ w _ lo (by simp <;> omega) (by omega), KL, by omega, (fun b h => by cases h), (fun b h => by cases h), List.nodup_nil⟩
  clear hlo lt0 lt1 lt2 lt3 lt4
  go_cut [10] (fun v wx => OneCut lo (PairsK w [(h, .int .i64 o0, .int .u64 o1), (g + 1, .int .i64 (hiW Q), .int .u64 (loW Q)), (g, .int .i64 (hiW P), .int .u64 (loW P)), (w.heap.size + 1, .int .i64 (hiW b), .int .u64 (loW b)), (w.heap.size, .int .i64 (hiW a), .int .u64 (loW a))]) (P * b) v wx)
  case first =>
    obtain ⟨_, ja0, jb0, _, _⟩ := st.k.tail.tail.head
    obtain ⟨_, ja1, jb1, _, _⟩ := st.k.tail.tail.tail.head
    have ⟨gp0, gq0⟩ := behindG st.lt la0
    have ⟨gp1, gq1⟩ := behindG st.lt la1
    have ⟨gp2, gq2⟩ := behindG st.lt la2
    have ⟨gp3, gq3⟩ := behindG st.lt la3
    have ⟨gp4, gq4⟩ := behindG st.lt la4
    go_region_held3 (fun w' => w'.cell? ⟨g, 0, none⟩ = some (.int .i64 (hiW P)) ∧ w'.cell? ⟨g, 1, none⟩ = some (.int .u64 (loW P)) ∧ w'.cell? ⟨w.heap.size + 1, 0, none⟩ = some (.int .i64 (hiW b)) ∧ w'.cell? ⟨w.heap.size + 1, 1, none⟩ = some (.int .u64 (loW b))) (first | (with_reducible exact ⟨st.k.tail.tail.head.c0, st.k.tail.tail.head.c1, st.k.tail.tail.tail.head.c0, st.k.tail.tail.tail.head.c1⟩) | (with_reducible exact ⟨st.alloc1.k.tail.tail.head.c0, st.alloc1.k.tail.tail.head.c1, st.alloc1.k.tail.tail.tail.head.c0, st.alloc1.k.tail.tail.tail.head.c1⟩) | (with_reducible exact ⟨st.alloc2.k.tail.tail.head.c0, st.alloc2.k.tail.tail.head.c1, st.alloc2.k.tail.tail.tail.head.c0, st.alloc2.k.tail.tail.tail.head.c1⟩) | (with_reducible exact ⟨st.drew.k.tail.tail.head.c0, st.drew.k.tail.tail.head.c1, st.drew.k.tail.tail.tail.head.c0, st.drew.k.tail.tail.tail.head.c1⟩) | (with_reducible exact ⟨st.alloc1.drew.k.tail.tail.head.c0, st.alloc1.drew.k.tail.tail.head.c1, st.alloc1.drew.k.tail.tail.tail.head.c0, st.alloc1.drew.k.tail.tail.tail.head.c1⟩) | (with_reducible exact ⟨st.alloc2.drew.k.tail.tail.head.c0, st.alloc2.drew.k.tail.tail.head.c1, st.alloc2.drew.k.tail.tail.tail.head.c0, st.alloc2.drew.k.tail.tail.tail.head.c1⟩) | go_keep)
      (first
        | (go_at_call 20; (with_reducible refine (OP.out _).mono ?_); rintro e x ⟨p1, A1, n1, c1, rfl, z1, k⟩
           have l1 := z1.small sP.out
           with_reducible (first | replace st := st.below k | replace st := st.alloc1.below k | replace st := st.alloc2.below k | replace st := st.drew.below k | replace st := st.alloc1.drew.below k | replace st := st.alloc2.drew.below k)
           clear k
           obtain ⟨_, ka0, kb0, _, _⟩ := st.k.tail.tail.head
           obtain ⟨_, ka1, kb1, _, _⟩ := st.k.tail.tail.tail.head
           obtain ⟨gp0, gq0⟩ := behindG st.lt la0
           try obtain ⟨gr0, gs0⟩ := behindG (st.ge _ (List.mem_cons_self ..)) la0
           obtain ⟨gp1, gq1⟩ := behindG st.lt la1
           try obtain ⟨gr1, gs1⟩ := behindG (st.ge _ (List.mem_cons_self ..)) la1
           obtain ⟨gp2, gq2⟩ := behindG st.lt la2
           try obtain ⟨gr2, gs2⟩ := behindG (st.ge _ (List.mem_cons_self ..)) la2
           obtain ⟨gp3, gq3⟩ := behindG st.lt la3
           try obtain ⟨gr3, gs3⟩ := behindG (st.ge _ (List.mem_cons_self ..)) la3
           obtain ⟨gp4, gq4⟩ := behindG st.lt la4
           try obtain ⟨gr4, gs4⟩ := behindG (st.ge _ (List.mem_cons_self ..)) la4
           try obtain ⟨_, y0, y1, y2, y3⟩ := st.al _ (List.mem_cons_self ..))
        | (go_at_call 20; (with_reducible refine (Ob.out _).mono ?_); rintro e x ⟨p2, A2, n2, c2, rfl, z2, k⟩
           have l2 := z2.small sb.out
           with_reducible (first | replace z1 := z1.below k | replace z1 := (z1.below (below_box _ _)).below k | replace z1 := z1.drew.below k | replace z1 := (z1.below (below_box _ _)).drew.below k | replace z1 := ((z1.below (below_box _ _)).below (below_box _ _)).below k | replace z1 := ((z1.below (below_box _ _)).below (below_box _ _)).drew.below k)
           with_reducible (first | replace st := st.below k | replace st := st.alloc1.below k | replace st := st.alloc2.below k | replace st := st.drew.below k | replace st := st.alloc1.drew.below k | replace st := st.alloc2.drew.below k)
           clear k
           obtain ⟨_, ka0, kb0, _, _⟩ := st.k.tail.tail.head
           obtain ⟨_, ka1, kb1, _, _⟩ := st.k.tail.tail.tail.head
           obtain ⟨gp0, gq0⟩ := behindG st.lt la0
           try obtain ⟨gr0, gs0⟩ := behindG (st.ge _ (List.mem_cons_self ..)) la0
           obtain ⟨gp1, gq1⟩ := behindG st.lt la1
           try obtain ⟨gr1, gs1⟩ := behindG (st.ge _ (List.mem_cons_self ..)) la1
           obtain ⟨gp2, gq2⟩ := behindG st.lt la2
           try obtain ⟨gr2, gs2⟩ := behindG (st.ge _ (List.mem_cons_self ..)) la2
           obtain ⟨gp3, gq3⟩ := behindG st.lt la3
           try obtain ⟨gr3, gs3⟩ := behindG (st.ge _ (List.mem_cons_self ..)) la3
           obtain ⟨gp4, gq4⟩ := behindG st.lt la4
           try obtain ⟨gr4, gs4⟩ := behindG (st.ge _ (List.mem_cons_self ..)) la4
           try obtain ⟨_, y0, y1, y2, y3⟩ := st.al _ (List.mem_cons_self ..))
        | (go_at_call 25; (with_reducible refine (mul_any p1 p2 A1 A2 n1 n2 c1 c2 P b _ (by with_reducible first | exact z1 | exact (z1.below (below_box _ _)) | exact z1.drew | exact (z1.below (below_box _ _)).drew | exact ((z1.below (below_box _ _)).below (below_box _ _)) | exact ((z1.below (below_box _ _)).below (below_box _ _)).drew) (by with_reducible first | exact z2 | exact (z2.below (below_box _ _)) | exact z2.drew | exact (z2.below (below_box _ _)).drew | exact ((z2.below (below_box _ _)).below (below_box _ _)) | exact ((z2.below (below_box _ _)).below (below_box _ _)).drew) (by omega) (by omega)).mono ?_); rintro e x ⟨p3, A3, n3, c3, rfl, z3, k⟩
           with_reducible (first | replace st := st.below k | replace st := st.alloc1.below k | replace st := st.alloc2.below k | replace st := st.drew.below k | replace st := st.alloc1.drew.below k | replace st := st.alloc2.drew.below k)
           clear k
           obtain ⟨_, ka0, kb0, _, _⟩ := st.k.tail.tail.head
           obtain ⟨_, ka1, kb1, _, _⟩ := st.k.tail.tail.tail.head
           obtain ⟨gp0, gq0⟩ := behindG st.lt la0
           try obtain ⟨gr0, gs0⟩ := behindG (st.ge _ (List.mem_cons_self ..)) la0
           obtain ⟨gp1, gq1⟩ := behindG st.lt la1
           try obtain ⟨gr1, gs1⟩ := behindG (st.ge _ (List.mem_cons_self ..)) la1
           obtain ⟨gp2, gq2⟩ := behindG st.lt la2
           try obtain ⟨gr2, gs2⟩ := behindG (st.ge _ (List.mem_cons_self ..)) la2
           obtain ⟨gp3, gq3⟩ := behindG st.lt la3
           try obtain ⟨gr3, gs3⟩ := behindG (st.ge _ (List.mem_cons_self ..)) la3
           obtain ⟨gp4, gq4⟩ := behindG st.lt la4
           try obtain ⟨gr4, gs4⟩ := behindG (st.ge _ (List.mem_cons_self ..)) la4
           try obtain ⟨_, y0, y1, y2, y3⟩ := st.al _ (List.mem_cons_self ..)))
    all_goals
      go_wp2_with fail
      go_meet
      refine ⟨_, p3, A3, n3, c3, rfl, ?_⟩
      with_reducible first | exact st.one1 z3 | exact st.one2 z3
  case rest =>
  clear st
  obtain ⟨gl, pl, Al, nl, cl, rfl, s0⟩ := hcut
  have K1 := s0.k
  have bl := s0.bx
  have zl := s0.zx
  have ll := zl.small S1.out
  clear s0 KL la0 la1 la2 la3 la4 lo
  go_wp2_with fail
  have lt0 : h < wc.heap.size := (K1.head).lt
  have lt1 : g + 1 < wc.heap.size := (K1.tail.head).lt
  have lt2 : g < wc.heap.size := (K1.tail.tail.head).lt
  have lt3 : w.heap.size + 1 < wc.heap.size := (K1.tail.tail.tail.head).lt
  have lt4 : w.heap.size < wc.heap.size := (K1.tail.tail.tail.tail.head).lt
  have lt5 : gl < wc.heap.size := bl.lt
  obtain ⟨lo, hlo⟩ : ∃ lo, lo + 1 = wc.heap.size := ⟨wc.heap.size - 1, by omega⟩
  have la0 : h ≤ lo := by omega
  have la1 : g + 1 ≤ lo := by omega
  have la2 : g ≤ lo := by omega
  have la3 : w.heap.size + 1 ≤ lo := by omega
  have la4 : w.heap.size ≤ lo := by omega
  have la5 : gl ≤ lo := by omega
  have st : PreD lo (fun W => (PairsK w [(h, .int .i64 o0, .int .u64 o1), (g + 1, .int .i64 (hiW Q), .int .u64 (loW Q)), (g, .int .i64 (hiW P), .int .u64 (loW P)), (w.heap.size + 1, .int .i64 (hiW b), .int .u64 (loW b)), (w.heap.size, .int .i64 (hiW a), .int .u64 (loW a))]) W ∧ (Box W gl pl (.slice Al nl cl) ∧ Zs W pl Al nl cl (P * b))) wc [] := ⟨keptP_and (PairsK.keptZ w _ lo (by simp <;> omega) (by omega)) (keptP_and (keptP_box (by omega)) keptP_zs), ⟨K1, bl, zl⟩, by omega, (fun b h => by cases h), (fun b h => by cases h), List.nodup_nil⟩
  clear hlo lt0 lt1 lt2 lt3 lt4 lt5
  go_cut [11] (fun v wx => OneCut lo (fun W => (PairsK w [(h, .int .i64 o0, .int .u64 o1), (g + 1, .int .i64 (hiW Q), .int .u64 (loW Q)), (g, .int .i64 (hiW P), .int .u64 (loW P)), (w.heap.size + 1, .int .i64 (hiW b), .int .u64 (loW b)), (w.heap.size, .int .i64 (hiW a), .int .u64 (loW a))]) W ∧ (Box W gl pl (.slice Al nl cl) ∧ Zs W pl Al nl cl (P * b))) (a * Q) v wx)
  case first =>
    obtain ⟨_, ja0, jb0, _, _⟩ := st.k.1.tail.tail.tail.tail.head
    obtain ⟨_, ja1, jb1, _, _⟩ := st.k.1.tail.head
    have ⟨gp0, gq0⟩ := behindG st.lt la0
    have ⟨gp1, gq1⟩ := behindG st.lt la1
    have ⟨gp2, gq2⟩ := behindG st.lt la2
    have ⟨gp3, gq3⟩ := behindG st.lt la3
    have ⟨gp4, gq4⟩ := behindG st.lt la4
    have ⟨gp5, gq5⟩ := behindG st.lt la5
    go_region_held3 (fun w' => w'.cell? ⟨w.heap.size, 0, none⟩ = some (.int .i64 (hiW a)) ∧ w'.cell? ⟨w.heap.size, 1, none⟩ = some (.int .u64 (loW a)) ∧ w'.cell? ⟨g + 1, 0, none⟩ = some (.int .i64 (hiW Q)) ∧ w'.cell? ⟨g + 1, 1, none⟩ = some (.int .u64 (loW Q))) (first | (with_reducible exact ⟨st.k.1.tail.tail.tail.tail.head.c0, st.k.1.tail.tail.tail.tail.head.c1, st.k.1.tail.head.c0, st.k.1.tail.head.c1⟩) | (with_reducible exact ⟨st.alloc1.k.1.tail.tail.tail.tail.head.c0, st.alloc1.k.1.tail.tail.tail.tail.head.c1, st.alloc1.k.1.tail.head.c0, st.alloc1.k.1.tail.head.c1⟩) | (with_reducible exact ⟨st.alloc2.k.1.tail.tail.tail.tail.head.c0, st.alloc2.k.1.tail.tail.tail.tail.head.c1, st.alloc2.k.1.tail.head.c0, st.alloc2.k.1.tail.head.c1⟩) | (with_reducible exact ⟨st.drew.k.1.tail.tail.tail.tail.head.c0, st.drew.k.1.tail.tail.tail.tail.head.c1, st.drew.k.1.tail.head.c0, st.drew.k.1.tail.head.c1⟩) | (with_reducible exact ⟨st.alloc1.drew.k.1.tail.tail.tail.tail.head.c0, st.alloc1.drew.k.1.tail.tail.tail.tail.head.c1, st.alloc1.drew.k.1.tail.head.c0, st.alloc1.drew.k.1.tail.head.c1⟩) | (with_reducible exact ⟨st.alloc2.drew.k.1.tail.tail.tail.tail.head.c0, st.alloc2.drew.k.1.tail.tail.tail.tail.head.c1, st.alloc2.drew.k.1.tail.head.c0, st.alloc2.drew.k.1.tail.head.c1⟩) | go_keep)
      (first
        | (go_at_call 20; (with_reducible refine (Oa.out _).mono ?_); rintro e x ⟨p1, A1, n1, c1, rfl, z1, k⟩
           have l1 := z1.small sa.out
           with_reducible (first | replace st := st.below k | replace st := st.alloc1.below k | replace st := st.alloc2.below k | replace st := st.drew.below k | replace st := st.alloc1.drew.below k | replace st := st.alloc2.drew.below k)
           clear k
           obtain ⟨_, ka0, kb0, _, _⟩ := st.k.1.tail.tail.tail.tail.head
           obtain ⟨_, ka1, kb1, _, _⟩ := st.k.1.tail.head
           obtain ⟨gp0, gq0⟩ := behindG st.lt la0
           try obtain ⟨gr0, gs0⟩ := behindG (st.ge _ (List.mem_cons_self ..)) la0
           obtain ⟨gp1, gq1⟩ := behindG st.lt la1
           try obtain ⟨gr1, gs1⟩ := behindG (st.ge _ (List.mem_cons_self ..)) la1
           obtain ⟨gp2, gq2⟩ := behindG st.lt la2
           try obtain ⟨gr2, gs2⟩ := behindG (st.ge _ (List.mem_cons_self ..)) la2
           obtain ⟨gp3, gq3⟩ := behindG st.lt la3
           try obtain ⟨gr3, gs3⟩ := behindG (st.ge _ (List.mem_cons_self ..)) la3
           obtain ⟨gp4, gq4⟩ := behindG st.lt la4
           try obtain ⟨gr4, gs4⟩ := behindG (st.ge _ (List.mem_cons_self ..)) la4
           obtain ⟨gp5, gq5⟩ := behindG st.lt la5
           try obtain ⟨gr5, gs5⟩ := behindG (st.ge _ (List.mem_cons_self ..)) la5
           try obtain ⟨_, y0, y1, y2, y3⟩ := st.al _ (List.mem_cons_self ..))
        | (go_at_call 20; (with_reducible refine (OQ.out _).mono ?_); rintro e x ⟨p2, A2, n2, c2, rfl, z2, k⟩
           have l2 := z2.small sQ.out
           with_reducible (first | replace z1 := z1.below k | replace z1 := (z1.below (below_box _ _)).below k | replace z1 := z1.drew.below k | replace z1 := (z1.below (below_box _ _)).drew.below k | replace z1 := ((z1.below (below_box _ _)).below (below_box _ _)).below k | replace z1 := ((z1.below (below_box _ _)).below (below_box _ _)).drew.below k)
           with_reducible (first | replace st := st.below k | replace st := st.alloc1.below k | replace st := st.alloc2.below k | replace st := st.drew.below k | replace st := st.alloc1.drew.below k | replace st := st.alloc2.drew.below k)
           clear k
           obtain ⟨_, ka0, kb0, _, _⟩ := st.k.1.tail.tail.tail.tail.head
           obtain ⟨_, ka1, kb1, _, _⟩ := st.k.1.tail.head
           obtain ⟨gp0, gq0⟩ := behindG st.lt la0
           try obtain ⟨gr0, gs0⟩ := behindG (st.ge _ (List.mem_cons_self ..)) la0
           obtain ⟨gp1, gq1⟩ := behindG st.lt la1
           try obtain ⟨gr1, gs1⟩ := behindG (st.ge _ (List.mem_cons_self ..)) la1
           obtain ⟨gp2, gq2⟩ := behindG st.lt la2
           try obtain ⟨gr2, gs2⟩ := behindG (st.ge _ (List.mem_cons_self ..)) la2
           obtain ⟨gp3, gq3⟩ := behindG st.lt la3
           try obtain ⟨gr3, gs3⟩ := behindG (st.ge _ (List.mem_cons_self ..)) la3
           obtain ⟨gp4, gq4⟩ := behindG st.lt la4
           try obtain ⟨gr4, gs4⟩ := behindG (st.ge _ (List.mem_cons_self ..)) la4
           obtain ⟨gp5, gq5⟩ := behindG st.lt la5
           try obtain ⟨gr5, gs5⟩ := behindG (st.ge _ (List.mem_cons_self ..)) la5
           try obtain ⟨_, y0, y1, y2, y3⟩ := st.al _ (List.mem_cons_self ..))
        | (go_at_call 25; (with_reducible refine (mul_any p1 p2 A1 A2 n1 n2 c1 c2 a Q _ (by with_reducible first | exact z1 | exact (z1.below (below_box _ _)) | exact z1.drew | exact (z1.below (below_box _ _)).drew | exact ((z1.below (below_box _ _)).below (below_box _ _)) | exact ((z1.below (below_box _ _)).below (below_box _ _)).drew) (by with_reducible first | exact z2 | exact (z2.below (below_box _ _)) | exact z2.drew | exact (z2.below (below_box _ _)).drew | exact ((z2.below (below_box _ _)).below (below_box _ _)) | exact ((z2.below (below_box _ _)).below (below_box _ _)).drew) (by omega) (by omega)).mono ?_); rintro e x ⟨p3, A3, n3, c3, rfl, z3, k⟩
           with_reducible (first | replace st := st.below k | replace st := st.alloc1.below k | replace st := st.alloc2.below k | replace st := st.drew.below k | replace st := st.alloc1.drew.below k | replace st := st.alloc2.drew.below k)
           clear k
           obtain ⟨_, ka0, kb0, _, _⟩ := st.k.1.tail.tail.tail.tail.head
           obtain ⟨_, ka1, kb1, _, _⟩ := st.k.1.tail.head
           obtain ⟨gp0, gq0⟩ := behindG st.lt la0
           try obtain ⟨gr0, gs0⟩ := behindG (st.ge _ (List.mem_cons_self ..)) la0
           obtain ⟨gp1, gq1⟩ := behindG st.lt la1
           try obtain ⟨gr1, gs1⟩ := behindG (st.ge _ (List.mem_cons_self ..)) la1
           obtain ⟨gp2, gq2⟩ := behindG st.lt la2
           try obtain ⟨gr2, gs2⟩ := behindG (st.ge _ (List.mem_cons_self ..)) la2
           obtain ⟨gp3, gq3⟩ := behindG st.lt la3
           try obtain ⟨gr3, gs3⟩ := behindG (st.ge _ (List.mem_cons_self ..)) la3
           obtain ⟨gp4, gq4⟩ := behindG st.lt la4
           try obtain ⟨gr4, gs4⟩ := behindG (st.ge _ (List.mem_cons_self ..)) la4
           obtain ⟨gp5, gq5⟩ := behindG st.lt la5
           try obtain ⟨gr5, gs5⟩ := behindG (st.ge _ (List.mem_cons_self ..)) la5
           try obtain ⟨_, y0, y1, y2, y3⟩ := st.al _ (List.mem_cons_self ..)))
    all_goals
      go_wp2_with fail
      go_meet
      refine ⟨_, p3, A3, n3, c3, rfl, ?_⟩
      with_reducible first | exact st.one1 z3 | exact st.one2 z3
  case rest =>
  clear st
  obtain ⟨gr, pr, Ar, nr, cr, rfl, s0⟩ := hcut
  clear K1 bl zl
  obtain ⟨K1, bl, zl⟩ := s0.k
  have br := s0.bx
  have zr := s0.zx
  have lr := zr.small S2.out
  clear s0 la0 la1 la2 la3 la4 la5 lo
  have EQ := Lib.hid (show ∀ W, Zs W pl Al nl cl (P * b) → Zs W pr Ar nr cr (a * Q) → Calls Try.prog 26 #[.agg #[.bool pl, .slice Al nl cl], .agg #[.bool pr, .slice Ar nr cr]] W (RetV W (.int .i64 0)) from fun W h1 h2 => by have := cmp_any pl pr Al Ar nl nr cl cr _ _ W h1 h2 (by omega) (by omega); rwa [cmpZ_eq he.out] at this)
  go_wp2_with fail
  obtain ⟨_, c0, c1, _, _⟩ := K1.head
  obtain ⟨_, c2, c3, _, _⟩ := K1.tail.head
  obtain ⟨_, c4, c5, _, _⟩ := id bl
  obtain ⟨_, c6, c7, _, _⟩ := id br
  go_region_held3 (fun w' => w'.cell? ⟨h, 0, none⟩ = some (.int .i64 o0) ∧ w'.cell? ⟨h, 1, none⟩ = some (.int .u64 o1) ∧ w'.cell? ⟨g + 1, 0, none⟩ = some (.int .i64 (hiW Q)) ∧ w'.cell? ⟨g + 1, 1, none⟩ = some (.int .u64 (loW Q)) ∧ w'.cell? ⟨gl, 0, none⟩ = some (.bool pl) ∧ w'.cell? ⟨gl, 1, none⟩ = some (.slice Al nl cl) ∧ w'.cell? ⟨gr, 0, none⟩ = some (.bool pr) ∧ w'.cell? ⟨gr, 1, none⟩ = some (.slice Ar nr cr)) (first | (with_reducible exact ⟨K1.head.c0, K1.head.c1, K1.tail.head.c0, K1.tail.head.c1, bl.c0, bl.c1, br.c0, br.c1⟩) | (with_reducible exact ⟨K1.drew.head.c0, K1.drew.head.c1, K1.drew.tail.head.c0, K1.drew.tail.head.c1, bl.drew.c0, bl.drew.c1, br.drew.c0, br.drew.c1⟩) | go_keep)
    (first
      | (go_at_call 12; (with_reducible refine (alive3 _).mono ?_); rintro e x ⟨rfl, k⟩
         with_reducible (first | replace K1 := K1.below k | replace K1 := K1.drew.below k)
         with_reducible (first | replace bl := bl.below' k | replace bl := bl.drew.below' k)
         with_reducible (first | replace br := br.below' k | replace br := br.drew.below' k)
         with_reducible (first | replace zl := zl.below k | replace zl := zl.drew.below k)
         with_reducible (first | replace zr := zr.below k | replace zr := zr.drew.below k)
         clear k
         obtain ⟨_, d0, d1, _, _⟩ := K1.head
         obtain ⟨_, d2, d3, _, _⟩ := K1.tail.head
         obtain ⟨_, d4, d5, _, _⟩ := id bl
         obtain ⟨_, d6, d7, _, _⟩ := id br)
      | (go_at_call 16; (with_reducible refine (ON.out _).mono ?_); rintro e x ⟨rfl, k⟩
         with_reducible (first | replace K1 := K1.below k | replace K1 := K1.drew.below k)
         with_reducible (first | replace bl := bl.below' k | replace bl := bl.drew.below' k)
         with_reducible (first | replace br := br.below' k | replace br := br.drew.below' k)
         with_reducible (first | replace zl := zl.below k | replace zl := zl.drew.below k)
         with_reducible (first | replace zr := zr.below k | replace zr := zr.drew.below k)
         clear k
         obtain ⟨_, d0, d1, _, _⟩ := K1.head
         obtain ⟨_, d2, d3, _, _⟩ := K1.tail.head
         obtain ⟨_, d4, d5, _, _⟩ := id bl
         obtain ⟨_, d6, d7, _, _⟩ := id br)
      | (go_at_call 23; (with_reducible refine (SG.out _).mono ?_); rintro e x ⟨rfl, k⟩
         with_reducible (first | replace K1 := K1.below k | replace K1 := K1.drew.below k)
         with_reducible (first | replace bl := bl.below' k | replace bl := bl.drew.below' k)
         with_reducible (first | replace br := br.below' k | replace br := br.drew.below' k)
         with_reducible (first | replace zl := zl.below k | replace zl := zl.drew.below k)
         with_reducible (first | replace zr := zr.below k | replace zr := zr.drew.below k)
         clear k
         obtain ⟨_, d0, d1, _, _⟩ := K1.head
         obtain ⟨_, d2, d3, _, _⟩ := K1.tail.head
         obtain ⟨_, d4, d5, _, _⟩ := id bl
         obtain ⟨_, d6, d7, _, _⟩ := id br)
      | (go_at_call 26; (with_reducible refine (EQ.out _ (by with_reducible first | exact zl | exact zl.drew) (by with_reducible first | exact zr | exact zr.drew)).mono ?_); rintro e x ⟨rfl, k⟩
         with_reducible (first | replace K1 := K1.below k | replace K1 := K1.drew.below k)
         with_reducible (first | replace bl := bl.below' k | replace bl := bl.drew.below' k)
         with_reducible (first | replace br := br.below' k | replace br := br.drew.below' k)
         with_reducible (first | replace zl := zl.below k | replace zl := zl.drew.below k)
         with_reducible (first | replace zr := zr.below k | replace zr := zr.drew.below k)
         clear k
         obtain ⟨_, d0, d1, _, _⟩ := K1.head
         obtain ⟨_, d2, d3, _, _⟩ := K1.tail.head
         obtain ⟨_, d4, d5, _, _⟩ := id bl
         obtain ⟨_, d6, d7, _, _⟩ := id br))
  all_goals
    go_wp2
    go_ret
    exact ⟨rfl, by first | exact K1.hb | exact K1.drew.hb⟩

theorem frac_one (a b : Int) (hb : b ≠ 0) : gcdZ (a.fdiv (gcdS a b)) (b.fdiv (gcdS a b)) = 1 ∧ 0 < b.fdiv (gcdS a b) ∧ a.fdiv (gcdS a b) * b = a * b.fdiv (gcdS a b) := by
  obtain ⟨e1, e2⟩ := frac_parts a b hb
  obtain ⟨d1, d2⟩ := gcdS_dvd a b
  have hc := gcdS_ne a b hb
  have gp := gcdZ_pos a b hb
  have f1 : gcdS a b * a.fdiv (gcdS a b) = a := by
    have := Int.fmod_add_mul_fdiv a (gcdS a b)
    rw [(floor_same hc (.inl (Int.tmod_eq_zero_of_dvd d1))).2, Int.tmod_eq_zero_of_dvd d1] at this
    omega
  have f2 : gcdS a b * b.fdiv (gcdS a b) = b := by
    have := Int.fmod_add_mul_fdiv b (gcdS a b)
    rw [(floor_same hc (.inl (Int.tmod_eq_zero_of_dvd d2))).2, Int.tmod_eq_zero_of_dvd d2] at this
    omega
  have eg : gcdZ a b = ((Nat.gcd a.natAbs b.natAbs : Nat) : Int) := rfl
  have gn : 0 < Nat.gcd a.natAbs b.natAbs := by omega
  refine ⟨?_, ?_, ?_⟩
  · rw [e1, e2, eg, ← Int.natCast_ediv, ← Int.natCast_ediv]
    have : ∀ (m : Bool) (x y : Nat), gcdZ (sg m x) y = ((Nat.gcd x y : Nat) : Int) := fun m x y => by unfold gcdZ sg; cases m <;> simp
    rw [this, Nat.gcd_div_gcd_div_gcd_of_pos_right (by omega)]
    rfl
  · rw [e2, eg, ← Int.natCast_ediv]
    have := Nat.div_pos (Nat.gcd_le_right a.natAbs (n := b.natAbs) (by omega)) gn
    omega
  · generalize gcdS a b = c at *
    generalize a.fdiv c = P at *
    generalize b.fdiv c = Q at *
    rw [← f1, ← f2, Int.mul_assoc, Int.mul_left_comm]

theorem divideLowest_walk (a b : Int) (ha : InW a) (hb : InW b) (w : World) :
    Calls Try.prog 9 #[.agg #[.int .i64 (hiW a), .int .u64 (loW a)], .agg #[.int .i64 (hiW b), .int .u64 (loW b)]] w (RetV w (.bool true)) := by
  by_cases hb0 : b = 0
  · subst hb0
    exact lowest_zero a (Lib.hid fun W => (fracW_zero a W).mono fun e w' ⟨h1, h2⟩ => ⟨h1, h2⟩) w
  · have FR := fun W => fracW_any a b ha hb hb0 W
    obtain ⟨q1, q2, q3⟩ := frac_one a b hb0
    generalize a.fdiv (gcdS a b) = P at *
    generalize b.fdiv (gcdS a b) = Q at *
    by_cases h : InW P ∧ InW Q
    · obtain ⟨t1, t2, t3⟩ := told_in (z := 1) (inW_of_64 (by decide))
      refine lowest_core a b P Q (hiW 1) (loW 1) (Lib.hid fun W => (FR W).mono fun e w' ⟨h1, h2⟩ => ⟨by rw [h1]; unfold fv fe; simp [h], h2⟩) (Lib.hid fun W => (gcdW_any P Q h.1 h.2 W).mono fun e w' ⟨h1, h2⟩ => ⟨by rw [h1, q1, t1, t2, t3], h2⟩) (Lib.hid fun W => wideOf 1 (by decide) W) (Lib.hid fun W => by have := wideSign Q W; rwa [ord_gt q2] at this)
        (Lib.hid fun W => wof_z a ha W) (Lib.hid (small_w ha)) (Lib.hid fun W => wof_z b hb W) (Lib.hid (small_w hb)) (Lib.hid fun W => wof_z P h.1 W) (Lib.hid (small_w h.1)) (Lib.hid fun W => wof_z Q h.2 W) (Lib.hid (small_w h.2)) (Lib.hid q3) w
    · exact lowest_over a b hb0 (Lib.hid fun W => (FR W).mono fun e w' ⟨h1, h2⟩ => ⟨by rw [h1]; unfold fv fe; simp [h], h2⟩) w
end Go.Proofs.Ytgkajbelekjahaa
