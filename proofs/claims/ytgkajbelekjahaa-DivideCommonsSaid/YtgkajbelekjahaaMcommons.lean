/- The walk of DivideCommons: at any two wide numbers it returns true; what was there is as it was. -/
import Derived.Test.YtgkajbelekjahaaValive
import Derived.Test.YtgkajbelekjahaaDcommon
import Derived.Deep.RegionHeld3
namespace Go.Proofs.Ytgkajbelekjahaa
open Go.RowKit

theorem gcd_small {a b : Int} (ha : InW a) (hb : InW b) : (gcdZ a b).natAbs < 65536 ^ 9 := by
  have h := gcdZ_bound (abs_w ha) (abs_w hb)
  generalize gcdZ a b = G at *
  refine small_2w ?_
  omega

set_option maxRecDepth 100000 in
set_option maxHeartbeats 8000000 in
theorem commons_core (a b G u v d : Int) (OA : Hid (∀ W, Calls Try.prog 20 #[.agg #[.int .i64 (hiW a), .int .u64 (loW a)]] W (RetZ W a))) (OB : Hid (∀ W, Calls Try.prog 20 #[.agg #[.int .i64 (hiW b), .int .u64 (loW b)]] W (RetZ W b))) (sa : Hid (a.natAbs < 65536 ^ 9)) (sb : Hid (b.natAbs < 65536 ^ 9)) (SG : Hid (G.natAbs < 65536 ^ 9)) (GC : Hid (∀ W, Calls Try.prog 17 #[.agg #[.int .i64 (hiW a), .int .u64 (loW a)], .agg #[.int .i64 (hiW b), .int .u64 (loW b)]] W (fun e w' => e = .returned (.tuple #[.agg #[.int .i64 u, .int .u64 v], .int .i64 d]) ∧ Below W.heap.size W w'))) (TD : Hid (∀ (p : Bool) (A : Option Addr) (n c : Nat) (W : World), Zs W p A n c G → n ≤ 2000 → Calls Try.prog 18 #[.agg #[.bool p, .slice A n c]] W (fun e w' => e = .returned (.tuple #[.agg #[.int .i64 u, .int .u64 v], .int .i64 d]) ∧ Below W.heap.size W w'))) (CM : Hid (∀ (p q : Bool) (A B : Option Addr) (n m c d : Nat) (W : World), Zs W p A n c a → Zs W q B m d b → Calls Try.prog 19 #[.agg #[.bool p, .slice A n c], .agg #[.bool q, .slice B m d]] W (RetZ W G))) (w : World) :
    Calls Try.prog 6 #[.agg #[.int .i64 (hiW a), .int .u64 (loW a)], .agg #[.int .i64 (hiW b), .int .u64 (loW b)]] w (RetV w (.bool true)) := by
  go_enter Try.func6, Try.ntmps6
  go_wp2_with fail
  have KK := (((PairsK.nil w).more (.int .i64 (hiW a)) (.int .u64 (loW a)) 24).more (.int .i64 (hiW b)) (.int .u64 (loW b)) 24)
  try simp only [World.size_alloc] at KK
  generalize ((w.alloc (.cells #[.int .i64 (hiW a), .int .u64 (loW a)] 24)).alloc (.cells #[.int .i64 (hiW b), .int .u64 (loW b)] 24)) = w0 at *
  refine (GC.out _).mono ?_
  rintro e w1 ⟨rfl, k⟩
  replace KK := KK.below k
  clear k
  obtain ⟨_, aa, ab, _, _⟩ := KK.tail.head
  obtain ⟨_, ba, bb, _, _⟩ := KK.head
  go_wp2_with fail
  clear aa ab ba bb
  have hlg := KK.head.lt
  replace KK := (KK.more (.int .i64 u) (.int .u64 v) 24)
  generalize (w1.alloc (.cells #[.int .i64 u, .int .u64 v] 24)) = w2 at *
  generalize w1.heap.size = g at *
  clear hlg
  obtain ⟨lo, st, hlo⟩ := KK.preG (KK.tail.tail.head).lt 24 (.int .i64 0) (.int .u64 0)
  have la0 : g ≤ lo := hlo (g, .int .i64 u, .int .u64 v) (by simp)
  have la1 : w.heap.size + 1 ≤ lo := hlo (w.heap.size + 1, .int .i64 (hiW b), .int .u64 (loW b)) (by simp)
  have la2 : w.heap.size ≤ lo := hlo (w.heap.size, .int .i64 (hiW a), .int .u64 (loW a)) (by simp)
  clear hlo
  go_cut [7, 8] (fun v7 v8 wx => CutOne lo (PairsK w [(g, .int .i64 u, .int .u64 v), (w.heap.size + 1, .int .i64 (hiW b), .int .u64 (loW b)), (w.heap.size, .int .i64 (hiW a), .int .u64 (loW a))]) (.int .i64 u) (.int .u64 v) v7 wx ∧ v8 = .int .i64 d)
  case first =>
    obtain ⟨_, ja0, jb0, _, _⟩ := KK.tail.tail.head
    obtain ⟨_, ja1, jb1, _, _⟩ := KK.tail.head
    clear KK
    have ⟨gp0, gq0⟩ := behindG st.lt la2
    have ⟨gp1, gq1⟩ := behindG st.lt la1
    go_region_held3 (fun w' => w'.cell? ⟨w.heap.size, 0, none⟩ = some (.int .i64 (hiW a)) ∧ w'.cell? ⟨w.heap.size, 1, none⟩ = some (.int .u64 (loW a)) ∧ w'.cell? ⟨w.heap.size + 1, 0, none⟩ = some (.int .i64 (hiW b)) ∧ w'.cell? ⟨w.heap.size + 1, 1, none⟩ = some (.int .u64 (loW b))) (first | (with_reducible exact ⟨st.k.tail.tail.head.c0, st.k.tail.tail.head.c1, st.k.tail.head.c0, st.k.tail.head.c1⟩) | (with_reducible exact ⟨st.alloc1.k.tail.tail.head.c0, st.alloc1.k.tail.tail.head.c1, st.alloc1.k.tail.head.c0, st.alloc1.k.tail.head.c1⟩) | (with_reducible exact ⟨st.alloc2.k.tail.tail.head.c0, st.alloc2.k.tail.tail.head.c1, st.alloc2.k.tail.head.c0, st.alloc2.k.tail.head.c1⟩) | (with_reducible exact ⟨st.drew.k.tail.tail.head.c0, st.drew.k.tail.tail.head.c1, st.drew.k.tail.head.c0, st.drew.k.tail.head.c1⟩) | (with_reducible exact ⟨st.alloc1.drew.k.tail.tail.head.c0, st.alloc1.drew.k.tail.tail.head.c1, st.alloc1.drew.k.tail.head.c0, st.alloc1.drew.k.tail.head.c1⟩) | (with_reducible exact ⟨st.alloc2.drew.k.tail.tail.head.c0, st.alloc2.drew.k.tail.tail.head.c1, st.alloc2.drew.k.tail.head.c0, st.alloc2.drew.k.tail.head.c1⟩) | go_keep)
      (first
        | (go_at_call 20; (with_reducible refine (OA.out _).mono ?_); rintro e x ⟨p1, A1, n1, c1, rfl, z1, k⟩
           have l1 := z1.small sa.out
           with_reducible (first | replace st := st.below k | replace st := st.alloc1.below k | replace st := st.alloc2.below k | replace st := st.drew.below k | replace st := st.alloc1.drew.below k | replace st := st.alloc2.drew.below k)
           clear k
           obtain ⟨_, ka1, kb1, _, _⟩ := st.k.tail.head)
        | (go_at_call 20; (with_reducible refine (OB.out _).mono ?_); rintro e x ⟨p2, A2, n2, c2, rfl, z2, k⟩
           have l2 := z2.small sb.out
           with_reducible (first | replace z1 := z1.below k | replace z1 := (z1.below (below_box _ _)).below k | replace z1 := z1.drew.below k | replace z1 := (z1.below (below_box _ _)).drew.below k | replace z1 := ((z1.below (below_box _ _)).below (below_box _ _)).below k | replace z1 := ((z1.below (below_box _ _)).below (below_box _ _)).drew.below k)
           with_reducible (first | replace st := st.below k | replace st := st.alloc1.below k | replace st := st.alloc2.below k | replace st := st.drew.below k | replace st := st.alloc1.drew.below k | replace st := st.alloc2.drew.below k)
           clear k)
        | (go_at_call 19; (with_reducible refine (CM.out p1 p2 A1 A2 n1 n2 c1 c2 _ (by with_reducible first | exact z1 | exact (z1.below (below_box _ _)) | exact z1.drew | exact (z1.below (below_box _ _)).drew | exact ((z1.below (below_box _ _)).below (below_box _ _)) | exact ((z1.below (below_box _ _)).below (below_box _ _)).drew) (by with_reducible first | exact z2 | exact (z2.below (below_box _ _)) | exact z2.drew | exact (z2.below (below_box _ _)).drew | exact ((z2.below (below_box _ _)).below (below_box _ _)) | exact ((z2.below (below_box _ _)).below (below_box _ _)).drew)).mono ?_); rintro e x ⟨p3, A3, n3, c3, rfl, z3, k⟩
           have l3 := z3.small SG.out
           with_reducible (first | replace st := st.below k | replace st := st.alloc1.below k | replace st := st.alloc2.below k | replace st := st.drew.below k | replace st := st.alloc1.drew.below k | replace st := st.alloc2.drew.below k)
           clear k)
        | (go_at_call 18; (with_reducible refine (TD.out p3 A3 n3 c3 _ (by with_reducible first | exact z3 | exact (z3.below (below_box _ _)) | exact z3.drew | exact (z3.below (below_box _ _)).drew | exact ((z3.below (below_box _ _)).below (below_box _ _)) | exact ((z3.below (below_box _ _)).below (below_box _ _)).drew) (by omega)).mono ?_); rintro e x ⟨rfl, k⟩
           with_reducible (first | replace st := st.below k | replace st := st.alloc1.below k | replace st := st.alloc2.below k | replace st := st.drew.below k | replace st := st.alloc1.drew.below k | replace st := st.alloc2.drew.below k)
           clear k
           obtain ⟨_, ka0, kb0, _, _⟩ := st.k.tail.tail.head
           obtain ⟨_, ka1, kb1, _, _⟩ := st.k.tail.head
           obtain ⟨gp0, gq0⟩ := behindG st.lt la2
           try obtain ⟨gr0, gs0⟩ := behindG (st.ge _ (List.mem_cons_self ..)) la2
           try obtain ⟨gt0, gu0⟩ := behindG (st.ge _ (List.mem_cons_of_mem _ (List.mem_cons_self ..))) la2
           obtain ⟨gp1, gq1⟩ := behindG st.lt la1
           try obtain ⟨gr1, gs1⟩ := behindG (st.ge _ (List.mem_cons_self ..)) la1
           try obtain ⟨gt1, gu1⟩ := behindG (st.ge _ (List.mem_cons_of_mem _ (List.mem_cons_self ..))) la1
           try obtain ⟨_, y0, y1, y2, y3⟩ := st.al _ (List.mem_cons_self ..)
           try obtain ⟨_, y4, y5, y6, y7⟩ := st.al _ (List.mem_cons_of_mem _ (List.mem_cons_self ..))))
    all_goals
      go_wp2_with fail
      go_meet
      refine ⟨⟨_, rfl, ?_⟩, rfl⟩
      with_reducible first | exact st.one1 _ _ | exact st.one2 _ _
  case rest =>
  obtain ⟨⟨h, rfl, s0⟩, rfl⟩ := hcut
  clear st
  have KK := s0.k.cons s0.bg
  have ggh := s0.gg
  have nh0 : h ≠ g := by omega
  have nh1 : h ≠ w.heap.size + 1 := by omega
  have nh2 : h ≠ w.heap.size := by omega
  clear s0 la0 la1 la2 ggh
  clear lo
  go_wp2_with fail
  refine (alive3 _).mono ?_
  rintro e w5 ⟨rfl, k⟩
  replace KK := KK.below k
  clear k
  obtain ⟨_, aa, ab, _, _⟩ := KK.head
  obtain ⟨_, ba, bb, _, _⟩ := KK.tail.head
  have HB := KK.hb
  go_wp2
  go_ret
  exact ⟨rfl, HB⟩

theorem divideCommons_walk (a b : Int) (ha : InW a) (hb : InW b) (w : World) :
    Calls Try.prog 6 #[.agg #[.int .i64 (hiW a), .int .u64 (loW a)], .agg #[.int .i64 (hiW b), .int .u64 (loW b)]] w (RetV w (.bool true)) :=
  commons_core a b (gcdZ a b) _ _ _ (Lib.hid fun W => wof_z a ha W) (Lib.hid fun W => wof_z b hb W) (Lib.hid (small_w ha)) (Lib.hid (small_w hb)) (Lib.hid (gcd_small ha hb)) (Lib.hid fun W => gcdW_any a b ha hb W) (Lib.hid fun p A n c W h1 h2 => wtold_any p A n c _ W h1 h2) (Lib.hid fun p q A B n m c d W h1 h2 => common_any p q A B n m c d a b W h1 h2 (small_w ha) (small_w hb)) w
end Go.Proofs.Ytgkajbelekjahaa
