/- The calls Quotient and Euclid of the document's answer: at any two numbers of 64 bits the quotient rounded down and its rest, and the quotient whose rest isn't below 0, or the error's number. -/
import Derived.Test.YthfnhnhoglhncaaBoth
import Derived.Test.YthfnhnhoglhncaaDiv
namespace Go.Proofs.Ythfnhnhoglhncaa
open Go.RowKit

theorem fdiv_small (a b : Int) (ha : In64 a) (h0 : b ≠ 0) : -18446744073709551616 ≤ a.fdiv b ∧ a.fdiv b ≤ 18446744073709551616 := by
  by_cases hr : a = -9223372036854775808 ∧ b = -1
  · obtain ⟨rfl, rfl⟩ := hr
    decide
  · have : In64 (a.fdiv b) := fdiv_in a b ha h0 (by
      by_cases h2 : a = -9223372036854775808
      · exact .inr fun h3 => hr ⟨h2, h3⟩
      · exact .inl h2)
    unfold In64 at this
    omega

theorem quo_zero (a : Int) (w : World) : Calls Try.prog 23 #[.int .i64 a, .int .i64 0] w (Ret3 w 0 0 3) := by
  go_enter Try.func23, Try.ntmps23
  go_wp2
  go_ret3
  exact ⟨rfl, Below.refl _ _⟩

set_option maxHeartbeats 1000000 in
theorem quo_ok (a b : Int) (ha : In64 a) (hb : In64 b) (h0 : b ≠ 0) (hr : a ≠ -9223372036854775808 ∨ b ≠ -1) (w : World) :
    Calls Try.prog 23 #[.int .i64 a, .int .i64 b] w (Ret3 w (a.fdiv b) (a.fmod b) 0) := by
  have OA := Lib.hid (fun W => of_any a ha.1 ha.2 W)
  have OB := Lib.hid (fun W => of_any b hb.1 hb.2 W)
  have sa := Lib.hid (small5 (x := a) (by unfold In64 at ha; omega))
  have sb := Lib.hid (small5 (x := b) (by unfold In64 at hb; omega))
  have hz : (b == 0) = false := by simpa using h0
  have i1 := fdiv_in a b ha h0 hr
  have i2 := fmod_in a b hb h0
  have s1 := Lib.hid (small5 (x := a.fdiv b) (by unfold In64 at i1; omega))
  have s2 := Lib.hid (small5 (x := a.fmod b) (by unfold In64 at i2; omega))
  clear ha hb hr
  go_enter Try.func23, Try.ntmps23
  go_wp2_with fail
  refine (OA.out _).mono ?_
  rintro e w1 ⟨p1, A1, n1, c1, rfl, z1, k1⟩
  have HB := k1
  go_wp2_with fail
  refine (OB.out _).mono ?_
  rintro e w2 ⟨p2, A2, n2, c2, rfl, z2, k2⟩
  replace HB := below_next HB k2
  have q1 := z1.small sa.out
  have q2 := z2.small sb.out
  replace z1 := z1.below k2
  clear k1 k2
  go_wp2_with fail
  refine (div_any p1 p2 A1 A2 n1 n2 c1 c2 a b _ z1 z2 (by omega) (by omega) h0).mono ?_
  rintro e w3 ⟨p3, A3, n3, c3, p4, A4, n4, c4, rfl, z3, z4, k3⟩
  replace HB := below_next HB k3
  clear k3 z1 z2
  have q3 := z3.small s1.out
  have q4 := z4.small s2.out
  have hk : Below w3.heap.size w3 ((w3.alloc (.cells #[.bool p3, .slice A3 n3 c3] 29)).alloc (.cells #[.bool p4, .slice A4 n4 c4] 29)) := below_next (below_alloc _ _) (below_alloc _ _)
  go_wp2_with fail
  refine (both_ok p3 p4 A3 A4 n3 n4 c3 c4 _ _ _ (z3.below hk) (z4.below hk) (by omega) (by omega) i1 i2).mono ?_
  rintro e w4 ⟨rfl, k4⟩
  replace HB := below_next (below_next HB hk) k4
  clear hk k4 z3 z4 i1 i2
  go_wp2
  go_ret3
  exact ⟨rfl, HB⟩

set_option maxHeartbeats 1000000 in
theorem quo_over (a b : Int) (ha : In64 a) (hb : In64 b) (h0 : b ≠ 0) (h1 : ¬ In64 (a.fdiv b)) (w : World) :
    Calls Try.prog 23 #[.int .i64 a, .int .i64 b] w (Ret3 w 0 0 2) := by
  have OA := Lib.hid (fun W => of_any a ha.1 ha.2 W)
  have OB := Lib.hid (fun W => of_any b hb.1 hb.2 W)
  have sa := Lib.hid (small5 (x := a) (by unfold In64 at ha; omega))
  have sb := Lib.hid (small5 (x := b) (by unfold In64 at hb; omega))
  have hz : (b == 0) = false := by simpa using h0
  have s1 := Lib.hid (show (a.fdiv b).natAbs < 65536 ^ 5 from small5 (x := a.fdiv b) (fdiv_small a b ha h0))
  have s2 := Lib.hid (small5 (x := a.fmod b) (by have := fmod_in a b hb h0; unfold In64 at this; omega))
  clear ha hb
  go_enter Try.func23, Try.ntmps23
  go_wp2_with fail
  refine (OA.out _).mono ?_
  rintro e w1 ⟨p1, A1, n1, c1, rfl, z1, k1⟩
  have HB := k1
  go_wp2_with fail
  refine (OB.out _).mono ?_
  rintro e w2 ⟨p2, A2, n2, c2, rfl, z2, k2⟩
  replace HB := below_next HB k2
  have q1 := z1.small sa.out
  have q2 := z2.small sb.out
  replace z1 := z1.below k2
  clear k1 k2
  go_wp2_with fail
  refine (div_any p1 p2 A1 A2 n1 n2 c1 c2 a b _ z1 z2 (by omega) (by omega) h0).mono ?_
  rintro e w3 ⟨p3, A3, n3, c3, p4, A4, n4, c4, rfl, z3, z4, k3⟩
  replace HB := below_next HB k3
  clear k3 z1 z2
  have q3 := z3.small s1.out
  have q4 := z4.small s2.out
  have hk : Below w3.heap.size w3 ((w3.alloc (.cells #[.bool p3, .slice A3 n3 c3] 29)).alloc (.cells #[.bool p4, .slice A4 n4 c4] 29)) := below_next (below_alloc _ _) (below_alloc _ _)
  go_wp2_with fail
  refine (both_over p3 p4 A3 A4 n3 n4 c3 c4 _ _ _ (z3.below hk) (z4.below hk) (by omega) (by omega) h1).mono ?_
  rintro e w4 ⟨rfl, k4⟩
  replace HB := below_next (below_next HB hk) k4
  clear hk k4 z3 z4 h1
  go_wp2
  go_ret3
  exact ⟨rfl, HB⟩

theorem euc_zero (a : Int) (w : World) : Calls Try.prog 25 #[.int .i64 a, .int .i64 0] w (Ret3 w 0 0 3) := by
  go_enter Try.func25, Try.ntmps25
  go_wp2
  go_ret3
  exact ⟨rfl, Below.refl _ _⟩

/-- What stands in Euclid behind its division: the blocks of q and r, and the two numbers. -/
structure EucSt (w W : World) (g h : Nat) (pq : Bool) (Aq : Option Addr) (nq cq : Nat) (Q : Int) (pr : Bool) (Ar : Option Addr) (nr cr : Nat) (R : Int) : Prop where
  bq : Box W g pq (.slice Aq nq cq)
  br : Box W h pr (.slice Ar nr cr)
  zq : Zs W pq Aq nq cq Q
  zr : Zs W pr Ar nr cr R
  hb : Below w.heap.size w W
  gg : w.heap.size ≤ g
  gh : w.heap.size ≤ h
  ne : g ≠ h
section
variable {w W W' : World} {g h : Nat} {pq : Bool} {Aq : Option Addr} {nq cq : Nat} {Q : Int} {pr : Bool} {Ar : Option Addr} {nr cr : Nat} {R : Int}
theorem EucSt.below (s : EucSt w W g h pq Aq nq cq Q pr Ar nr cr R) (k : Below W.heap.size W W') : EucSt w W' g h pq Aq nq cq Q pr Ar nr cr R :=
  ⟨s.bq.below' k, s.br.below' k, s.zq.below k, s.zr.below k, below_next s.hb k, s.gg, s.gh, s.ne⟩
theorem EucSt.setR (s : EucSt w W g h pq Aq nq cq Q pr Ar nr cr R) {t : Bool} {C : Option Addr} {k f : Nat} {z : Int} (hz : Zs W t C k f z) :
    EucSt w ((W.setCell ⟨h, 0, none⟩ (.bool t)).setCell ⟨h, 1, none⟩ (.slice C k f)) g h pq Aq nq cq Q t C k f z :=
  ⟨s.bq.far2 (Ne.symm s.ne) _ _, s.br.self2 _ _, s.zq.set2 s.br.c0 _ _, hz.set2 s.br.c0 _ _, (s.hb.setCell (p := ⟨h, 0, none⟩) s.gh _).setCell (p := ⟨h, 1, none⟩) s.gh _, s.gg, s.gh, s.ne⟩
theorem EucSt.setQ (s : EucSt w W g h pq Aq nq cq Q pr Ar nr cr R) {t : Bool} {C : Option Addr} {k f : Nat} {z : Int} (hz : Zs W t C k f z) :
    EucSt w ((W.setCell ⟨g, 0, none⟩ (.bool t)).setCell ⟨g, 1, none⟩ (.slice C k f)) g h t C k f z pr Ar nr cr R :=
  ⟨s.bq.self2 _ _, s.br.far2 s.ne _ _, hz.set2 s.bq.c0 _ _, s.zr.set2 s.bq.c0 _ _, (s.hb.setCell (p := ⟨g, 0, none⟩) s.gg _).setCell (p := ⟨g, 1, none⟩) s.gg _, s.gg, s.gh, s.ne⟩
end

set_option maxRecDepth 100000 in
set_option maxHeartbeats 2000000 in
theorem euc_pos (a b : Int) (ha : In64 a) (hb : In64 b) (h0 : b ≠ 0) (hpos : ¬ a.fmod b < 0) (i1 : In64 (a.fdiv b)) (w : World) :
    Calls Try.prog 25 #[.int .i64 a, .int .i64 b] w (Ret3 w (a.fdiv b) (a.fmod b) 0) := by
  have OA := Lib.hid (fun W => of_any a ha.1 ha.2 W)
  have OB := Lib.hid (fun W => of_any b hb.1 hb.2 W)
  have sa := Lib.hid (small5 (x := a) (by unfold In64 at ha; omega))
  have sb := Lib.hid (small5 (x := b) (by unfold In64 at hb; omega))
  have hz : (b == 0) = false := by simpa using h0
  have i2 := fmod_in a b hb h0
  have s1 := Lib.hid (small5 (x := a.fdiv b) (by unfold In64 at i1; omega))
  have s2 := Lib.hid (small5 (x := a.fmod b) (by unfold In64 at i2; omega))
  clear ha hb
  go_enter Try.func25, Try.ntmps25
  go_wp2_with fail
  refine (OA.out _).mono ?_
  rintro e w1 ⟨p1, A1, n1, c1, rfl, z1, k1⟩
  have HB := k1
  go_wp2_with fail
  refine (OB.out _).mono ?_
  rintro e w2 ⟨p2, A2, n2, c2, rfl, z2, k2⟩
  replace HB := below_next HB k2
  have q1 := z1.small sa.out
  have q2 := z2.small sb.out
  replace z1 := z1.below k2
  clear k1 k2
  go_wp2_with fail
  refine (div_any p1 p2 A1 A2 n1 n2 c1 c2 a b _ z1 z2 (by omega) (by omega) h0).mono ?_
  rintro e w3 ⟨p3, A3, n3, c3, p4, A4, n4, c4, rfl, z3, z4, k3⟩
  replace HB := below_next HB k3
  clear k3 z1 z2
  have q3 := z3.small s1.out
  have q4 := z4.small s2.out
  have hp4 : p4 = false := by rw [z4.sign]; exact decide_eq_false (by omega)
  subst hp4
  have n1 := (Box.new w3 p3 (.slice A3 n3 c3) 29).alloc (.cells #[.bool false, .slice A4 n4 c4] 29)
  have n2 := Box.new (w3.alloc (.cells #[.bool p3, .slice A3 n3 c3] 29)) false (.slice A4 n4 c4) 29
  rw [World.size_alloc] at n2
  have hk : Below w3.heap.size w3 ((w3.alloc (.cells #[.bool p3, .slice A3 n3 c3] 29)).alloc (.cells #[.bool false, .slice A4 n4 c4] 29)) := below_next (below_alloc _ _) (below_alloc _ _)
  have st : EucSt w ((w3.alloc (.cells #[.bool p3, .slice A3 n3 c3] 29)).alloc (.cells #[.bool false, .slice A4 n4 c4] 29)) w3.heap.size (w3.heap.size + 1) p3 A3 n3 c3 (a.fdiv b) false A4 n4 c4 (a.fmod b) :=
    ⟨n1, n2, z3.below hk, z4.below hk, below_next HB hk, HB.size, by have := HB.size; omega, by omega⟩
  clear n1 n2 hk
  go_wp2_with fail
  refine (both_ok p3 false A3 A4 n3 n4 c3 c4 _ _ _ st.zq st.zr (by omega) (by omega) i1 i2).mono ?_
  rintro e w4 ⟨rfl, k4⟩
  replace HB := below_next st.hb k4
  clear k4 z3 z4 i1 i2 st
  go_wp2
  go_ret3
  exact ⟨rfl, HB⟩

set_option maxRecDepth 100000 in
set_option maxHeartbeats 2000000 in
theorem euc_over (a b : Int) (ha : In64 a) (hb : In64 b) (h0 : b ≠ 0) (hpos : ¬ a.fmod b < 0) (h1 : ¬ In64 (a.fdiv b)) (w : World) :
    Calls Try.prog 25 #[.int .i64 a, .int .i64 b] w (Ret3 w 0 0 2) := by
  have OA := Lib.hid (fun W => of_any a ha.1 ha.2 W)
  have OB := Lib.hid (fun W => of_any b hb.1 hb.2 W)
  have sa := Lib.hid (small5 (x := a) (by unfold In64 at ha; omega))
  have sb := Lib.hid (small5 (x := b) (by unfold In64 at hb; omega))
  have hz : (b == 0) = false := by simpa using h0
  have s1 := Lib.hid (small5 (x := a.fdiv b) (fdiv_small a b ha h0))
  have s2 := Lib.hid (small5 (x := a.fmod b) (by have := fmod_in a b hb h0; unfold In64 at this; omega))
  clear ha hb
  go_enter Try.func25, Try.ntmps25
  go_wp2_with fail
  refine (OA.out _).mono ?_
  rintro e w1 ⟨p1, A1, n1, c1, rfl, z1, k1⟩
  have HB := k1
  go_wp2_with fail
  refine (OB.out _).mono ?_
  rintro e w2 ⟨p2, A2, n2, c2, rfl, z2, k2⟩
  replace HB := below_next HB k2
  have q1 := z1.small sa.out
  have q2 := z2.small sb.out
  replace z1 := z1.below k2
  clear k1 k2
  go_wp2_with fail
  refine (div_any p1 p2 A1 A2 n1 n2 c1 c2 a b _ z1 z2 (by omega) (by omega) h0).mono ?_
  rintro e w3 ⟨p3, A3, n3, c3, p4, A4, n4, c4, rfl, z3, z4, k3⟩
  replace HB := below_next HB k3
  clear k3 z1 z2
  have q3 := z3.small s1.out
  have q4 := z4.small s2.out
  have hp4 : p4 = false := by rw [z4.sign]; exact decide_eq_false (by omega)
  subst hp4
  have n1 := (Box.new w3 p3 (.slice A3 n3 c3) 29).alloc (.cells #[.bool false, .slice A4 n4 c4] 29)
  have n2 := Box.new (w3.alloc (.cells #[.bool p3, .slice A3 n3 c3] 29)) false (.slice A4 n4 c4) 29
  rw [World.size_alloc] at n2
  have hk : Below w3.heap.size w3 ((w3.alloc (.cells #[.bool p3, .slice A3 n3 c3] 29)).alloc (.cells #[.bool false, .slice A4 n4 c4] 29)) := below_next (below_alloc _ _) (below_alloc _ _)
  have st : EucSt w ((w3.alloc (.cells #[.bool p3, .slice A3 n3 c3] 29)).alloc (.cells #[.bool false, .slice A4 n4 c4] 29)) w3.heap.size (w3.heap.size + 1) p3 A3 n3 c3 (a.fdiv b) false A4 n4 c4 (a.fmod b) :=
    ⟨n1, n2, z3.below hk, z4.below hk, below_next HB hk, HB.size, by have := HB.size; omega, by omega⟩
  clear n1 n2 hk
  go_wp2_with fail
  refine (both_over p3 false A3 A4 n3 n4 c3 c4 _ _ _ st.zq st.zr (by omega) (by omega) h1).mono ?_
  rintro e w4 ⟨rfl, k4⟩
  replace HB := below_next st.hb k4
  clear k4 z3 z4 h1 st
  go_wp2
  go_ret3
  exact ⟨rfl, HB⟩

set_option maxRecDepth 100000 in
set_option maxHeartbeats 4000000 in
theorem euc_neg (a b : Int) (ha : In64 a) (hb : In64 b) (h0 : b ≠ 0) (hneg : a.fmod b < 0) (i1 : In64 (a.fdiv b + 1)) (i2 : In64 (a.fmod b - b)) (w : World) :
    Calls Try.prog 25 #[.int .i64 a, .int .i64 b] w (Ret3 w (a.fdiv b + 1) (a.fmod b - b) 0) := by
  have OA := Lib.hid (fun W => of_any a ha.1 ha.2 W)
  have OB := Lib.hid (fun W => of_any b hb.1 hb.2 W)
  have sa := Lib.hid (small5 (x := a) (by unfold In64 at ha; omega))
  have sb := Lib.hid (small5 (x := b) (by unfold In64 at hb; omega))
  have hz : (b == 0) = false := by simpa using h0
  have s1 := Lib.hid (small5 (x := a.fdiv b) (fdiv_small a b ha h0))
  have s2 := Lib.hid (small5 (x := a.fmod b) (by have := fmod_in a b hb h0; unfold In64 at this; omega))
  have s3 := Lib.hid (small5 (x := a.fdiv b + 1) (by unfold In64 at i1; omega))
  have s4 := Lib.hid (small5 (x := a.fmod b - b) (by unfold In64 at i2; omega))
  have ONE := Lib.hid (show ((1 : Int)).natAbs < 65536 ^ 1 by decide)
  clear ha hb
  go_enter Try.func25, Try.ntmps25
  go_wp2_with fail
  refine (OA.out _).mono ?_
  rintro e w1 ⟨p1, A1, n1, c1, rfl, z1, k1⟩
  have HB := k1
  go_wp2_with fail
  refine (OB.out _).mono ?_
  rintro e w2 ⟨p2, A2, n2, c2, rfl, z2, k2⟩
  replace HB := below_next HB k2
  have q1 := z1.small sa.out
  have q2 := z2.small sb.out
  replace z1 := z1.below k2
  clear k1 k2
  go_wp2_with fail
  refine (div_any p1 p2 A1 A2 n1 n2 c1 c2 a b _ z1 z2 (by omega) (by omega) h0).mono ?_
  rintro e w3 ⟨p3, A3, n3, c3, p4, A4, n4, c4, rfl, z3, z4, k3⟩
  replace HB := below_next HB k3
  clear k3 z1 z2
  have q3 := z3.small s1.out
  have q4 := z4.small s2.out
  have hp4 : p4 = true := by rw [z4.sign]; exact decide_eq_true (by omega)
  subst hp4
  have n1 := (Box.new w3 p3 (.slice A3 n3 c3) 29).alloc (.cells #[.bool true, .slice A4 n4 c4] 29)
  have n2 := Box.new (w3.alloc (.cells #[.bool p3, .slice A3 n3 c3] 29)) true (.slice A4 n4 c4) 29
  rw [World.size_alloc] at n2
  have hk : Below w3.heap.size w3 ((w3.alloc (.cells #[.bool p3, .slice A3 n3 c3] 29)).alloc (.cells #[.bool true, .slice A4 n4 c4] 29)) := below_next (below_alloc _ _) (below_alloc _ _)
  have st : EucSt w ((w3.alloc (.cells #[.bool p3, .slice A3 n3 c3] 29)).alloc (.cells #[.bool true, .slice A4 n4 c4] 29)) w3.heap.size (w3.heap.size + 1) p3 A3 n3 c3 (a.fdiv b) true A4 n4 c4 (a.fmod b) :=
    ⟨n1, n2, z3.below hk, z4.below hk, below_next HB hk, HB.size, by have := HB.size; omega, by omega⟩
  clear n1 n2 hk
  go_wp2_with fail
  generalize (w3.alloc (.cells #[.bool p3, .slice A3 n3 c3] 29)).alloc (.cells #[.bool true, .slice A4 n4 c4] 29) = W at *
  have std := st.below (Below.refl _ _).drew
  have nn : w3.heap.size ≠ w3.heap.size + 1 := by omega
  obtain ⟨_, ce0, ce1, ce2, ce3⟩ := id st.bq
  go_region_with (first
    | (go_at_call 31; refine (ofu_int 1 (by decide) (by decide) _).mono ?_; rintro e w6 ⟨p6, A6, n6, c6, rfl, z6, k6⟩
       have l6 := z6.small ONE.out
       have s6 := std.below k6
       obtain ⟨_, ce4, ce5, ce6, ce7⟩ := id s6.bq)
    | (go_at_call 12; refine (add_any p3 p6 A3 A6 n3 n6 c3 c6 _ _ _ s6.zq z6 (by omega) (by omega)).mono ?_; rintro e w7 ⟨p7, A7, n7, c7, rfl, z7, k7⟩
       have l7 := z7.small s3.out
       have s7 := s6.below k7
       have s8 := s7.setQ z7
       obtain ⟨_, ca, cb, cc, cd⟩ := id s7.bq
       obtain ⟨_, da, db, dc, dd⟩ := id s7.br))
  all_goals
    go_wp2_with fail
    clear ca cb cc cd da db dc dd z7 s7
    generalize (w7.setCell ⟨w3.heap.size, 0, none⟩ (.bool p7)).setCell ⟨w3.heap.size, 1, none⟩ (.slice A7 n7 c7) = w8 at *
    have s8d := s8.below (Below.refl _ _).drew
    obtain ⟨_, d0, d1, d2, d3⟩ := id s8.br
    go_region_with (first
      | (go_at_call 13; refine (OB.out _).mono ?_; rintro e w9 ⟨p9, A9, n9, c9, rfl, z9, k9⟩
         have l9 := z9.small sb.out
         have s9 := s8d.below k9
         obtain ⟨_, d4, d5, d6, d7⟩ := id s9.br)
      | (go_at_call 15; refine (sub_any true p9 A4 A9 n4 n9 c4 c9 _ _ _ s9.zr z9 (by omega) (by omega)).mono ?_; rintro e w10 ⟨p10, A10, n10, c10, rfl, z10, k10⟩
         have l10 := z10.small s4.out
         have s10 := s9.below k10
         have s11 := s10.setR z10
         obtain ⟨_, ca, cb, _, _⟩ := id s10.bq
         obtain ⟨_, da, db, dc, dd⟩ := id s10.br))
    all_goals
      go_wp2_with fail
      clear ca cb da db dc dd z10 s10
      generalize (w10.setCell ⟨w3.heap.size + 1, 0, none⟩ (.bool p10)).setCell ⟨w3.heap.size + 1, 1, none⟩ (.slice A10 n10 c10) = w11 at *
      refine (both_ok p7 p10 A7 A10 n7 n10 c7 c10 _ _ _ s11.zq s11.zr (by omega) (by omega) i1 i2).mono ?_
      rintro e w12 ⟨rfl, k12⟩
      have HB2 := below_next s11.hb k12
      clear k12 s11
      go_wp2
      go_ret3
      exact ⟨rfl, HB2⟩
end Go.Proofs.Ythfnhnhoglhncaa
