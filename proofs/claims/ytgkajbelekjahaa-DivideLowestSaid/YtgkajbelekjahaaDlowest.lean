/- The document's answer of layer 3: fractions in their lowest terms. -/
import Derived.Test.YtgkajbelekjahaaDcommon
namespace Go.Proofs.Ytgkajbelekjahaa
open Go.RowKit

/-- the greatest common divisor with the sign of the number below -/
def gcdS (x y : Int) : Int := if y < 0 then -gcdZ x y else gcdZ x y
theorem gcdS_ne (x y : Int) (h : y ≠ 0) : gcdS x y ≠ 0 := by
  have : gcdZ x y ≠ 0 := by
    unfold gcdZ
    have := Nat.gcd_pos_of_pos_right x.natAbs (n := y.natAbs) (by omega)
    omega
  unfold gcdS
  split <;> omega
theorem gcdZ_small (x y : Int) (h : y ≠ 0) (sy : y.natAbs < 65536 ^ 9) : (gcdZ x y).natAbs < 65536 ^ 9 := by
  unfold gcdZ
  rw [Int.natAbs_natCast]
  exact Nat.lt_of_le_of_lt (Nat.gcd_le_right _ (by omega)) sy
theorem gcdS_small (x y : Int) (h : y ≠ 0) (sy : y.natAbs < 65536 ^ 9) : (gcdS x y).natAbs < 65536 ^ 9 := by
  have := gcdZ_small x y h sy
  unfold gcdS
  split <;> omega

set_option maxRecDepth 100000 in
set_option maxHeartbeats 8000000 in
theorem lowest_any (p q : Bool) (A B : Option Addr) (n m c d : Nat) (x y : Int) (w : World) (hx : Zs w p A n c x) (hy : Zs w q B m d y) (sx : x.natAbs < 65536 ^ 9) (sy : y.natAbs < 65536 ^ 9) (h0 : y ≠ 0) :
    Calls Try.prog 44 #[.agg #[.bool p, .slice A n c], .agg #[.bool q, .slice B m d]] w (RetQR w (x.fdiv (gcdS x y)) (y.fdiv (gcdS x y))) := by
  have lx := hx.small sx
  have ly := hy.small sy
  have hq := hy.sign
  have CM := Lib.hid (fun W h1 h2 => common_any p q A B n m c d x y W h1 h2 sx sy)
  have GN := Lib.hid (gcdS_ne x y h0)
  have SG := Lib.hid (gcdS_small x y h0 sy)
  have SZ := Lib.hid (gcdZ_small x y h0 sy)
  have GP := Lib.hid (show q = false → gcdZ x y = gcdS x y from fun h => by unfold gcdS; rw [if_neg (by rw [h] at hq; exact of_decide_eq_false hq.symm)])
  have GM := Lib.hid (show q = true → -gcdZ x y = gcdS x y from fun h => by unfold gcdS; rw [if_pos (by rw [h] at hq; exact of_decide_eq_true hq.symm)])
  have SP := Lib.hid (show (x.fdiv (gcdS x y)).natAbs < 65536 ^ 9 from quot_small sx GN.out)
  have SQ := Lib.hid (show (y.fdiv (gcdS x y)).natAbs < 65536 ^ 9 from quot_small sy GN.out)
  clear sx sy h0 hq
  have KK := ((((BZ.nil w [(p, A, n, c, x), (q, B, m, d, y)] (by simp [hx, hy])).more p (.slice A n c) 42).more q (.slice B m d) 42).more false (.slice none 0 0) 42).more false (.slice none 0 0) 42
  simp only [World.size_alloc] at KK
  clear hx hy
  go_enter Try.func44, Try.ntmps44
  go_wp2_with fail
  generalize (((w.alloc (.cells #[.bool p, .slice A n c] 42)).alloc (.cells #[.bool q, .slice B m d] 42)).alloc (.cells #[.bool false, .slice none 0 0] 42)).alloc (.cells #[.bool false, .slice none 0 0] 42) = w0 at *
  refine (CM.out _ KK.num KK.nt.num).mono ?_
  rintro e w1 ⟨p1, A1, n1, c1, rfl, z1, k⟩
  replace KK := KK.below k
  clear k
  obtain ⟨_, a0, a1, _, _⟩ := KK.tail.tail.tail.head
  obtain ⟨_, b0, b1, _, _⟩ := KK.tail.tail.head
  cases q
  · rw [GP.out rfl] at z1
    have l1 := z1.small SG.out
    go_wp2_with fail
    clear a0 a1 b0 b1
    have gg := KK.head.lt
    replace KK := (KK.more p1 (.slice A1 n1 c1) 42).ncons (z1.below (below_alloc2 _ _))
    generalize hw1 : w1.alloc (.cells #[.bool p1, .slice A1 n1 c1] 42) = w2 at *
    generalize hg : w1.heap.size = g at *
    clear hw1 hg z1
    clear GP GM SZ
    generalize gcdS x y = G at *
    refine (div_any p p1 A A1 n n1 c c1 x G _ KK.nt.num KK.num (by omega) (by omega) GN.out).mono ?_
    rintro e w3 ⟨p3, A3, n3, c3, p4, A4, n4, c4, rfl, z3, z4, k⟩
    replace KK := (KK.below k).ncons z3
    clear k z4
    obtain ⟨_, d0, d1, _, _⟩ := KK.tail.tail.tail.head
    obtain ⟨_, g0, g1, _, _⟩ := KK.head
    have v1 : w.heap.size < w3.heap.size := by omega
    have v2 : g < w3.heap.size + 1 := by omega
    go_wp2_with fail
    clear d0 d1 g0 g1 v1 v2
    have lp := KK.head.lt
    replace KK := (KK.more p3 (.slice A3 n3 c3) 42).more p4 (.slice A4 n4 c4) 42
    rw [World.size_alloc] at KK
    generalize hw3 : (w3.alloc (.cells #[.bool p3, .slice A3 n3 c3] 42)).alloc (.cells #[.bool p4, .slice A4 n4 c4] 42) = w4 at *
    generalize hg3 : w3.heap.size = h at *
    clear hw3 hg3
    refine (div_any false p1 B A1 m n1 d c1 y G _ KK.nt.nt.nt.num KK.nt.num (by omega) (by omega) GN.out).mono ?_
    rintro e w5 ⟨p5, A5, n5, c5, p6, A6, n6, c6, rfl, z5, z6, k⟩
    replace KK := (KK.below k).ncons z5
    clear k z6
    obtain ⟨_, h0, h1, _, _⟩ := KK.tail.head
    obtain ⟨_, s2, s3, t2, t3⟩ := KK.tail.tail.tail.tail.head
    obtain ⟨_, s4, s5, t4, t5⟩ := KK.tail.tail.tail.head
    go_wp2_with fail
    clear h0 h1 s2 s3 s4 s5 t2 t3 t4 t5
    have lq := KK.head.lt
    have hb5 : w.heap.size ≤ w5.heap.size := KK.hb.size
    replace KK := (KK.more p5 (.slice A5 n5 c5) 42).more p6 (.slice A6 n6 c6) 42
    rw [World.size_alloc] at KK
    generalize hw5 : (w5.alloc (.cells #[.bool p5, .slice A5 n5 c5] 42)).alloc (.cells #[.bool p6, .slice A6 n6 c6] 42) = w6 at *
    generalize hg5 : w5.heap.size = j at *
    clear hw5 hg5
    obtain ⟨_, j0, j1, _, _⟩ := KK.tail.head
    obtain ⟨_, h0, h1, _, _⟩ := KK.tail.tail.tail.head
    obtain ⟨_, s2, s3, t2, t3⟩ := KK.tail.tail.tail.tail.tail.tail.head
    obtain ⟨_, s4, s5, t4, t5⟩ := KK.tail.tail.tail.tail.tail.head
    have i1 : w.heap.size + 1 + 1 ≠ j := by omega
    have i2 : w.heap.size + 1 + 1 ≠ h := by omega
    have i3 : w.heap.size + 1 + 1 + 1 ≠ j := by omega
    have i4 : w.heap.size + 1 + 1 + 1 ≠ h := by omega
    have i7 : w.heap.size + 1 + 1 ≠ w.heap.size + 1 + 1 + 1 := by omega
    have R2 := KK.tail.tail.tail.tail.tail.tail.head
    have R3 := KK.tail.tail.tail.tail.tail.head
    have P2 := ((R2.self2 p3 (.slice A3 n3 c3)).far2 (Ne.symm i7) (.bool p5) (.slice A5 n5 c5)).drew
    have P3 := ((R3.far2 i7 (.bool p3) (.slice A3 n3 c3)).self2 p5 (.slice A5 n5 c5)).drew
    have HB := ((((KK.hb.setCell (p := ⟨w.heap.size + 1 + 1, 0, none⟩) (by show _ ≤ w.heap.size + 1 + 1; omega) (.bool p3)).setCell (p := ⟨w.heap.size + 1 + 1, 1, none⟩) (by show _ ≤ w.heap.size + 1 + 1; omega) (.slice A3 n3 c3)).setCell (p := ⟨w.heap.size + 1 + 1 + 1, 0, none⟩) (by show _ ≤ w.heap.size + 1 + 1 + 1; omega) (.bool p5)).setCell (p := ⟨w.heap.size + 1 + 1 + 1, 1, none⟩) (by show _ ≤ w.heap.size + 1 + 1 + 1; omega) (.slice A5 n5 c5)).drew
    have b3 := R3.far2 i7 (.bool p3) (.slice A3 n3 c3)
    have Zp := ((KK.nt.num.set2 R2.c0 p3 (.slice A3 n3 c3)).set2 b3.c0 p5 (.slice A5 n5 c5)).drew
    have Zq := ((KK.num.set2 R2.c0 p3 (.slice A3 n3 c3)).set2 b3.c0 p5 (.slice A5 n5 c5)).drew
    go_region
    all_goals
      go_wp2
      exact bodyPost_ret (v := .tuple #[.agg #[.bool p3, .slice A3 n3 c3], .agg #[.bool p5, .slice A5 n5 c5]]) (by simp [results, Try.results44, go_sem, P2.c0, P2.c1, P3.c0, P3.c1]) rfl ⟨p3, A3, n3, c3, p5, A5, n5, c5, rfl, Zp, Zq, HB⟩
  · have l1 := z1.small SZ.out
    go_wp2_with fail
    clear a0 a1 b0 b1
    have gg := KK.head.lt
    replace KK := (KK.more p1 (.slice A1 n1 c1) 42).ncons (z1.below (below_alloc2 _ _))
    generalize hw1 : w1.alloc (.cells #[.bool p1, .slice A1 n1 c1] 42) = w2 at *
    generalize hg : w1.heap.size = g at *
    clear hw1 hg z1
    refine (neg_any p1 A1 n1 c1 _ _ KK.num (by omega)).mono ?_
    rintro e w7 ⟨p2, A2, n2, c2, rfl, z2, k⟩
    rw [GM.out (by trivial)] at z2
    have l2 := z2.small SG.out
    replace KK := KK.below k
    clear k GP GM SZ
    obtain ⟨_, g0, g1, f0, f1⟩ := id KK.head
    obtain ⟨_, a0, a1, _, _⟩ := KK.tail.tail.tail.tail.head
    have u1 : g ≠ w.heap.size := by omega
    have u2 : g ≠ w.heap.size + 1 := by omega
    go_wp2_with fail
    replace KK := ((BZ.kept (w.heap.size + 1 + 1 + 1) (by simp <;> omega) (by omega)).set2 _ _ _ _ p2 (.slice A2 n2 c2) KK.tail.nt KK.head gg).cons (KK.head.self2 p2 (.slice A2 n2 c2)) |>.ncons (z2.set2 KK.head.c0 p2 (.slice A2 n2 c2))
    clear g0 g1 f0 f1 a0 a1 z2
    generalize (w7.setCell ⟨g, 0, none⟩ (.bool p2)).setCell ⟨g, 1, none⟩ (.slice A2 n2 c2) = w8 at *
    generalize gcdS x y = G at *
    refine (div_any p p2 A A2 n n2 c c2 x G _ KK.nt.num KK.num (by omega) (by omega) GN.out).mono ?_
    rintro e w3 ⟨p3, A3, n3, c3, p4, A4, n4, c4, rfl, z3, z4, k⟩
    replace KK := (KK.below k).ncons z3
    clear k z4
    obtain ⟨_, d0, d1, _, _⟩ := KK.tail.tail.tail.head
    obtain ⟨_, g0, g1, _, _⟩ := KK.head
    have v1 : w.heap.size < w3.heap.size := by omega
    have v2 : g < w3.heap.size + 1 := by omega
    go_wp2_with fail
    clear d0 d1 g0 g1 v1 v2
    have lp := KK.head.lt
    replace KK := (KK.more p3 (.slice A3 n3 c3) 42).more p4 (.slice A4 n4 c4) 42
    rw [World.size_alloc] at KK
    generalize hw3 : (w3.alloc (.cells #[.bool p3, .slice A3 n3 c3] 42)).alloc (.cells #[.bool p4, .slice A4 n4 c4] 42) = w4 at *
    generalize hg3 : w3.heap.size = h at *
    clear hw3 hg3
    refine (div_any true p2 B A2 m n2 d c2 y G _ KK.nt.nt.nt.num KK.nt.num (by omega) (by omega) GN.out).mono ?_
    rintro e w5 ⟨p5, A5, n5, c5, p6, A6, n6, c6, rfl, z5, z6, k⟩
    replace KK := (KK.below k).ncons z5
    clear k z6
    obtain ⟨_, h0, h1, _, _⟩ := KK.tail.head
    obtain ⟨_, s2, s3, t2, t3⟩ := KK.tail.tail.tail.tail.head
    obtain ⟨_, s4, s5, t4, t5⟩ := KK.tail.tail.tail.head
    go_wp2_with fail
    clear h0 h1 s2 s3 s4 s5 t2 t3 t4 t5
    have lq := KK.head.lt
    have hb5 : w.heap.size ≤ w5.heap.size := KK.hb.size
    replace KK := (KK.more p5 (.slice A5 n5 c5) 42).more p6 (.slice A6 n6 c6) 42
    rw [World.size_alloc] at KK
    generalize hw5 : (w5.alloc (.cells #[.bool p5, .slice A5 n5 c5] 42)).alloc (.cells #[.bool p6, .slice A6 n6 c6] 42) = w6 at *
    generalize hg5 : w5.heap.size = j at *
    clear hw5 hg5
    obtain ⟨_, j0, j1, _, _⟩ := KK.tail.head
    obtain ⟨_, h0, h1, _, _⟩ := KK.tail.tail.tail.head
    obtain ⟨_, s2, s3, t2, t3⟩ := KK.tail.tail.tail.tail.tail.tail.head
    obtain ⟨_, s4, s5, t4, t5⟩ := KK.tail.tail.tail.tail.tail.head
    have i1 : w.heap.size + 1 + 1 ≠ j := by omega
    have i2 : w.heap.size + 1 + 1 ≠ h := by omega
    have i3 : w.heap.size + 1 + 1 + 1 ≠ j := by omega
    have i4 : w.heap.size + 1 + 1 + 1 ≠ h := by omega
    have i7 : w.heap.size + 1 + 1 ≠ w.heap.size + 1 + 1 + 1 := by omega
    have R2 := KK.tail.tail.tail.tail.tail.tail.head
    have R3 := KK.tail.tail.tail.tail.tail.head
    have P2 := ((R2.self2 p3 (.slice A3 n3 c3)).far2 (Ne.symm i7) (.bool p5) (.slice A5 n5 c5)).drew
    have P3 := ((R3.far2 i7 (.bool p3) (.slice A3 n3 c3)).self2 p5 (.slice A5 n5 c5)).drew
    have HB := ((((KK.hb.setCell (p := ⟨w.heap.size + 1 + 1, 0, none⟩) (by show _ ≤ w.heap.size + 1 + 1; omega) (.bool p3)).setCell (p := ⟨w.heap.size + 1 + 1, 1, none⟩) (by show _ ≤ w.heap.size + 1 + 1; omega) (.slice A3 n3 c3)).setCell (p := ⟨w.heap.size + 1 + 1 + 1, 0, none⟩) (by show _ ≤ w.heap.size + 1 + 1 + 1; omega) (.bool p5)).setCell (p := ⟨w.heap.size + 1 + 1 + 1, 1, none⟩) (by show _ ≤ w.heap.size + 1 + 1 + 1; omega) (.slice A5 n5 c5)).drew
    have b3 := R3.far2 i7 (.bool p3) (.slice A3 n3 c3)
    have Zp := ((KK.nt.num.set2 R2.c0 p3 (.slice A3 n3 c3)).set2 b3.c0 p5 (.slice A5 n5 c5)).drew
    have Zq := ((KK.num.set2 R2.c0 p3 (.slice A3 n3 c3)).set2 b3.c0 p5 (.slice A5 n5 c5)).drew
    go_region
    all_goals
      go_wp2
      exact bodyPost_ret (v := .tuple #[.agg #[.bool p3, .slice A3 n3 c3], .agg #[.bool p5, .slice A5 n5 c5]]) (by simp [results, Try.results44, go_sem, P2.c0, P2.c1, P3.c0, P3.c1]) rfl ⟨p3, A3, n3, c3, p5, A5, n5, c5, rfl, Zp, Zq, HB⟩
end Go.Proofs.Ytgkajbelekjahaa
