/- Package divide's calls below, sizeOf and signed: numbers without their sign, and with one. -/
import Derived.Test.YtnopgdheffnfdaaVsize
namespace Go.Proofs.Ytnopgdheffnfdaa
open Go.RowKit

set_option maxRecDepth 100000 in
theorem below_w (a : Int) (w : World) : Calls Try.prog 64 #[.agg #[.int .i64 (hiW a), .int .u64 (loW a)]] w (RetV w (.bool (decide (a < 0)))) := by
  have HB := below_box w (.cells #[.int .i64 (hiW a), .int .u64 (loW a)] 24)
  have E := Lib.hid (show decide (a < 0) = decide (ord a 0 < 0) by simp only [ord_iff])
  have S := Lib.hid (fun W => wideSign a W)
  generalize ord a 0 = o at *
  generalize hx : hiW a = x at *
  generalize hy : loW a = y at *
  have HX := Lib.hid hx
  have HY := Lib.hid hy
  clear hx hy
  go_enter Try.func64, Try.ntmps64
  go_wp2_with (go_at_call 26; (with_reducible refine (S.out _).mono ?_); rintro e w' ⟨rfl, hb⟩)
  go_ret
  exact ⟨by rw [E.out]; rfl, below_thru HB hb⟩
theorem below_is (a : Int) (p : Bool) (h : decide (a < 0) = p) (w : World) : Calls Try.prog 64 #[.agg #[.int .i64 (hiW a), .int .u64 (loW a)]] w (RetV w (.bool p)) := by
  rw [← h]; exact below_w a w

theorem absw_pos {a : Int} (h : InW a) (h0 : 0 ≤ a) : IntKind.u64.wrap (hiW a) = hiW (a.natAbs : Int) ∧ loW a = loW (a.natAbs : Int) := by
  rw [show (a.natAbs : Int) = a by omega, IntKind.wrap_u64]
  unfold InW two127 at h; unfold hiW; omega
theorem absw_neg {a : Int} (h : InW a) (h0 : a < 0) (h1 : InW (-a)) : IntKind.u64.wrap (hiW (-a)) = hiW (a.natAbs : Int) ∧ loW (-a) = loW (a.natAbs : Int) := by
  rw [show (a.natAbs : Int) = -a by omega, IntKind.wrap_u64]
  unfold InW two127 at h h1; unfold hiW; omega
theorem abs_least {a : Int} (h : InW a) (h0 : a < 0) (h1 : ¬ InW (-a)) : IntKind.u64.wrap (hiW a) = hiW (a.natAbs : Int) ∧ loW a = loW (a.natAbs : Int) := by
  rw [IntKind.wrap_u64]
  have : a = -170141183460469231731687303715884105728 := by unfold InW two127 at h h1; omega
  subst this
  decide
theorem told_in {z : Int} (h : InW z) : hv z = hiW z ∧ lv z = loW z ∧ ev z = 0 := by unfold hv lv ev; rw [if_pos h, if_pos h, if_pos h]; exact ⟨rfl, rfl, rfl⟩
theorem told_no {z : Int} (h : ¬ InW z) : hv z = 0 ∧ lv z = 0 ∧ ev z = 2 := by unfold hv lv ev; rw [if_neg h, if_neg h, if_neg h]; exact ⟨rfl, rfl, rfl⟩

set_option maxRecDepth 100000 in
set_option maxHeartbeats 1000000 in
theorem sizeOf_any (a : Int) (ha : InW a) (w : World) : Calls Try.prog 62 #[.agg #[.int .i64 (hiW a), .int .u64 (loW a)]] w (RetSz w (a.natAbs : Int)) := by
  have B := Lib.hid (fun p h W => below_is a p h W)
  have N := Lib.hid (fun W => wideNeg a ha W)
  by_cases h0 : 0 ≤ a
  · have E := Lib.hid (absw_pos ha h0)
    have BF := Lib.hid (fun W => B.out false (by rw [decide_eq_false_iff_not]; omega) W)
    clear B h0 ha N
    generalize hx : hiW a = x at *
    generalize hy : loW a = y at *
    have HX := Lib.hid hx
    have HY := Lib.hid hy
    clear hx hy
    go_enter Try.func62, Try.ntmps62
    go_wp2_with fail
    have A := (Pair.new w (.int .i64 x) (.int .u64 y) 24).below (below_box _ (.cells #[.int .u64 0, .int .u64 0] 74))
    have R := Pair.new (w.alloc (.cells #[.int .i64 x, .int .u64 y] 24)) (.int .u64 0) (.int .u64 0) 74
    have HB := below_thru (below_box w (.cells #[.int .i64 x, .int .u64 y] 24)) (below_box _ (.cells #[.int .u64 0, .int .u64 0] 74))
    simp only [World.size_alloc] at R
    generalize (w.alloc (.cells #[.int .i64 x, .int .u64 y] 24)).alloc (.cells #[.int .u64 0, .int .u64 0] 74) = w0 at *
    refine (BF.out w0).mono ?_
    rintro e w1 ⟨rfl, k⟩
    replace A := A.below k
    replace R := R.below k
    replace HB := below_thru HB k
    clear k
    obtain ⟨_, a0, a1, _, _⟩ := id A
    obtain ⟨_, r0, r1, r2, r3⟩ := id R
    go_wp2
    have R2 := R.self2 (.int .u64 (IntKind.u64.wrap x)) (.int .u64 y)
    exact bodyPost_ret (v := .agg #[.int .u64 (IntKind.u64.wrap x), .int .u64 y]) (by simp [results, Try.results62, go_sem, R2.c0, R2.c1]) rfl ⟨by rw [E.out.1, E.out.2], (HB.setCell (p := ⟨w.heap.size + 1, 0, none⟩) (by show _ ≤ w.heap.size + 1; omega) _).setCell (p := ⟨w.heap.size + 1, 1, none⟩) (by show _ ≤ w.heap.size + 1; omega) _⟩
  · have h0' : a < 0 := by omega
    have BT := Lib.hid (fun W => B.out true (decide_eq_true h0') W)
    clear B h0
    by_cases h1 : InW (-a)
    · have E := Lib.hid (absw_neg ha h0' h1)
      have T := Lib.hid (told_in h1)
      clear h1 h0' ha
      generalize hiW (-a) = u at *
      generalize loW (-a) = v at *
      generalize hx : hiW a = x at *
      generalize hy : loW a = y at *
      have HX := Lib.hid hx
      have HY := Lib.hid hy
      clear hx hy
      go_enter Try.func62, Try.ntmps62
      go_wp2_with fail
      have A := (Pair.new w (.int .i64 x) (.int .u64 y) 24).below (below_box _ (.cells #[.int .u64 0, .int .u64 0] 74))
      have R := Pair.new (w.alloc (.cells #[.int .i64 x, .int .u64 y] 24)) (.int .u64 0) (.int .u64 0) 74
      have HB := below_thru (below_box w (.cells #[.int .i64 x, .int .u64 y] 24)) (below_box _ (.cells #[.int .u64 0, .int .u64 0] 74))
      simp only [World.size_alloc] at R
      generalize (w.alloc (.cells #[.int .i64 x, .int .u64 y] 24)).alloc (.cells #[.int .u64 0, .int .u64 0] 74) = w0 at *
      refine (BT.out w0).mono ?_
      rintro e w1 ⟨rfl, k⟩
      replace A := A.below k
      replace R := R.below k
      replace HB := below_thru HB k
      clear k
      obtain ⟨_, a0, a1, _, _⟩ := id A
      go_wp2_with fail
      refine (N.out w1).mono ?_
      rintro e w2 ⟨rfl, k⟩
      rw [T.out.1, T.out.2.1, T.out.2.2]
      replace A := A.below k
      replace R := R.below k
      replace HB := below_thru HB k
      clear k a0 a1
      have hlt := R.lt
      obtain ⟨_, a0, a1, f0, f1⟩ := id (A.below (below_box _ (.cells #[.int .i64 u, .int .u64 v] 24)))
      obtain ⟨_, r0, r1, r2, r3⟩ := id (R.below (below_box _ (.cells #[.int .i64 u, .int .u64 v] 24)))
      have i1 : w.heap.size + 1 ≠ w.heap.size := by omega
      have R2 := (((R.below (below_box _ (.cells #[.int .i64 u, .int .u64 v] 24))).far2 (Ne.symm i1) (.int .i64 u) (.int .u64 v))).self2 (.int .u64 (IntKind.u64.wrap u)) (.int .u64 v)
      replace HB := below_thru HB (below_box _ (.cells #[.int .i64 u, .int .u64 v] 24))
      go_wp2
      exact bodyPost_ret (v := .agg #[.int .u64 (IntKind.u64.wrap u), .int .u64 v]) (by simp [results, Try.results62, go_sem, R2.c0, R2.c1]) rfl ⟨by rw [E.out.1, E.out.2], (((HB.setCell (p := ⟨w.heap.size, 0, none⟩) (Nat.le_refl _) _).setCell (p := ⟨w.heap.size, 1, none⟩) (Nat.le_refl _) _).setCell (p := ⟨w.heap.size + 1, 0, none⟩) (by show _ ≤ w.heap.size + 1; omega) _).setCell (p := ⟨w.heap.size + 1, 1, none⟩) (by show _ ≤ w.heap.size + 1; omega) _⟩
    · have E := Lib.hid (abs_least ha h0' h1)
      have T := Lib.hid (told_no h1)
      clear h1 h0' ha
      generalize hx : hiW a = x at *
      generalize hy : loW a = y at *
      have HX := Lib.hid hx
      have HY := Lib.hid hy
      clear hx hy
      go_enter Try.func62, Try.ntmps62
      go_wp2_with fail
      have A := (Pair.new w (.int .i64 x) (.int .u64 y) 24).below (below_box _ (.cells #[.int .u64 0, .int .u64 0] 74))
      have R := Pair.new (w.alloc (.cells #[.int .i64 x, .int .u64 y] 24)) (.int .u64 0) (.int .u64 0) 74
      have HB := below_thru (below_box w (.cells #[.int .i64 x, .int .u64 y] 24)) (below_box _ (.cells #[.int .u64 0, .int .u64 0] 74))
      simp only [World.size_alloc] at R
      generalize (w.alloc (.cells #[.int .i64 x, .int .u64 y] 24)).alloc (.cells #[.int .u64 0, .int .u64 0] 74) = w0 at *
      refine (BT.out w0).mono ?_
      rintro e w1 ⟨rfl, k⟩
      replace A := A.below k
      replace R := R.below k
      replace HB := below_thru HB k
      clear k
      obtain ⟨_, a0, a1, _, _⟩ := id A
      go_wp2_with fail
      refine (N.out w1).mono ?_
      rintro e w2 ⟨rfl, k⟩
      rw [T.out.1, T.out.2.1, T.out.2.2]
      replace A := A.below k
      replace R := R.below k
      replace HB := below_thru HB k
      clear k a0 a1
      obtain ⟨_, a0, a1, f0, f1⟩ := id (A.below (below_box _ (.cells #[.int .i64 0, .int .u64 0] 24)))
      obtain ⟨_, r0, r1, r2, r3⟩ := id (R.below (below_box _ (.cells #[.int .i64 0, .int .u64 0] 24)))
      have R2 := ((R.below (below_box _ (.cells #[.int .i64 0, .int .u64 0] 24)))).self2 (.int .u64 (IntKind.u64.wrap x)) (.int .u64 y)
      replace HB := below_thru HB (below_box _ (.cells #[.int .i64 0, .int .u64 0] 24))
      go_wp2
      exact bodyPost_ret (v := .agg #[.int .u64 (IntKind.u64.wrap x), .int .u64 y]) (by simp [results, Try.results62, go_sem, R2.c0, R2.c1]) rfl ⟨by rw [E.out.1, E.out.2], (HB.setCell (p := ⟨w.heap.size + 1, 0, none⟩) (by show _ ≤ w.heap.size + 1; omega) _).setCell (p := ⟨w.heap.size + 1, 1, none⟩) (by show _ ≤ w.heap.size + 1; omega) _⟩

/-- the number of that size, below 0 or not -/
def sg (m : Bool) (s : Int) : Int := if m then -s else s
theorem sg_nat (a : Int) : sg (decide (a < 0)) (a.natAbs : Int) = a := by
  unfold sg
  by_cases h : a < 0
  · rw [decide_eq_true h, if_pos rfl]; omega
  · rw [decide_eq_false h, if_neg (by decide)]; omega

/-- what signed makes of a size below 2^127, and of 2^127 -/
theorem in_small {s : Int} (h0 : 0 ≤ s) (h1 : s < 170141183460469231731687303715884105728) : InW s ∧ InW (-s) := by unfold InW two127; omega
theorem hi_small {s : Int} (h0 : 0 ≤ s) (h1 : s < 170141183460469231731687303715884105728) : wrap64 (hiW s) = hiW s := by unfold wrap64 hiW; omega

set_option maxRecDepth 100000 in
set_option maxHeartbeats 1000000 in
theorem signed_minus (s : Int) (h0 : 0 ≤ s) (h1 : s < 170141183460469231731687303715884105728) (w : World) : Calls Try.prog 63 #[.agg #[.int .u64 (hiW s), .int .u64 (loW s)], .bool true] w (RetWE w (-s)) := by
  obtain ⟨i1, i2⟩ := in_small h0 h1
  have hw := Lib.hid (hi_small h0 h1)
  have BF := Lib.hid (fun W => below_is s false (by rw [decide_eq_false_iff_not]; omega) W)
  have N := Lib.hid (fun W => wideNeg s i1 W)
  have T := Lib.hid (told_in i1)
  obtain ⟨q0, q1, l0, l1, es⟩ := halfs (s := s) (by unfold InS; omega)
  clear es
  clear i1 i2 h0 h1
  generalize hx : hiW s = x at *
  generalize hy : loW s = y at *
  have HX := Lib.hid hx
  have HY := Lib.hid hy
  clear hx hy
  go_enter Try.func63, Try.ntmps63
  go_wp2_with fail
  rw [hw.out]
  have R := (Pair.new (w.alloc (.cells #[.int .u64 x, .int .u64 y] 74)) (.int .i64 0) (.int .u64 0) 24).below (below_box _ (.cells #[.int .i64 x, .int .u64 y] 24))
  have A := Pair.new ((w.alloc (.cells #[.int .u64 x, .int .u64 y] 74)).alloc (.cells #[.int .i64 0, .int .u64 0] 24)) (.int .i64 x) (.int .u64 y) 24
  have HB := below_thru (below_thru (below_box w (.cells #[.int .u64 x, .int .u64 y] 74)) (below_box _ (.cells #[.int .i64 0, .int .u64 0] 24))) (below_box _ (.cells #[.int .i64 x, .int .u64 y] 24))
  simp only [World.size_alloc] at R A
  generalize ((w.alloc (.cells #[.int .u64 x, .int .u64 y] 74)).alloc (.cells #[.int .i64 0, .int .u64 0] 24)).alloc (.cells #[.int .i64 x, .int .u64 y] 24) = w0 at *
  refine (BF.out w0).mono ?_
  rintro e w1 ⟨rfl, k⟩
  replace A := A.below k
  replace R := R.below k
  replace HB := below_thru HB k
  clear k
  obtain ⟨_, a0, a1, _, _⟩ := id A
  go_wp2_with fail
  refine (N.out w1).mono ?_
  rintro e w2 ⟨rfl, k⟩
  generalize gu : hv (-s) = u at *
  generalize gv : lv (-s) = v at *
  generalize gd : ev (-s) = d at *
  have GG := Lib.hid (And.intro gu (And.intro gv gd))
  clear gu gv gd
  replace A := A.below k
  replace R := R.below k
  replace HB := below_thru HB k
  clear k a0 a1
  obtain ⟨_, r0, r1, r2, r3⟩ := id R
  go_wp2
  have R2 := R.self2 (.int .i64 u) (.int .u64 v)
  exact bodyPost_ret (v := .tuple #[.agg #[.int .i64 u, .int .u64 v], .int .i64 d]) (by simp [results, Try.results63, go_sem, R2.c0, R2.c1]) rfl ⟨by rw [GG.out.1, GG.out.2.1, GG.out.2.2], (HB.setCell (p := ⟨w.heap.size + 1, 0, none⟩) (by show _ ≤ w.heap.size + 1; omega) _).setCell (p := ⟨w.heap.size + 1, 1, none⟩) (by show _ ≤ w.heap.size + 1; omega) _⟩

set_option maxRecDepth 100000 in
set_option maxHeartbeats 1000000 in
theorem signed_plus (s : Int) (h0 : 0 ≤ s) (h1 : s < 170141183460469231731687303715884105728) (w : World) : Calls Try.prog 63 #[.agg #[.int .u64 (hiW s), .int .u64 (loW s)], .bool false] w (RetWE w s) := by
  obtain ⟨i1, i2⟩ := in_small h0 h1
  have hw := Lib.hid (hi_small h0 h1)
  have BF := Lib.hid (fun W => below_is s false (by rw [decide_eq_false_iff_not]; omega) W)
  have T := Lib.hid (told_in i1)
  obtain ⟨q0, q1, l0, l1, es⟩ := halfs (s := s) (by unfold InS; omega)
  clear es
  clear i1 i2 h0 h1
  generalize hx : hiW s = x at *
  generalize hy : loW s = y at *
  have HX := Lib.hid hx
  have HY := Lib.hid hy
  clear hx hy
  go_enter Try.func63, Try.ntmps63
  go_wp2_with fail
  rw [hw.out]
  have R := (Pair.new (w.alloc (.cells #[.int .u64 x, .int .u64 y] 74)) (.int .i64 0) (.int .u64 0) 24).below (below_box _ (.cells #[.int .i64 x, .int .u64 y] 24))
  have A := Pair.new ((w.alloc (.cells #[.int .u64 x, .int .u64 y] 74)).alloc (.cells #[.int .i64 0, .int .u64 0] 24)) (.int .i64 x) (.int .u64 y) 24
  have HB := below_thru (below_thru (below_box w (.cells #[.int .u64 x, .int .u64 y] 74)) (below_box _ (.cells #[.int .i64 0, .int .u64 0] 24))) (below_box _ (.cells #[.int .i64 x, .int .u64 y] 24))
  simp only [World.size_alloc] at R A
  generalize ((w.alloc (.cells #[.int .u64 x, .int .u64 y] 74)).alloc (.cells #[.int .i64 0, .int .u64 0] 24)).alloc (.cells #[.int .i64 x, .int .u64 y] 24) = w0 at *
  refine (BF.out w0).mono ?_
  rintro e w1 ⟨rfl, k⟩
  replace A := A.below k
  replace R := R.below k
  replace HB := below_thru HB k
  clear k
  obtain ⟨_, a0, a1, _, _⟩ := id A
  go_wp2_with fail
  refine (BF.out w1).mono ?_
  rintro e w2 ⟨rfl, k⟩
  replace A := A.below k
  replace R := R.below k
  replace HB := below_thru HB k
  clear k a0 a1
  obtain ⟨_, a0, a1, _, _⟩ := id A
  obtain ⟨_, r0, r1, r2, r3⟩ := id R
  go_wp2
  have R2 := R.self2 (.int .i64 x) (.int .u64 y)
  exact bodyPost_ret (v := .tuple #[.agg #[.int .i64 x, .int .u64 y], .int .i64 0]) (by simp [results, Try.results63, go_sem, R2.c0, R2.c1]) rfl ⟨by rw [T.out.1, T.out.2.1, T.out.2.2]; first | done | rw [HX.out, HY.out], (HB.setCell (p := ⟨w.heap.size + 1, 0, none⟩) (by show _ ≤ w.heap.size + 1; omega) _).setCell (p := ⟨w.heap.size + 1, 1, none⟩) (by show _ ≤ w.heap.size + 1; omega) _⟩

set_option maxRecDepth 100000 in
set_option maxHeartbeats 1000000 in
theorem signed_least (w : World) : Calls Try.prog 63 #[.agg #[.int .u64 9223372036854775808, .int .u64 0], .bool true] w (RetWE w (-170141183460469231731687303715884105728)) := by
  have hw := Lib.hid (show wrap64 9223372036854775808 = -9223372036854775808 by unfold wrap64; omega)
  have BF := Lib.hid (fun W => below_is (-170141183460469231731687303715884105728) true (by decide) W)
  rw [show hiW (-170141183460469231731687303715884105728) = -9223372036854775808 by decide, show loW (-170141183460469231731687303715884105728) = 0 by decide] at BF
  go_enter Try.func63, Try.ntmps63
  go_wp2_with fail
  rw [hw.out]
  have R := (Pair.new (w.alloc (.cells #[.int .u64 9223372036854775808, .int .u64 0] 74)) (.int .i64 0) (.int .u64 0) 24).below (below_box _ (.cells #[.int .i64 (-9223372036854775808), .int .u64 0] 24))
  have A := Pair.new ((w.alloc (.cells #[.int .u64 9223372036854775808, .int .u64 0] 74)).alloc (.cells #[.int .i64 0, .int .u64 0] 24)) (.int .i64 (-9223372036854775808)) (.int .u64 0) 24
  have HB := below_thru (below_thru (below_box w (.cells #[.int .u64 9223372036854775808, .int .u64 0] 74)) (below_box _ (.cells #[.int .i64 0, .int .u64 0] 24))) (below_box _ (.cells #[.int .i64 (-9223372036854775808), .int .u64 0] 24))
  simp only [World.size_alloc] at R A
  generalize ((w.alloc (.cells #[.int .u64 9223372036854775808, .int .u64 0] 74)).alloc (.cells #[.int .i64 0, .int .u64 0] 24)).alloc (.cells #[.int .i64 (-9223372036854775808), .int .u64 0] 24) = w0 at *
  refine (BF.out w0).mono ?_
  rintro e w1 ⟨rfl, k⟩
  replace A := A.below k
  replace R := R.below k
  replace HB := below_thru HB k
  clear k
  obtain ⟨_, a0, a1, _, _⟩ := id A
  go_wp2_with fail
  refine (BF.out w1).mono ?_
  rintro e w2 ⟨rfl, k⟩
  replace A := A.below k
  replace R := R.below k
  replace HB := below_thru HB k
  clear k a0 a1
  obtain ⟨_, a0, a1, _, _⟩ := id A
  obtain ⟨_, r0, r1, r2, r3⟩ := id R
  go_wp2
  have R2 := R.self2 (.int .i64 (-9223372036854775808)) (.int .u64 0)
  exact bodyPost_ret (v := .tuple #[.agg #[.int .i64 (-9223372036854775808), .int .u64 0], .int .i64 0]) (by simp [results, Try.results63, go_sem, R2.c0, R2.c1]) rfl ⟨rfl, (HB.setCell (p := ⟨w.heap.size + 1, 0, none⟩) (by show _ ≤ w.heap.size + 1; omega) _).setCell (p := ⟨w.heap.size + 1, 1, none⟩) (by show _ ≤ w.heap.size + 1; omega) _⟩

set_option maxRecDepth 100000 in
set_option maxHeartbeats 1000000 in
theorem signed_over (w : World) : Calls Try.prog 63 #[.agg #[.int .u64 9223372036854775808, .int .u64 0], .bool false] w (RetWE w 170141183460469231731687303715884105728) := by
  have hw := Lib.hid (show wrap64 9223372036854775808 = -9223372036854775808 by unfold wrap64; omega)
  have BF := Lib.hid (fun W => below_is (-170141183460469231731687303715884105728) true (by decide) W)
  rw [show hiW (-170141183460469231731687303715884105728) = -9223372036854775808 by decide, show loW (-170141183460469231731687303715884105728) = 0 by decide] at BF
  go_enter Try.func63, Try.ntmps63
  go_wp2_with fail
  rw [hw.out]
  have R := (Pair.new (w.alloc (.cells #[.int .u64 9223372036854775808, .int .u64 0] 74)) (.int .i64 0) (.int .u64 0) 24).below (below_box _ (.cells #[.int .i64 (-9223372036854775808), .int .u64 0] 24))
  have A := Pair.new ((w.alloc (.cells #[.int .u64 9223372036854775808, .int .u64 0] 74)).alloc (.cells #[.int .i64 0, .int .u64 0] 24)) (.int .i64 (-9223372036854775808)) (.int .u64 0) 24
  have HB := below_thru (below_thru (below_box w (.cells #[.int .u64 9223372036854775808, .int .u64 0] 74)) (below_box _ (.cells #[.int .i64 0, .int .u64 0] 24))) (below_box _ (.cells #[.int .i64 (-9223372036854775808), .int .u64 0] 24))
  simp only [World.size_alloc] at R A
  generalize ((w.alloc (.cells #[.int .u64 9223372036854775808, .int .u64 0] 74)).alloc (.cells #[.int .i64 0, .int .u64 0] 24)).alloc (.cells #[.int .i64 (-9223372036854775808), .int .u64 0] 24) = w0 at *
  refine (BF.out w0).mono ?_
  rintro e w1 ⟨rfl, k⟩
  replace A := A.below k
  replace R := R.below k
  replace HB := below_thru HB k
  clear k
  obtain ⟨_, a0, a1, _, _⟩ := id A
  go_wp2_with fail
  refine (BF.out w1).mono ?_
  rintro e w2 ⟨rfl, k⟩
  replace A := A.below k
  replace R := R.below k
  replace HB := below_thru HB k
  clear k a0 a1
  obtain ⟨_, a0, a1, _, _⟩ := id A
  obtain ⟨_, r0, r1, r2, r3⟩ := id R
  go_wp2
  have R2 := R.self2 (.int .i64 0) (.int .u64 0)
  exact bodyPost_ret (v := .tuple #[.agg #[.int .i64 0, .int .u64 0], .int .i64 2]) (by simp [results, Try.results63, go_sem, R2.c0, R2.c1]) rfl ⟨rfl, (HB.setCell (p := ⟨w.heap.size + 1, 0, none⟩) (by show _ ≤ w.heap.size + 1; omega) _).setCell (p := ⟨w.heap.size + 1, 1, none⟩) (by show _ ≤ w.heap.size + 1; omega) _⟩

theorem signed_any (s : Int) (m : Bool) (h0 : 0 ≤ s) (h1 : s ≤ 170141183460469231731687303715884105728) (w : World) : Calls Try.prog 63 #[.agg #[.int .u64 (hiW s), .int .u64 (loW s)], .bool m] w (RetWE w (sg m s)) := by
  by_cases h : s = 170141183460469231731687303715884105728
  · subst h
    cases m
    · exact signed_over w
    · exact signed_least w
  · cases m
    · exact signed_plus s h0 (by omega) w
    · exact signed_minus s h0 (by omega) w
end Go.Proofs.Ytnopgdheffnfdaa
