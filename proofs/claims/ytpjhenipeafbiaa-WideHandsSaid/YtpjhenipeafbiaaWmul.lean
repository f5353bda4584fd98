/- What package wide's scaled, Mul and Times answer. -/
import Derived.Test.YtpjhenipeafbiaaWadd
import Derived.Test.YtpjhenipeafbiaaWany
import Derived.Deep.DeepCutAuto
namespace Go.Proofs.Ytpjhenipeafbiaa
open Go.RowKit

/-- how great a product can be -/
theorem prod_bounds {u n : Int} (h0 : 0 ≤ u) (h1 : u ≤ 18446744073709551615) (hn : In64 n) :
    -170141183460469231722463931679029329920 ≤ u * n ∧ u * n ≤ 170141183460469231704017187605319778305 := by
  unfold In64 at hn
  have k1 : u * n ≤ u * 9223372036854775807 := Int.mul_le_mul_of_nonneg_left hn.2 h0
  have k2 : u * (-9223372036854775808) ≤ u * n := Int.mul_le_mul_of_nonneg_left hn.1 h0
  omega

theorem wideScaled (u n : Int) (h0 : 0 ≤ u) (h1 : u ≤ 18446744073709551615) (hn : In64 n) (w : World) :
    Calls Try.prog 45 #[.int .u64 u, .int .i64 n] w (RetW w (u * n)) := by
  obtain ⟨b1, b2⟩ := prod_bounds h0 h1 hn
  have hw : IntKind.u64.wrap n = if n < 0 then n + 18446744073709551616 else n := by rw [IntKind.wrap_u64]; unfold In64 at hn; split <;> omega
  unfold In64 at hn
  by_cases h : n < 0
  · rw [if_pos h] at hw
    have M := fun W => mul64_any u (n + 18446744073709551616) h0 h1 (by omega) (by omega) W
    rw [Int.mul_add] at M
    generalize u * n = p at *
    have e1 : wrap64 (IntKind.u64.wrap ((p + u * 18446744073709551616) / 18446744073709551616 - u)) = hiW p := by
      rw [IntKind.wrap_u64]; unfold wrap64 hiW; omega
    have e2 : (p + u * 18446744073709551616) % 18446744073709551616 = loW p := by unfold loW; omega
    rw [e2] at M
    clear e2 b1 b2
    go_enter Try.func45, Try.ntmps45
    go_wp2_with (go_at_call 55; refine (M _).mono ?_; rintro e w' ⟨rfl, rfl⟩)
    exact bodyPost_ret (v := .agg #[.int .i64 (hiW p), .int .u64 (loW p)]) (by simp [results, Try.results45, go_sem]) rfl ⟨rfl, below_box _ _⟩
  · rw [if_neg h] at hw
    have M := fun W => mul64_any u n h0 h1 (by omega) (by omega) W
    generalize u * n = p at *
    have e1 : wrap64 (p / 18446744073709551616) = hiW p := by unfold wrap64 hiW; omega
    have e2 : p % 18446744073709551616 = loW p := rfl
    rw [e2] at M
    clear e2 b1 b2
    go_enter Try.func45, Try.ntmps45
    go_wp2_with (go_at_call 55; refine (M _).mono ?_; rintro e w' ⟨rfl, rfl⟩)
    exact bodyPost_ret (v := .agg #[.int .i64 (hiW p), .int .u64 (loW p)]) (by simp [results, Try.results45, go_sem]) rfl ⟨rfl, below_box _ _⟩

theorem prod64_wide {a b : Int} (ha : In64 a) (hb : In64 b) : InW (a * b) := by
  have k : (a * b).natAbs ≤ 9223372036854775808 * 9223372036854775808 := by
    rw [Int.natAbs_mul]
    unfold In64 at ha hb
    exact Nat.mul_le_mul (by omega) (by omega)
  unfold InW two127
  omega

theorem wideMul (a b : Int) (ha : In64 a) (hb : In64 b) (w : World) :
    Calls Try.prog 26 #[.int .i64 a, .int .i64 b] w (RetW w (a * b)) := by
  have hp := prod64_wide ha hb
  have hw : IntKind.u64.wrap a = if a < 0 then a + 18446744073709551616 else a := by rw [IntKind.wrap_u64]; unfold In64 at ha; split <;> omega
  by_cases h : a < 0
  · rw [if_pos h] at hw
    have M := fun W => wideScaled (a + 18446744073709551616) b (by unfold In64 at ha; omega) (by omega) hb W
    rw [Int.add_mul] at M
    generalize a * b = p at *
    have e1 : wrap64 (hiW (p + 18446744073709551616 * b) - b) = hiW p := by
      unfold InW two127 at hp
      unfold wrap64 hiW; omega
    have e2 : loW (p + 18446744073709551616 * b) = loW p := by unfold loW; omega
    clear hp
    generalize p + 18446744073709551616 * b = z at *
    go_enter Try.func26, Try.ntmps26
    go_wp2_with fail
    have P0 := Pair.new w (.int .i64 0) (.int .u64 0) 24
    have HB := below_box w (.cells #[.int .i64 0, .int .u64 0] 24)
    generalize w.alloc (.cells #[.int .i64 0, .int .u64 0] 24) = w0 at *
    refine (M _).mono ?_
    rintro e w1 ⟨rfl, k⟩
    replace HB := below_thru HB k
    replace P0 := P0.below k
    clear k
    obtain ⟨hlt, d0, d1, f0, f1⟩ := id P0
    go_wp2
    have P2 := (P0.self2 (.int .i64 (hiW p)) (.int .u64 (loW p))).below (below_box _ (.cells #[.int .i64 (hiW p), .int .u64 (loW p)] 24))
    have HB3 := below_thru ((HB.setCell (p := ⟨w.heap.size, 0, none⟩) (Nat.le_refl _) (.int .i64 (hiW p))).setCell (p := ⟨w.heap.size, 1, none⟩) (Nat.le_refl _) (.int .u64 (loW p))) (below_box _ (.cells #[.int .i64 (hiW p), .int .u64 (loW p)] 24))
    exact bodyPost_ret (v := .agg #[.int .i64 (hiW p), .int .u64 (loW p)]) (by simp [results, Try.results26, go_sem, P2.c0, P2.c1]) rfl ⟨rfl, HB3⟩
  · rw [if_neg h] at hw
    have M := fun W => wideScaled a b (by omega) (by unfold In64 at ha; omega) hb W
    generalize a * b = p at *
    clear hp
    go_enter Try.func26, Try.ntmps26
    go_wp2_with fail
    have P0 := Pair.new w (.int .i64 0) (.int .u64 0) 24
    have HB := below_box w (.cells #[.int .i64 0, .int .u64 0] 24)
    generalize w.alloc (.cells #[.int .i64 0, .int .u64 0] 24) = w0 at *
    refine (M _).mono ?_
    rintro e w1 ⟨rfl, k⟩
    replace HB := below_thru HB k
    replace P0 := P0.below k
    clear k
    obtain ⟨hlt, d0, d1, f0, f1⟩ := id P0
    go_wp2
    have P2 := (P0.self2 (.int .i64 (hiW p)) (.int .u64 (loW p))).below (below_box _ (.cells #[.int .i64 (hiW p), .int .u64 (loW p)] 24))
    have HB3 := below_thru ((HB.setCell (p := ⟨w.heap.size, 0, none⟩) (Nat.le_refl _) (.int .i64 (hiW p))).setCell (p := ⟨w.heap.size, 1, none⟩) (Nat.le_refl _) (.int .u64 (loW p))) (below_box _ (.cells #[.int .i64 (hiW p), .int .u64 (loW p)] 24))
    exact bodyPost_ret (v := .agg #[.int .i64 (hiW p), .int .u64 (loW p)]) (by simp [results, Try.results26, go_sem, P2.c0, P2.c1]) rfl ⟨rfl, HB3⟩

/-- how a product's halves come of the halves' products -/
theorem times_halves (z n : Int) : hiW (z * n) = hiW z * n + hiW (loW z * n) ∧ loW (z * n) = loW (loW z * n) := by
  have e : z * n = hiW z * n * 18446744073709551616 + loW z * n := by
    have h : z = hiW z * 18446744073709551616 + loW z := by unfold hiW loW; omega
    have h2 : (hiW z * 18446744073709551616 + loW z) * n = hiW z * n * 18446744073709551616 + loW z * n := by
      rw [Int.add_mul, Int.mul_right_comm]
    rw [← h] at h2
    exact h2
  rw [e]
  generalize hiW z * n = x
  generalize loW z * n = y
  unfold hiW loW
  omega
theorem inW_hi (x : Int) : InW x ↔ In64 (hiW x) := by unfold InW two127 In64 hiW; omega

/-- What Times keeps: its number, its answer's block, the lower product's block, and what was there before. -/
structure TimK (w : World) (z y : Int) (b : Nat) (W : World) : Prop where
  z : Pair W w.heap.size (.int .i64 (hiW z)) (.int .u64 (loW z))
  p : Pair W (w.heap.size + 1) (.int .i64 0) (.int .u64 0)
  l : Pair W b (.int .i64 (hiW y)) (.int .u64 (loW y))
  b : Below w.heap.size w W
theorem TimK.kept (w : World) (z p : Int) (b : Nat) (hb : w.heap.size + 1 < b) : KeptW b (TimK w z p b) :=
  ⟨fun _ _ h k => ⟨h.z.below k, h.p.below k, h.l.below k, below_thru h.b k⟩,
   fun W c u v u' v' h _ hlt => ⟨h.z.far2 (by omega) _ _, h.p.far2 (by omega) _ _, h.l.far2 (by omega) _ _, (h.b.setCell (p := ⟨c, 0, none⟩) (by show _ ≤ c; omega) _).setCell (p := ⟨c, 1, none⟩) (by show _ ≤ c; omega) _⟩⟩

set_option maxRecDepth 100000 in
set_option maxHeartbeats 2000000 in
theorem wideTimes (z n : Int) (hz : InW z) (hn : In64 n) (w : World) :
    Calls Try.prog 30 #[.agg #[.int .i64 (hiW z), .int .u64 (loW z)], .int .i64 n] w (RetWE w (z * n)) := by
  obtain ⟨i1, i2, i3, i4⟩ := halves hz
  clear i4
  obtain ⟨t1, t2⟩ := times_halves z n
  have T1' := t1
  have T2 := Lib.hid t2
  clear t1 t2
  have S := fun W => wideScaled (loW z) n i2 i3 hn W
  have M := fun W => wideMul (hiW z) n i1 hn W
  obtain ⟨p1, p2⟩ := prod_bounds i2 i3 hn
  have hp : InW (loW z * n) := by unfold InW two127; omega
  have hq := prod64_wide i1 hn
  generalize loW z * n = p at *
  have hqq : ∃ q : Int, q = hiW z * n := ⟨_, rfl⟩
  obtain ⟨q, hqq⟩ := hqq
  rw [← hqq] at T1' M hq
  have T1 := Lib.hid T1'
  clear T1'
  replace hqq := Lib.hid hqq
  obtain ⟨j1, j2, j3, j4⟩ := halves hp
  clear j4 p1 p2
  have O := fun W => wideOf (hiW p) j1 W
  have A := fun W => wideAdd q (hiW p) hq (inW_of_64 j1) W
  have hw : InW (q + hiW p) := by
    have k : q.natAbs ≤ 9223372036854775808 * 9223372036854775808 := by
      rw [hqq.out, Int.natAbs_mul]
      unfold In64 at i1 hn
      exact Nat.mul_le_mul (by omega) (by omega)
    unfold In64 at j1
    unfold InW two127
    omega
  have AV := Lib.hid (show hv (q + hiW p) = hiW (q + hiW p) ∧ lv (q + hiW p) = loW (q + hiW p) by unfold hv lv; rw [if_pos hw, if_pos hw]; exact ⟨rfl, rfl⟩)
  have I := fun W => wideInt (q + hiW p) W
  generalize hh : q + hiW p = h at *
  have hV : InW (z * n) ↔ In64 h := by rw [inW_hi, T1.out]
  clear hh hw hp hq hqq
  by_cases h64 : In64 h
  · have IV := Lib.hid (show iv h = h ∧ decide (In64 h) = true from ⟨by unfold iv; rw [if_pos h64], decide_eq_true h64⟩)
    have HV := Lib.hid (show hv (z * n) = h ∧ lv (z * n) = loW p ∧ ev (z * n) = 0 by unfold hv lv ev; rw [if_pos (hV.2 h64), if_pos (hV.2 h64), if_pos (hV.2 h64), T1.out, T2.out]; exact ⟨rfl, rfl, rfl⟩)
    clear hV h64 T1 T2
    go_enter Try.func30, Try.ntmps30
    go_wp2_with fail
    have Z := (Pair.new w (.int .i64 (hiW z)) (.int .u64 (loW z)) 24).below (below_box _ (.cells #[.int .i64 0, .int .u64 0] 24))
    have P := Pair.new (w.alloc (.cells #[.int .i64 (hiW z), .int .u64 (loW z)] 24)) (.int .i64 0) (.int .u64 0) 24
    simp only [World.size_alloc] at P
    have HB := below_thru (below_box w (.cells #[.int .i64 (hiW z), .int .u64 (loW z)] 24)) (below_box _ (.cells #[.int .i64 0, .int .u64 0] 24))
    generalize (w.alloc (.cells #[.int .i64 (hiW z), .int .u64 (loW z)] 24)).alloc (.cells #[.int .i64 0, .int .u64 0] 24) = w0 at *
    refine (S _).mono ?_
    rintro e w1 ⟨rfl, k⟩
    replace Z := Z.below k
    replace P := P.below k
    replace HB := below_thru HB k
    clear k S
    obtain ⟨_, z0, z1, _, _⟩ := id Z
    have hlt := P.lt
    go_wp2_with fail
    have k := below_box w1 (.cells #[.int .i64 (hiW p), .int .u64 (loW p)] 24)
    have L := Pair.new w1 (.int .i64 (hiW p)) (.int .u64 (loW p)) 24
    clear z0 z1
    replace Z := Z.below k
    replace P := P.below k
    replace HB := below_thru HB k
    clear k
    generalize w1.alloc (.cells #[.int .i64 (hiW p), .int .u64 (loW p)] 24) = w2 at *
    generalize w1.heap.size = b at *
    have st : PreW b (TimK w z p b) w2 [] := ⟨TimK.kept w z p b (by omega), ⟨Z, P, L, HB⟩, L.lt, (fun b h => by cases h), (fun b h => by cases h)⟩
    clear Z P L HB
    go_cut [7] (fun v7 wx => DonCut b (TimK w z p b) (.int .i64 (hiW h)) (.int .u64 (loW h)) v7 wx)
    case first =>
      have K := st.k
      obtain ⟨_, z0, z1, _, _⟩ := id K.z
      obtain ⟨_, l0, l1, _, _⟩ := id K.l
      clear K
      go_region_held3 (fun w' => w'.cell? ⟨w.heap.size, 0, none⟩ = some (.int .i64 (hiW z)) ∧ w'.cell? ⟨w.heap.size, 1, none⟩ = some (.int .u64 (loW z)) ∧ w'.cell? ⟨b, 0, none⟩ = some (.int .i64 (hiW p)) ∧ w'.cell? ⟨b, 1, none⟩ = some (.int .u64 (loW p))) (first | (with_reducible exact ⟨st.k.z.c0, st.k.z.c1, st.k.l.c0, st.k.l.c1⟩) | (with_reducible exact ⟨st.alloc1.k.z.c0, st.alloc1.k.z.c1, st.alloc1.k.l.c0, st.alloc1.k.l.c1⟩) | (with_reducible exact ⟨st.drew.k.z.c0, st.drew.k.z.c1, st.drew.k.l.c0, st.drew.k.l.c1⟩) | (with_reducible exact ⟨st.alloc1.drew.k.z.c0, st.alloc1.drew.k.z.c1, st.alloc1.drew.k.l.c0, st.alloc1.drew.k.l.c1⟩) | (with_reducible exact ⟨(st.fin2 _ _).k.z.c0, (st.fin2 _ _).k.z.c1, (st.fin2 _ _).k.l.c0, (st.fin2 _ _).k.l.c1⟩) | (with_reducible exact ⟨(st.fin1 _ _).k.z.c0, (st.fin1 _ _).k.z.c1, (st.fin1 _ _).k.l.c0, (st.fin1 _ _).k.l.c1⟩) | go_keep)
        (first
          | (go_at_call 26; refine (M _).mono ?_; rintro e w3 ⟨rfl, k⟩
             with_reducible (first | replace st := st.below k | replace st := st.alloc1.below k | replace st := st.drew.below k | replace st := st.alloc1.drew.below k)
             clear k
             try obtain ⟨_, x0, x1, x2, x3⟩ := st.al _ (List.mem_cons_self ..))
          | (go_at_call 11; refine (O _).mono ?_; rintro e w3 ⟨rfl, k⟩
             with_reducible (first | replace st := st.below k | replace st := st.alloc1.below k | replace st := st.drew.below k | replace st := st.alloc1.drew.below k)
             clear k
             try obtain ⟨_, x0, x1, x2, x3⟩ := st.al _ (List.mem_cons_self ..))
          | (go_at_call 19; refine (A _).mono ?_; rintro e w3 ⟨rfl, k⟩
             rw [AV.out.1, AV.out.2]
             with_reducible (first | replace st := st.below k | replace st := st.alloc1.below k | replace st := st.drew.below k | replace st := st.alloc1.drew.below k)
             clear k
             try obtain ⟨_, x0, x1, x2, x3⟩ := st.al _ (List.mem_cons_self ..)))
      all_goals
        go_wp2_with fail
        go_meet
        refine ⟨_, rfl, ?_⟩
        with_reducible first | exact st.fin1 _ _ | exact st.fin2 _ _
    case rest =>
    obtain ⟨g, rfl, hd⟩ := hcut
    clear st
    obtain ⟨_, g0, g1, _, _⟩ := id hd.bx
    go_wp2_with fail
    refine (I _).mono ?_
    rintro e w4 ⟨rfl, k⟩
    have KK := hd.keep.below _ _ hd.k k
    have P := KK.p
    have HB := KK.b
    clear k g0 g1 hd
    rw [IV.out.1, IV.out.2]
    obtain ⟨_, d0, d1, f0, f1⟩ := id P
    obtain ⟨_, l0, l1, _, _⟩ := id KK.l
    clear KK
    go_wp2
    have P2 := (P.self2 (.int .i64 (h)) (.int .u64 (loW p)))
    have HB3 := ((HB.setCell (p := ⟨w.heap.size + 1, 0, none⟩) (by show _ ≤ w.heap.size + 1; omega) (.int .i64 (h))).setCell (p := ⟨w.heap.size + 1, 1, none⟩) (by show _ ≤ w.heap.size + 1; omega) (.int .u64 (loW p)))
    exact bodyPost_ret (v := .tuple #[.agg #[.int .i64 (h), .int .u64 (loW p)], .int .i64 0]) (by simp [results, Try.results30, go_sem, P2.c0, P2.c1]) rfl ⟨by rw [HV.out.1, HV.out.2.1, HV.out.2.2], HB3⟩
  · have IV := Lib.hid (show iv h = 0 ∧ decide (In64 h) = false from ⟨by unfold iv; rw [if_neg h64], decide_eq_false h64⟩)
    have HV := Lib.hid (show hv (z * n) = 0 ∧ lv (z * n) = 0 ∧ ev (z * n) = 2 by unfold hv lv ev; rw [if_neg (fun k => h64 (hV.1 k)), if_neg (fun k => h64 (hV.1 k)), if_neg (fun k => h64 (hV.1 k))]; exact ⟨rfl, rfl, rfl⟩)
    clear hV h64 T1 T2
    go_enter Try.func30, Try.ntmps30
    go_wp2_with fail
    have Z := (Pair.new w (.int .i64 (hiW z)) (.int .u64 (loW z)) 24).below (below_box _ (.cells #[.int .i64 0, .int .u64 0] 24))
    have P := Pair.new (w.alloc (.cells #[.int .i64 (hiW z), .int .u64 (loW z)] 24)) (.int .i64 0) (.int .u64 0) 24
    simp only [World.size_alloc] at P
    have HB := below_thru (below_box w (.cells #[.int .i64 (hiW z), .int .u64 (loW z)] 24)) (below_box _ (.cells #[.int .i64 0, .int .u64 0] 24))
    generalize (w.alloc (.cells #[.int .i64 (hiW z), .int .u64 (loW z)] 24)).alloc (.cells #[.int .i64 0, .int .u64 0] 24) = w0 at *
    refine (S _).mono ?_
    rintro e w1 ⟨rfl, k⟩
    replace Z := Z.below k
    replace P := P.below k
    replace HB := below_thru HB k
    clear k S
    obtain ⟨_, z0, z1, _, _⟩ := id Z
    have hlt := P.lt
    go_wp2_with fail
    have k := below_box w1 (.cells #[.int .i64 (hiW p), .int .u64 (loW p)] 24)
    have L := Pair.new w1 (.int .i64 (hiW p)) (.int .u64 (loW p)) 24
    clear z0 z1
    replace Z := Z.below k
    replace P := P.below k
    replace HB := below_thru HB k
    clear k
    generalize w1.alloc (.cells #[.int .i64 (hiW p), .int .u64 (loW p)] 24) = w2 at *
    generalize w1.heap.size = b at *
    have st : PreW b (TimK w z p b) w2 [] := ⟨TimK.kept w z p b (by omega), ⟨Z, P, L, HB⟩, L.lt, (fun b h => by cases h), (fun b h => by cases h)⟩
    clear Z P L HB
    go_cut [7] (fun v7 wx => DonCut b (TimK w z p b) (.int .i64 (hiW h)) (.int .u64 (loW h)) v7 wx)
    case first =>
      have K := st.k
      obtain ⟨_, z0, z1, _, _⟩ := id K.z
      obtain ⟨_, l0, l1, _, _⟩ := id K.l
      clear K
      go_region_held3 (fun w' => w'.cell? ⟨w.heap.size, 0, none⟩ = some (.int .i64 (hiW z)) ∧ w'.cell? ⟨w.heap.size, 1, none⟩ = some (.int .u64 (loW z)) ∧ w'.cell? ⟨b, 0, none⟩ = some (.int .i64 (hiW p)) ∧ w'.cell? ⟨b, 1, none⟩ = some (.int .u64 (loW p))) (first | (with_reducible exact ⟨st.k.z.c0, st.k.z.c1, st.k.l.c0, st.k.l.c1⟩) | (with_reducible exact ⟨st.alloc1.k.z.c0, st.alloc1.k.z.c1, st.alloc1.k.l.c0, st.alloc1.k.l.c1⟩) | (with_reducible exact ⟨st.drew.k.z.c0, st.drew.k.z.c1, st.drew.k.l.c0, st.drew.k.l.c1⟩) | (with_reducible exact ⟨st.alloc1.drew.k.z.c0, st.alloc1.drew.k.z.c1, st.alloc1.drew.k.l.c0, st.alloc1.drew.k.l.c1⟩) | (with_reducible exact ⟨(st.fin2 _ _).k.z.c0, (st.fin2 _ _).k.z.c1, (st.fin2 _ _).k.l.c0, (st.fin2 _ _).k.l.c1⟩) | (with_reducible exact ⟨(st.fin1 _ _).k.z.c0, (st.fin1 _ _).k.z.c1, (st.fin1 _ _).k.l.c0, (st.fin1 _ _).k.l.c1⟩) | go_keep)
        (first
          | (go_at_call 26; refine (M _).mono ?_; rintro e w3 ⟨rfl, k⟩
             with_reducible (first | replace st := st.below k | replace st := st.alloc1.below k | replace st := st.drew.below k | replace st := st.alloc1.drew.below k)
             clear k
             try obtain ⟨_, x0, x1, x2, x3⟩ := st.al _ (List.mem_cons_self ..))
          | (go_at_call 11; refine (O _).mono ?_; rintro e w3 ⟨rfl, k⟩
             with_reducible (first | replace st := st.below k | replace st := st.alloc1.below k | replace st := st.drew.below k | replace st := st.alloc1.drew.below k)
             clear k
             try obtain ⟨_, x0, x1, x2, x3⟩ := st.al _ (List.mem_cons_self ..))
          | (go_at_call 19; refine (A _).mono ?_; rintro e w3 ⟨rfl, k⟩
             rw [AV.out.1, AV.out.2]
             with_reducible (first | replace st := st.below k | replace st := st.alloc1.below k | replace st := st.drew.below k | replace st := st.alloc1.drew.below k)
             clear k
             try obtain ⟨_, x0, x1, x2, x3⟩ := st.al _ (List.mem_cons_self ..)))
      all_goals
        go_wp2_with fail
        go_meet
        refine ⟨_, rfl, ?_⟩
        with_reducible first | exact st.fin1 _ _ | exact st.fin2 _ _
    case rest =>
    obtain ⟨g, rfl, hd⟩ := hcut
    clear st
    obtain ⟨_, g0, g1, _, _⟩ := id hd.bx
    go_wp2_with fail
    refine (I _).mono ?_
    rintro e w4 ⟨rfl, k⟩
    have KK := hd.keep.below _ _ hd.k k
    have P := KK.p
    have HB := KK.b
    clear k g0 g1 hd
    rw [IV.out.1, IV.out.2]
    obtain ⟨_, d0, d1, f0, f1⟩ := id P
    obtain ⟨_, l0, l1, _, _⟩ := id KK.l
    clear KK
    go_wp2
    have P2 := (P.self2 (.int .i64 (0)) (.int .u64 (0)))
    have HB3 := ((HB.setCell (p := ⟨w.heap.size + 1, 0, none⟩) (by show _ ≤ w.heap.size + 1; omega) (.int .i64 (0))).setCell (p := ⟨w.heap.size + 1, 1, none⟩) (by show _ ≤ w.heap.size + 1; omega) (.int .u64 (0)))
    exact bodyPost_ret (v := .tuple #[.agg #[.int .i64 (0), .int .u64 (0)], .int .i64 2]) (by simp [results, Try.results30, go_sem, P2.c0, P2.c1]) rfl ⟨by rw [HV.out.1, HV.out.2.1, HV.out.2.2], HB3⟩
end Go.Proofs.Ytpjhenipeafbiaa
