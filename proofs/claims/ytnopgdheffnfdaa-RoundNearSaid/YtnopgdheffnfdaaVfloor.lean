/- Package divide's Floor, at any wide numbers: through Trunc. -/
import Derived.Test.YtnopgdheffnfdaaVtrunc
import Derived.Test.YtnopgdheffnfdaaVcommon
namespace Go.Proofs.Ytnopgdheffnfdaa
open Go.RowKit

/-- how the quotient that is rounded down comes of the one that is cut -/
theorem floor_same {a b : Int} (hb : b ≠ 0) (h : a.tmod b = 0 ∨ ord (a.tmod b) 0 = ord b 0) : a.fdiv b = a.tdiv b ∧ a.fmod b = a.tmod b := by
  have e := Int.tmod_add_mul_tdiv a b
  have l := tmod_lt a b hb
  generalize a.tmod b = U at *
  generalize a.tdiv b = T at *
  rcases Int.lt_trichotomy b 0 with k | k | k
  · refine (Int.fdiv_fmod_unique' k).2 ⟨e, by omega, ?_⟩
    rcases h with h | h
    · omega
    · rw [ord_lt k] at h
      have := (ord_iff U 0).1 (by omega)
      omega
  · exact absurd k hb
  · refine (Int.fdiv_fmod_unique k).2 ⟨e, ?_, by omega⟩
    rcases h with h | h
    · omega
    · rw [ord_gt k] at h
      rcases Int.lt_trichotomy U 0 with u | u | u
      · rw [ord_lt u] at h; omega
      · omega
      · omega
theorem floor_down {a b : Int} (hb : b ≠ 0) (h0 : a.tmod b ≠ 0) (h : ord (a.tmod b) 0 ≠ ord b 0) : a.fdiv b = a.tdiv b - 1 ∧ a.fmod b = a.tmod b + b := by
  have e := Int.tmod_add_mul_tdiv a b
  have l := tmod_lt a b hb
  generalize a.tmod b = U at *
  generalize a.tdiv b = T at *
  rcases Int.lt_trichotomy b 0 with k | k | k
  · rw [ord_lt k] at h
    have hu : 0 < U := by
      rcases Int.lt_trichotomy U 0 with u | u | u
      · exact absurd (ord_lt u) h
      · exact absurd u h0
      · exact u
    exact (Int.fdiv_fmod_unique' k).2 ⟨by rw [Int.mul_sub]; omega, by omega, by omega⟩
  · exact absurd k hb
  · rw [ord_gt k] at h
    have hu : U < 0 := by
      rcases Int.lt_trichotomy U 0 with u | u | u
      · exact u
      · exact absurd u h0
      · exact absurd (ord_gt u) h
    exact (Int.fdiv_fmod_unique k).2 ⟨by rw [Int.mul_sub]; omega, by omega, by omega⟩

/-- What a call that answers two wide numbers and an error's number leaves, by their halves. -/
def RetHalves (w : World) (x y u v e : Int) (o : Ending) (w' : World) : Prop := o = .returned (.tuple #[.agg #[.int .i64 x, .int .u64 y], .agg #[.int .i64 u, .int .u64 v], .int .i64 e]) ∧ Below w.heap.size w w'

set_option maxRecDepth 100000 in
set_option maxHeartbeats 8000000 in
theorem floorW_none (a b x y e : Int) (TR : Hid (∀ W, Calls Try.prog 45 #[.agg #[.int .i64 (hiW a), .int .u64 (loW a)], .agg #[.int .i64 (hiW b), .int .u64 (loW b)]] W (RetHalves W x y 0 0 e))) (w : World) :
    Calls Try.prog 27 #[.agg #[.int .i64 (hiW a), .int .u64 (loW a)], .agg #[.int .i64 (hiW b), .int .u64 (loW b)]] w (RetHalves w x y 0 0 e) := by
  have SU := Lib.hid (fun W => wideSign 0 W)
  rw [show hiW 0 = 0 from rfl, show loW 0 = 0 from rfl, show ord 0 0 = 0 from rfl] at SU
  go_enter Try.func27, Try.ntmps27
  go_wp2_with fail
  have KK := (((((PairsK.nil w).more (.int .i64 (hiW a)) (.int .u64 (loW a)) 24).more (.int .i64 (hiW b)) (.int .u64 (loW b)) 24).more (.int .i64 0) (.int .u64 0) 24).more (.int .i64 0) (.int .u64 0) 24)
  simp only [World.size_alloc] at KK
  generalize ((((w.alloc (.cells #[.int .i64 (hiW a), .int .u64 (loW a)] 24)).alloc (.cells #[.int .i64 (hiW b), .int .u64 (loW b)] 24)).alloc (.cells #[.int .i64 0, .int .u64 0] 24)).alloc (.cells #[.int .i64 0, .int .u64 0] 24)) = w0 at *
  refine (TR.out _).mono ?_
  rintro o w1 ⟨rfl, k⟩
  replace KK := KK.below k
  clear k
  go_wp2_with fail
  have hl := KK.head.lt
  have hlg : w.heap.size ≤ w1.heap.size := by omega
  replace KK := (KK.more (.int .i64 x) (.int .u64 y) 24).more (.int .i64 0) (.int .u64 0) 24
  rw [World.size_alloc] at KK
  generalize (w1.alloc (.cells #[.int .i64 x, .int .u64 y] 24)).alloc (.cells #[.int .i64 0, .int .u64 0] 24) = w2 at *
  have n0 : w1.heap.size ≠ w.heap.size ∧ w1.heap.size + 1 ≠ w.heap.size := by omega
  have n1 : w1.heap.size ≠ w.heap.size + 1 ∧ w1.heap.size + 1 ≠ w.heap.size + 1 := by omega
  have n2 : w1.heap.size ≠ w.heap.size + 1 + 1 ∧ w1.heap.size + 1 ≠ w.heap.size + 1 + 1 := by omega
  have n3 : w1.heap.size ≠ w.heap.size + 1 + 1 + 1 ∧ w1.heap.size + 1 ≠ w.heap.size + 1 + 1 + 1 := by omega
  generalize w1.heap.size = g at *
  clear hl
  obtain ⟨na0, nb0⟩ := n0
  have nc0 := Ne.symm na0
  have nd0 := Ne.symm nb0
  obtain ⟨na1, nb1⟩ := n1
  have nc1 := Ne.symm na1
  have nd1 := Ne.symm nb1
  obtain ⟨na2, nb2⟩ := n2
  have nc2 := Ne.symm na2
  have nd2 := Ne.symm nb2
  obtain ⟨na3, nb3⟩ := n3
  have nc3 := Ne.symm na3
  have nd3 := Ne.symm nb3
  refine (SU.out _).mono ?_
  rintro o w3 ⟨rfl, k⟩
  replace KK := KK.below k
  clear k
  go_wp2_with fail
  obtain ⟨_, pa, pb, pc, pd⟩ := KK.head
  obtain ⟨_, qa, qb, qc, qd⟩ := KK.tail.head
  obtain ⟨_, sa, sb, sc, sd⟩ := KK.tail.tail.head
  obtain ⟨_, za, zb, zc, zd⟩ := KK.tail.tail.tail.head
  have i5 : w.heap.size + 1 + 1 ≠ w.heap.size + 1 + 1 + 1 := by omega
  have P2 := ((KK.tail.tail.tail.head.self2 (.int .i64 x) (.int .u64 y)).far2 (Ne.symm i5) (.int .i64 0) (.int .u64 0))
  have P3 := ((KK.tail.tail.head.far2 i5 (.int .i64 x) (.int .u64 y)).self2 (.int .i64 0) (.int .u64 0))
  have HB := ((((KK.hb.setCell (p := ⟨w.heap.size + 1 + 1, 0, none⟩) (by show _ ≤ w.heap.size + 1 + 1; omega) (.int .i64 x)).setCell (p := ⟨w.heap.size + 1 + 1, 1, none⟩) (by show _ ≤ w.heap.size + 1 + 1; omega) (.int .u64 y)).setCell (p := ⟨w.heap.size + 1 + 1 + 1, 0, none⟩) (by show _ ≤ w.heap.size + 1 + 1 + 1; omega) (.int .i64 0)).setCell (p := ⟨w.heap.size + 1 + 1 + 1, 1, none⟩) (by show _ ≤ w.heap.size + 1 + 1 + 1; omega) (.int .u64 0))
  replace P2 := P2.drew
  replace P3 := P3.drew
  replace HB := HB.drew
  go_region
  all_goals
    go_wp2
    exact bodyPost_ret (v := .tuple #[.agg #[.int .i64 x, .int .u64 y], .agg #[.int .i64 0, .int .u64 0], .int .i64 e]) (by simp [results, Try.results27, go_sem, P2.c0, P2.c1, P3.c0, P3.c1]) rfl (⟨rfl, HB⟩)

set_option maxRecDepth 100000 in
set_option maxHeartbeats 8000000 in
theorem floorW_same (a b x y e U : Int) (TR : Hid (∀ W, Calls Try.prog 45 #[.agg #[.int .i64 (hiW a), .int .u64 (loW a)], .agg #[.int .i64 (hiW b), .int .u64 (loW b)]] W (RetHalves W x y (hiW U) (loW U) e))) (s : Int) (hs : (s == 0) = false) (SU : Hid (∀ W, Calls Try.prog 26 #[.agg #[.int .i64 (hiW U), .int .u64 (loW U)]] W (RetV W (.int .i64 s)))) (SB : Hid (∀ W, Calls Try.prog 26 #[.agg #[.int .i64 (hiW b), .int .u64 (loW b)]] W (RetV W (.int .i64 s)))) (w : World) :
    Calls Try.prog 27 #[.agg #[.int .i64 (hiW a), .int .u64 (loW a)], .agg #[.int .i64 (hiW b), .int .u64 (loW b)]] w (RetHalves w x y (hiW U) (loW U) e) := by
  go_enter Try.func27, Try.ntmps27
  go_wp2_with fail
  have KK := (((((PairsK.nil w).more (.int .i64 (hiW a)) (.int .u64 (loW a)) 24).more (.int .i64 (hiW b)) (.int .u64 (loW b)) 24).more (.int .i64 0) (.int .u64 0) 24).more (.int .i64 0) (.int .u64 0) 24)
  simp only [World.size_alloc] at KK
  generalize ((((w.alloc (.cells #[.int .i64 (hiW a), .int .u64 (loW a)] 24)).alloc (.cells #[.int .i64 (hiW b), .int .u64 (loW b)] 24)).alloc (.cells #[.int .i64 0, .int .u64 0] 24)).alloc (.cells #[.int .i64 0, .int .u64 0] 24)) = w0 at *
  refine (TR.out _).mono ?_
  rintro o w1 ⟨rfl, k⟩
  replace KK := KK.below k
  clear k
  go_wp2_with fail
  have hl := KK.head.lt
  have hlg : w.heap.size ≤ w1.heap.size := by omega
  replace KK := (KK.more (.int .i64 x) (.int .u64 y) 24).more (.int .i64 (hiW U)) (.int .u64 (loW U)) 24
  rw [World.size_alloc] at KK
  generalize (w1.alloc (.cells #[.int .i64 x, .int .u64 y] 24)).alloc (.cells #[.int .i64 (hiW U), .int .u64 (loW U)] 24) = w2 at *
  have n0 : w1.heap.size ≠ w.heap.size ∧ w1.heap.size + 1 ≠ w.heap.size := by omega
  have n1 : w1.heap.size ≠ w.heap.size + 1 ∧ w1.heap.size + 1 ≠ w.heap.size + 1 := by omega
  have n2 : w1.heap.size ≠ w.heap.size + 1 + 1 ∧ w1.heap.size + 1 ≠ w.heap.size + 1 + 1 := by omega
  have n3 : w1.heap.size ≠ w.heap.size + 1 + 1 + 1 ∧ w1.heap.size + 1 ≠ w.heap.size + 1 + 1 + 1 := by omega
  generalize w1.heap.size = g at *
  clear hl
  obtain ⟨na0, nb0⟩ := n0
  have nc0 := Ne.symm na0
  have nd0 := Ne.symm nb0
  obtain ⟨na1, nb1⟩ := n1
  have nc1 := Ne.symm na1
  have nd1 := Ne.symm nb1
  obtain ⟨na2, nb2⟩ := n2
  have nc2 := Ne.symm na2
  have nd2 := Ne.symm nb2
  obtain ⟨na3, nb3⟩ := n3
  have nc3 := Ne.symm na3
  have nd3 := Ne.symm nb3
  refine (SU.out _).mono ?_
  rintro o w3 ⟨rfl, k⟩
  replace KK := KK.below k
  clear k
  obtain ⟨_, b0, b1, _, _⟩ := KK.tail.tail.tail.tail.head
  go_wp2_with fail
  refine (SB.out _).mono ?_
  rintro o w4 ⟨rfl, k⟩
  replace KK := KK.below k
  clear k b0 b1
  go_wp2_with fail
  obtain ⟨_, pa, pb, pc, pd⟩ := KK.head
  obtain ⟨_, qa, qb, qc, qd⟩ := KK.tail.head
  obtain ⟨_, sa, sb, sc, sd⟩ := KK.tail.tail.head
  obtain ⟨_, za, zb, zc, zd⟩ := KK.tail.tail.tail.head
  have i5 : w.heap.size + 1 + 1 ≠ w.heap.size + 1 + 1 + 1 := by omega
  have P2 := ((KK.tail.tail.tail.head.self2 (.int .i64 x) (.int .u64 y)).far2 (Ne.symm i5) (.int .i64 (hiW U)) (.int .u64 (loW U)))
  have P3 := ((KK.tail.tail.head.far2 i5 (.int .i64 x) (.int .u64 y)).self2 (.int .i64 (hiW U)) (.int .u64 (loW U)))
  have HB := ((((KK.hb.setCell (p := ⟨w.heap.size + 1 + 1, 0, none⟩) (by show _ ≤ w.heap.size + 1 + 1; omega) (.int .i64 x)).setCell (p := ⟨w.heap.size + 1 + 1, 1, none⟩) (by show _ ≤ w.heap.size + 1 + 1; omega) (.int .u64 y)).setCell (p := ⟨w.heap.size + 1 + 1 + 1, 0, none⟩) (by show _ ≤ w.heap.size + 1 + 1 + 1; omega) (.int .i64 (hiW U))).setCell (p := ⟨w.heap.size + 1 + 1 + 1, 1, none⟩) (by show _ ≤ w.heap.size + 1 + 1 + 1; omega) (.int .u64 (loW U)))
  replace P2 := P2.drew
  replace P3 := P3.drew
  replace HB := HB.drew
  go_region
  all_goals
    go_wp2
    exact bodyPost_ret (v := .tuple #[.agg #[.int .i64 x, .int .u64 y], .agg #[.int .i64 (hiW U), .int .u64 (loW U)], .int .i64 e]) (by simp [results, Try.results27, go_sem, P2.c0, P2.c1, P3.c0, P3.c1]) rfl (⟨rfl, HB⟩)

set_option maxRecDepth 100000 in
set_option maxHeartbeats 8000000 in
theorem floorW_down (a b Tq U : Int) (TR : Hid (∀ W, Calls Try.prog 45 #[.agg #[.int .i64 (hiW a), .int .u64 (loW a)], .agg #[.int .i64 (hiW b), .int .u64 (loW b)]] W (RetHalves W (hiW Tq) (loW Tq) (hiW U) (loW U) 0))) (s t : Int) (hs : (s == 0) = false) (ht : (s == t) = false) (SU : Hid (∀ W, Calls Try.prog 26 #[.agg #[.int .i64 (hiW U), .int .u64 (loW U)]] W (RetV W (.int .i64 s)))) (SB : Hid (∀ W, Calls Try.prog 26 #[.agg #[.int .i64 (hiW b), .int .u64 (loW b)]] W (RetV W (.int .i64 t)))) (iT : InW Tq) (iD : InW (Tq - 1)) (iU : InW U) (ib : InW b) (iS : InW (U + b)) (w : World) :
    Calls Try.prog 27 #[.agg #[.int .i64 (hiW a), .int .u64 (loW a)], .agg #[.int .i64 (hiW b), .int .u64 (loW b)]] w (RetHalves w (hiW (Tq - 1)) (loW (Tq - 1)) (hiW (U + b)) (loW (U + b)) 0) := by
  have ON := Lib.hid (fun W => wideOf 1 (by decide) W)
  have SD := Lib.hid (fun W => wideSub Tq 1 iT (inW_of_64 (by decide)) W)
  have AD := Lib.hid (fun W => wideAdd U b iU ib W)
  have TD := Lib.hid (told_in iD)
  have TS := Lib.hid (told_in iS)
  generalize Tq - 1 = D at *
  generalize U + b = E at *
  clear iT iD iU ib iS
  go_enter Try.func27, Try.ntmps27
  go_wp2_with fail
  have KK := (((((PairsK.nil w).more (.int .i64 (hiW a)) (.int .u64 (loW a)) 24).more (.int .i64 (hiW b)) (.int .u64 (loW b)) 24).more (.int .i64 0) (.int .u64 0) 24).more (.int .i64 0) (.int .u64 0) 24)
  simp only [World.size_alloc] at KK
  generalize ((((w.alloc (.cells #[.int .i64 (hiW a), .int .u64 (loW a)] 24)).alloc (.cells #[.int .i64 (hiW b), .int .u64 (loW b)] 24)).alloc (.cells #[.int .i64 0, .int .u64 0] 24)).alloc (.cells #[.int .i64 0, .int .u64 0] 24)) = w0 at *
  refine (TR.out _).mono ?_
  rintro o w1 ⟨rfl, k⟩
  replace KK := KK.below k
  clear k
  go_wp2_with fail
  have hl := KK.head.lt
  have hlg : w.heap.size ≤ w1.heap.size := by omega
  replace KK := (KK.more (.int .i64 (hiW Tq)) (.int .u64 (loW Tq)) 24).more (.int .i64 (hiW U)) (.int .u64 (loW U)) 24
  rw [World.size_alloc] at KK
  generalize (w1.alloc (.cells #[.int .i64 (hiW Tq), .int .u64 (loW Tq)] 24)).alloc (.cells #[.int .i64 (hiW U), .int .u64 (loW U)] 24) = w2 at *
  have n0 : w1.heap.size ≠ w.heap.size ∧ w1.heap.size + 1 ≠ w.heap.size := by omega
  have n1 : w1.heap.size ≠ w.heap.size + 1 ∧ w1.heap.size + 1 ≠ w.heap.size + 1 := by omega
  have n2 : w1.heap.size ≠ w.heap.size + 1 + 1 ∧ w1.heap.size + 1 ≠ w.heap.size + 1 + 1 := by omega
  have n3 : w1.heap.size ≠ w.heap.size + 1 + 1 + 1 ∧ w1.heap.size + 1 ≠ w.heap.size + 1 + 1 + 1 := by omega
  generalize w1.heap.size = g at *
  clear hl
  obtain ⟨na0, nb0⟩ := n0
  have nc0 := Ne.symm na0
  have nd0 := Ne.symm nb0
  obtain ⟨na1, nb1⟩ := n1
  have nc1 := Ne.symm na1
  have nd1 := Ne.symm nb1
  obtain ⟨na2, nb2⟩ := n2
  have nc2 := Ne.symm na2
  have nd2 := Ne.symm nb2
  obtain ⟨na3, nb3⟩ := n3
  have nc3 := Ne.symm na3
  have nd3 := Ne.symm nb3
  refine (SU.out _).mono ?_
  rintro o w3 ⟨rfl, k⟩
  replace KK := KK.below k
  clear k
  obtain ⟨_, b0, b1, _, _⟩ := KK.tail.tail.tail.tail.head
  go_wp2_with fail
  refine (SB.out _).mono ?_
  rintro o w4 ⟨rfl, k⟩
  replace KK := KK.below k
  clear k b0 b1
  go_wp2_with fail
  obtain ⟨_, q0, q1, _, _⟩ := KK.tail.head
  go_cut [] (fun wx => PairsK w [(g, .int .i64 (hiW D), .int .u64 (loW D)), (g + 1, .int .i64 (hiW U), .int .u64 (loW U)), (w.heap.size + 1 + 1 + 1, .int .i64 0, .int .u64 0), (w.heap.size + 1 + 1, .int .i64 0, .int .u64 0), (w.heap.size + 1, .int .i64 (hiW b), .int .u64 (loW b)), (w.heap.size, .int .i64 (hiW a), .int .u64 (loW a))] wx)
  case first =>
    go_region_with (first
      | (go_at_call 14; (with_reducible refine (ON.out _).mono ?_); rintro o w5 ⟨rfl, k⟩
         have K5 := KK.drew.below k
         clear k
         obtain ⟨_, q2, q3, _, _⟩ := K5.tail.head)
      | (go_at_call 29; (with_reducible refine (SD.out _).mono ?_); rintro o w6 ⟨rfl, k⟩
         rw [TD.out.1, TD.out.2.1]
         have K6 := K5.below k
         clear k
         obtain ⟨_, q4, q5, q6, q7⟩ := K6.tail.head))
    all_goals
      go_wp2_with fail
      go_meet
      exact K6.swap.put (by have := K6.hb.size; omega) (by simp <;> omega) _ _
  case rest =>
  clear KK q0 q1
  have KK := hcut.swap
  clear hcut
  obtain ⟨_, u0, u1, u2, u3⟩ := KK.head
  obtain ⟨_, b0, b1, _, _⟩ := KK.tail.tail.tail.tail.head
  go_wp2_with fail
  refine (AD.out _).mono ?_
  rintro o w7 ⟨rfl, k⟩
  rw [TS.out.1, TS.out.2.1]
  replace KK := KK.below k
  clear k u0 u1 u2 u3 b0 b1
  obtain ⟨_, u0, u1, u2, u3⟩ := KK.head
  go_wp2_with fail
  replace KK := KK.put (by omega) (by simp <;> omega) (.int .i64 (hiW E)) (.int .u64 (loW E))
  clear u0 u1 u2 u3
  generalize (w7.setCell ⟨g + 1, 0, none⟩ (.int .i64 (hiW E))).setCell ⟨g + 1, 1, none⟩ (.int .u64 (loW E)) = w8 at *
  obtain ⟨_, pa, pb, pc, pd⟩ := KK.head
  obtain ⟨_, qa, qb, qc, qd⟩ := KK.tail.head
  obtain ⟨_, sa, sb, sc, sd⟩ := KK.tail.tail.head
  obtain ⟨_, za, zb, zc, zd⟩ := KK.tail.tail.tail.head
  have i5 : w.heap.size + 1 + 1 ≠ w.heap.size + 1 + 1 + 1 := by omega
  have P2 := ((KK.tail.tail.tail.head.self2 (.int .i64 (hiW D)) (.int .u64 (loW D))).far2 (Ne.symm i5) (.int .i64 (hiW E)) (.int .u64 (loW E)))
  have P3 := ((KK.tail.tail.head.far2 i5 (.int .i64 (hiW D)) (.int .u64 (loW D))).self2 (.int .i64 (hiW E)) (.int .u64 (loW E)))
  have HB := ((((KK.hb.setCell (p := ⟨w.heap.size + 1 + 1, 0, none⟩) (by show _ ≤ w.heap.size + 1 + 1; omega) (.int .i64 (hiW D))).setCell (p := ⟨w.heap.size + 1 + 1, 1, none⟩) (by show _ ≤ w.heap.size + 1 + 1; omega) (.int .u64 (loW D))).setCell (p := ⟨w.heap.size + 1 + 1 + 1, 0, none⟩) (by show _ ≤ w.heap.size + 1 + 1 + 1; omega) (.int .i64 (hiW E))).setCell (p := ⟨w.heap.size + 1 + 1 + 1, 1, none⟩) (by show _ ≤ w.heap.size + 1 + 1 + 1; omega) (.int .u64 (loW E)))
  replace P2 := P2.drew
  replace P3 := P3.drew
  replace HB := HB.drew
  go_region
  all_goals
    go_wp2
    exact bodyPost_ret (v := .tuple #[.agg #[.int .i64 (hiW D), .int .u64 (loW D)], .agg #[.int .i64 (hiW E), .int .u64 (loW E)], .int .i64 0]) (by simp [results, Try.results27, go_sem, P2.c0, P2.c1, P3.c0, P3.c1]) rfl (⟨rfl, HB⟩)

/-- a cut quotient that is no wide number leaves no rest -/
theorem tdiv_over {a b : Int} (ha : InW a) (hb0 : b ≠ 0) (h : ¬ InW (a.tdiv b)) : a.tmod b = 0 := by
  have e := Int.tmod_add_mul_tdiv a b
  have l := tmod_lt a b hb0
  have q := tdiv_le a b
  have aa := abs_w ha
  generalize a.tmod b = U at *
  have ht : a.tdiv b = 170141183460469231731687303715884105728 := by unfold InW two127 at h; omega
  rw [ht] at e
  omega
theorem tmod_in {a b : Int} (hb : InW b) (hb0 : b ≠ 0) : InW (a.tmod b) := by
  have l := tmod_lt a b hb0
  have ab := abs_w hb
  unfold InW two127; omega
theorem down_in {a b : Int} (ha : InW a) (hb : InW b) (hb0 : b ≠ 0) (iT : InW (a.tdiv b)) (h0 : a.tmod b ≠ 0) (h : ord (a.tmod b) 0 ≠ ord b 0) : InW (a.tdiv b - 1) ∧ InW (a.tmod b + b) := by
  have e := Int.tmod_add_mul_tdiv a b
  have l := tmod_lt a b hb0
  have aa := abs_w ha
  have ab := abs_w hb
  have iU := tmod_in (a := a) hb hb0
  generalize a.tmod b = U at *
  have hs : U < 0 ∧ 0 < b ∨ 0 < U ∧ b < 0 := by
    rcases Int.lt_trichotomy U 0 with u | u | u
    · rcases Int.lt_trichotomy b 0 with k | k | k
      · exact absurd ((ord_lt u).trans (ord_lt k).symm) h
      · exact absurd k hb0
      · exact .inl ⟨u, k⟩
    · exact absurd u h0
    · rcases Int.lt_trichotomy b 0 with k | k | k
      · exact .inr ⟨u, k⟩
      · exact absurd k hb0
      · exact absurd ((ord_gt u).trans (ord_gt k).symm) h
  refine ⟨?_, by unfold InW two127 at *; omega⟩
  by_cases ht : a.tdiv b = -170141183460469231731687303715884105728
  · rw [ht] at e; omega
  · unfold InW two127 at *; omega

theorem floorW_any (a b : Int) (ha : InW a) (hb : InW b) (hb0 : b ≠ 0) (w : World) :
    Calls Try.prog 27 #[.agg #[.int .i64 (hiW a), .int .u64 (loW a)], .agg #[.int .i64 (hiW b), .int .u64 (loW b)]] w (RetWWE w (a.fdiv b) (a.fmod b)) := by
  have TR := fun W => truncW_any a b ha hb hb0 W
  by_cases iT : InW (a.tdiv b)
  · have iU := tmod_in (a := a) hb hb0
    obtain ⟨t1, t2, t3⟩ := told_in iT
    obtain ⟨u1, u2, _⟩ := told_in iU
    have TH : ∀ W, Calls Try.prog 45 #[.agg #[.int .i64 (hiW a), .int .u64 (loW a)], .agg #[.int .i64 (hiW b), .int .u64 (loW b)]] W (RetHalves W (hiW (a.tdiv b)) (loW (a.tdiv b)) (hiW (a.tmod b)) (loW (a.tmod b)) 0) := fun W => (TR W).mono fun e w' ⟨h1, h2⟩ => ⟨by rw [h1]; unfold hv2 lv2; rw [if_pos iT, if_pos iT, t1, t2, t3, u1, u2], h2⟩
    by_cases h : a.tmod b = 0 ∨ ord (a.tmod b) 0 = ord b 0
    · obtain ⟨f1, f2⟩ := floor_same hb0 h
      have fin : ∀ e w', RetHalves w (hiW (a.tdiv b)) (loW (a.tdiv b)) (hiW (a.tmod b)) (loW (a.tmod b)) 0 e w' → RetWWE w (a.fdiv b) (a.fmod b) e w' := fun e w' ⟨h1, h2⟩ => ⟨by rw [h1, f1, f2]; unfold hv2 lv2; rw [if_pos iT, if_pos iT, t1, t2, t3, u1, u2], h2⟩
      by_cases h0 : a.tmod b = 0
      · rw [h0] at TH fin
        exact (floorW_none a b _ _ 0 (Lib.hid TH) w).mono fin
      · have hs : ord (a.tmod b) 0 = ord b 0 := h.resolve_left h0
        refine (floorW_same a b _ _ 0 (a.tmod b) (Lib.hid TH) (ord b 0) ?_ (Lib.hid fun W => by rw [← hs]; exact wideSign _ W) (Lib.hid fun W => wideSign _ W) w).mono fin
        rw [beq_eq_false_iff_ne]
        rcases Int.lt_trichotomy b 0 with k | k | k
        · rw [ord_lt k]; decide
        · exact absurd k hb0
        · rw [ord_gt k]; decide
    · have h0 : a.tmod b ≠ 0 := fun e => h (.inl e)
      have hs : ord (a.tmod b) 0 ≠ ord b 0 := fun e => h (.inr e)
      obtain ⟨f1, f2⟩ := floor_down hb0 h0 hs
      obtain ⟨iD, iS⟩ := down_in ha hb hb0 iT h0 hs
      obtain ⟨d1, d2, d3⟩ := told_in iD
      obtain ⟨s1, s2, _⟩ := told_in iS
      refine (floorW_down a b _ (a.tmod b) (Lib.hid TH) (ord (a.tmod b) 0) (ord b 0) ?_ ?_ (Lib.hid fun W => wideSign _ W) (Lib.hid fun W => wideSign _ W) iT iD iU hb iS w).mono fun e w' ⟨h1, h2⟩ => ⟨by rw [h1, f1, f2]; unfold hv2 lv2; rw [if_pos iD, if_pos iD, d1, d2, d3, s1, s2], h2⟩
      · rw [beq_eq_false_iff_ne]
        rcases Int.lt_trichotomy (a.tmod b) 0 with k | k | k
        · rw [ord_lt k]; decide
        · exact absurd k h0
        · rw [ord_gt k]; decide
      · rw [beq_eq_false_iff_ne]; exact hs
  · have h0 := tdiv_over ha hb0 iT
    obtain ⟨f1, f2⟩ := floor_same hb0 (.inl h0)
    obtain ⟨t1, t2, t3⟩ := told_no iT
    have TH : ∀ W, Calls Try.prog 45 #[.agg #[.int .i64 (hiW a), .int .u64 (loW a)], .agg #[.int .i64 (hiW b), .int .u64 (loW b)]] W (RetHalves W 0 0 0 0 2) := fun W => (TR W).mono fun e w' ⟨h1, h2⟩ => ⟨by rw [h1]; unfold hv2 lv2; rw [if_neg iT, if_neg iT, t1, t2, t3], h2⟩
    exact (floorW_none a b 0 0 2 (Lib.hid TH) w).mono fun e w' ⟨h1, h2⟩ => ⟨by rw [h1, f1, f2]; unfold hv2 lv2; rw [if_neg iT, if_neg iT, t1, t2, t3], h2⟩
theorem floorW_zero (a : Int) (w : World) : Calls Try.prog 27 #[.agg #[.int .i64 (hiW a), .int .u64 (loW a)], .agg #[.int .i64 0, .int .u64 0]] w (RetRef w 3) := by
  have TH : ∀ W, Calls Try.prog 45 #[.agg #[.int .i64 (hiW a), .int .u64 (loW a)], .agg #[.int .i64 (hiW 0), .int .u64 (loW 0)]] W (RetHalves W 0 0 0 0 3) := fun W => (truncW_zero a W).mono fun e w' ⟨h1, h2⟩ => ⟨h1, h2⟩
  exact (floorW_none a 0 0 0 3 (Lib.hid TH) w).mono fun e w' ⟨h1, h2⟩ => ⟨h1, h2⟩
end Go.Proofs.Ytnopgdheffnfdaa
