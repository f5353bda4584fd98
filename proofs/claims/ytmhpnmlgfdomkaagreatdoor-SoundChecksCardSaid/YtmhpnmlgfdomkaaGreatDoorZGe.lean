import Derived.Test.YtmhpnmlgfdomkaaGreatDoorZGc
import Derived.StillTailTactics
set_option maxRecDepth 100000
set_option maxHeartbeats 64000000
namespace Go.Proofs.YtmhpnmlgfdomkaaGreatDoor
open Go.RowKit
def lenTab (k : Nat) : Int := if k = 1 then 28 else if k = 3 ∨ k = 5 ∨ k = 8 ∨ k = 10 then 30 else 31
structure Lens (w : World) : Prop where
  lt : 3 < w.heap.size
  c : ∀ k : Nat, k < 12 → w.cell? ⟨3, k, none⟩ = some (.int .i64 (lenTab k))
theorem Lens.mono {w W : World} (L : Lens w) (h : Below w.heap.size w W) : Lens W := by
  have _l := L
  have _b := h
  constructor <;> first | exact Nat.lt_of_lt_of_le L.lt h.size | exact fun k hk => (h.cell (p := ⟨_, k, none⟩) L.lt).trans (L.c k hk)
theorem Lens.drewN {w : World} (L : Lens w) (n : Nat) : Lens (w.drewN n) := L.mono (below_drewN (Below.refl _ _) n)
theorem tab_len (y : Int) {k : Nat} (hk : k < 12) (h : k ≠ 1) : lenTab k = lenM y ((k : Int) + 1) := by
  have : k = 0 ∨ k = 2 ∨ k = 3 ∨ k = 4 ∨ k = 5 ∨ k = 6 ∨ k = 7 ∨ k = 8 ∨ k = 9 ∨ k = 10 ∨ k = 11 := by omega
  rcases this with rfl | rfl | rfl | rfl | rfl | rfl | rfl | rfl | rfl | rfl | rfl <;> rfl
theorem leapP (y : Int) (w : World) :
    Calls Tryz.prog 165 #[.int .i64 y] w (fun e w' => e = .returned (.bool (decide (leap y))) ∧ w = w') := by
  have t4 := tmod_zero y 4
  have t1 := tmod_zero y 100
  have t0 := tmod_zero y 400
  by_cases h4 : y % 4 = 0
  · have a4 : (y.tmod 4 == 0) = true := by rw [beq_iff_eq]; exact t4.2 h4
    by_cases h1 : y % 100 = 0
    · have a1 : (y.tmod 100 != 0) = false := by rw [bne_eq_false_iff_eq]; exact t1.2 h1
      have e : (y.tmod 400 == 0) = decide (leap y) := by
        by_cases h : y % 400 = 0
        · rw [decide_eq_true (by unfold leap; omega), t0.2 h]; rfl
        · rw [decide_eq_false (by unfold leap; omega), beq_eq_false_iff_ne]; exact fun k => h (t0.1 k)
      rw [← e]
      clear t4 t1 t0 e h4 h1
      go_enter Tryz.func165, Tryz.ntmps165
      go_wp2
      go_ret
      exact ⟨rfl, rfl⟩
    · have a1 : (y.tmod 100 != 0) = true := by rw [bne_iff_ne]; exact fun k => h1 (t1.1 k)
      have e : decide (leap y) = true := decide_eq_true (by unfold leap; omega)
      rw [e]
      clear t4 t1 t0 e h4 h1
      go_enter Tryz.func165, Tryz.ntmps165
      go_wp2
      go_ret
      exact ⟨rfl, rfl⟩
  · have a4 : (y.tmod 4 == 0) = false := by rw [beq_eq_false_iff_ne]; exact fun k => h4 (t4.1 k)
    have e : decide (leap y) = false := decide_eq_false (by unfold leap; omega)
    rw [e]
    clear t4 t1 t0 e h4
    go_enter Tryz.func165, Tryz.ntmps165
    go_wp2
    go_ret
    exact ⟨rfl, rfl⟩
theorem mlenP_tab (y : Int) (k : Nat) (v : Int) (hk : k < 12) (b2 : (((k : Int) + 1) == 2) = false) (hc : Hid (∀ W : World, Lens W → W.cell? ⟨3, k, none⟩ = some (.int .i64 v))) (w : World) (L : Lens w) :
    Calls Tryz.prog 155 #[.int .i64 y, .int .i64 ((k : Int) + 1)] w (fun e w' => e = .returned (.int .i64 v) ∧ w = w') := by
  have c := hc.out w L
  go_enter Tryz.func155, Tryz.ntmps155
  go_wp2
  go_ret
  exact ⟨rfl, rfl⟩
theorem mlenP (y m : Int) (w : World) (L : Lens w) :
    Calls Tryz.prog 155 #[.int .i64 y, .int .i64 m] w (fun e w' => e = .returned (.int .i64 (lenM y m)) ∧ w = w') := by
  by_cases m1 : m < 1
  · rw [lenM_no (.inl m1)]
    go_enter Tryz.func155, Tryz.ntmps155
    go_wp2
    go_ret
    exact ⟨rfl, rfl⟩
  by_cases m2 : 12 < m
  · rw [lenM_no (.inr m2)]
    go_enter Tryz.func155, Tryz.ntmps155
    go_wp2
    go_ret
    exact ⟨rfl, rfl⟩
  by_cases h : m = 2
  · subst h
    have LP := Lib.hid (fun W => leapP y W)
    clear m1 m2
    by_cases h : leap y
    · rw [show lenM y 2 = 29 by unfold lenM; simp [h]]
      rw [decide_eq_true h] at LP
      clear h
      go_enter Tryz.func155, Tryz.ntmps155
      go_wp2_with (go_at_call 165; (with_reducible refine (LP.out _).mono ?_); rintro e w' ⟨rfl, rfl⟩)
      go_ret
      exact ⟨rfl, rfl⟩
    · rw [show lenM y 2 = 28 by unfold lenM; simp [h]]
      rw [decide_eq_false h] at LP
      have c := L.c 1 (by omega)
      rw [show lenTab 1 = 28 from rfl] at c
      clear h
      go_enter Tryz.func155, Tryz.ntmps155
      go_wp2_with (go_at_call 165; (with_reducible refine (LP.out _).mono ?_); rintro e w' ⟨rfl, rfl⟩)
      go_ret
      exact ⟨rfl, rfl⟩
  · obtain ⟨k, rfl⟩ : ∃ k : Nat, m = (k : Int) + 1 := ⟨(m - 1).toNat, by omega⟩
    have hk : k < 12 := by omega
    have e := tab_len y hk (by omega)
    exact mlenP_tab y k _ hk (by rw [beq_eq_false_iff_ne]; exact h) (Lib.hid fun W l => by rw [← e]; exact l.c k hk) w L
def hdB (y m d : Int) : Bool := decide (1 ≤ d ∧ d ≤ lenM y m)
theorem hdB_yes {y m d : Int} (h : dayOk y m d) : hdB y m d = true := decide_eq_true h.2.2
theorem hdB_no {y m d : Int} (h : ¬ dayOk y m d) : hdB y m d = false := decide_eq_false fun k => h ⟨by
  apply Classical.byContradiction; intro c; have := lenM_no (y := y) (m := m) (.inl (by omega)); omega, by
  apply Classical.byContradiction; intro c; have := lenM_no (y := y) (m := m) (.inr (by omega)); omega, k.1, k.2⟩
theorem hasP (y m d : Int) (w : World) (L : Lens w) :
    Calls Tryz.prog 161 #[.int .i64 y, .int .i64 m, .int .i64 d] w (fun e w' => e = .returned (.bool (hdB y m d)) ∧ w = w') := by
  have MR := Lib.hid (fun W l => mlenP y m W l)
  by_cases d1 : 1 ≤ d
  · have g1 : decide (1 ≤ d) = true := decide_eq_true d1
    have e : hdB y m d = decide (d ≤ lenM y m) := by
      by_cases h : d ≤ lenM y m
      · rw [decide_eq_true h]; exact decide_eq_true ⟨d1, h⟩
      · rw [decide_eq_false h]; exact decide_eq_false fun k => h k.2
    rw [e]
    clear e
    generalize lenM y m = l at *
    go_enter Tryz.func161, Tryz.ntmps161
    go_wp2_with (go_at_call 155; (with_reducible refine (MR.out _ L).mono ?_); rintro e w' ⟨rfl, rfl⟩)
    go_ret
    exact ⟨rfl, rfl⟩
  · have g1 : decide (1 ≤ d) = false := decide_eq_false d1
    have e : hdB y m d = false := decide_eq_false fun k => d1 k.1
    rw [e]
    clear e
    go_enter Tryz.func161, Tryz.ntmps161
    go_wp2_with (go_at_call 155; (with_reducible refine (MR.out _ L).mono ?_); rintro e w' ⟨rfl, rfl⟩)
    go_ret
    exact ⟨rfl, rfl⟩
theorem countP (n : Int) (w : World) :
    Calls Tryz.prog 164 #[.int .i64 n] w (fun e w' => e = .returned (.bool (nk n)) ∧ w = w') := by
  by_cases h1 : -100000001 ≤ n
  · have g1 : decide (-100000001 ≤ n) = true := decide_eq_true h1
    have e : nk n = decide (n ≤ 100000000) := by
      by_cases h : n ≤ 100000000
      · rw [decide_eq_true h]; exact decide_eq_true ⟨h1, h⟩
      · rw [decide_eq_false h]; exact decide_eq_false fun k => h k.2
    rw [e]
    clear e
    go_enter Tryz.func164, Tryz.ntmps164
    go_wp2
    go_ret
    exact ⟨rfl, rfl⟩
  · have g1 : decide (-100000001 ≤ n) = false := decide_eq_false h1
    have e : nk n = false := decide_eq_false fun k => h1 k.1
    rw [e]
    clear e
    go_enter Tryz.func164, Tryz.ntmps164
    go_wp2
    go_ret
    exact ⟨rfl, rfl⟩
theorem ystartP (y : Int) (h1 : -272000 ≤ y) (h2 : y ≤ 300000) (w : World) :
    Calls Tryz.prog 162 #[.int .i64 y] w (fun e w' => e = .returned (.int .i64 (jan y)) ∧ w = w') := by
  have b0 : 0 ≤ y + 272000 := by omega
  have E := Lib.hid (show -100065488 + 365 * (y + 272000) + ((y + 272000 + 3) / 4 - (y + 272000 + 99) / 100 + (y + 272000 + 399) / 400) = jan y by unfold jan; omega)
  go_enter Tryz.func162, Tryz.ntmps162
  go_wp2
  go_ret
  exact ⟨by rw [← E.out]; first | rfl | (congr 3; omega), rfl⟩
theorem mstartP (y m : Int) (h1 : 1 ≤ m) (h2 : m ≤ 13) (w : World) (L : Lens w) :
    Calls Tryz.prog 163 #[.int .i64 y, .int .i64 m] w (fun e w' => e = .returned (.int .i64 (cum y m)) ∧ w = w') := by
  have MR := Lib.hid (fun m W l => mlenP y m W l)
  have CO := Lib.hid (cum_one y)
  have CS := Lib.hid (fun k h1 h2 => cum_succ (y := y) (m := k) h1 h2)
  have CR := Lib.hid (fun k h1 h2 => cum_range (y := y) (m := k) h1 h2)
  have YR := lenY_range y
  go_enter Tryz.func163, Tryz.ntmps163
  go_wp2
  go_loop [5, 6] (fun v5 v6 => ∃ k : Int, 1 ≤ k ∧ k ≤ m ∧ v5 = .int .i64 (cum y k) ∧ v6 = .int .i64 k) (fun _ v6 => (m - intOf v6).toNat)
  case atStart => exact ⟨1, by omega, by omega, by rw [CO.out], rfl⟩
  case round =>
    obtain ⟨k, k1, k2, rfl, rfl⟩ := hrel
    have cr := CR.out k k1 (by omega)
    have lk := lenM_le y k
    by_cases hk : k < m
    · have S := Lib.hid (CS.out k k1 (by omega))
      have ML := Lib.hid (fun W l => MR.out k W l)
      generalize cum y k = ck at *
      generalize lenM y k = l0 at *
      go_wp2_with (go_at_call 155; (with_reducible refine (ML.out _ L).mono ?_); rintro e w' ⟨rfl, rfl⟩)
      go_round
      case rel => exact ⟨k + 1, by omega, by omega, by rw [S.out], rfl⟩
      case measure => simp [intOf]; omega
    · have e : k = m := by omega
      subst e
      clear CS CR CO MR
      go_wp2
      go_ret
      exact ⟨rfl, rfl⟩
theorem year_uniq {n a b : Int} (a1 : jan a ≤ n) (a2 : n < jan (a + 1)) (b1 : jan b ≤ n) (b2 : n < jan (b + 1)) : a = b := by
  rcases Int.lt_trichotomy a b with k | k | k
  · have := jan_le (show a + 1 ≤ b by omega); omega
  · exact k
  · have := jan_le (show b + 1 ≤ a by omega); omega
def guess (n : Int) : Int := -272000 + (n + 100065488) / 146097 * 400 + (n + 100065488) % 146097 / 366
theorem guess_near {n : Int} (_h : -100065488 ≤ n) : jan (guess n) ≤ n ∧ n < jan (guess n + 2) := by
  obtain ⟨c, hc⟩ : ∃ c : Int, c = (n + 100065488) / 146097 := ⟨_, rfl⟩
  obtain ⟨r, hr⟩ : ∃ r : Int, r = (n + 100065488) % 146097 := ⟨_, rfl⟩
  obtain ⟨q, hq⟩ : ∃ q : Int, q = r / 366 := ⟨_, rfl⟩
  have e : guess n = 400 * (c - 680) + q := by unfold guess; rw [← hr, ← hq, ← hc]; omega
  rw [e]
  have hn : n = 146097 * c + r - 100065488 := by omega
  have r1 : 0 ≤ r := by omega
  have r2 : r < 146097 := by omega
  clear hc hr e
  have j1 : jan (400 * (c - 680) + q) = 146097 * (c - 680) - 719528 + (365 * q + (q + 3) / 4 - (q + 99) / 100 + (q + 399) / 400) := by unfold jan; omega
  have j2 : jan (400 * (c - 680) + q + 2) = 146097 * (c - 680) - 719528 + (365 * (q + 2) + (q + 5) / 4 - (q + 101) / 100 + (q + 401) / 400) := by unfold jan; omega
  rw [j1, j2]
  clear j1 j2
  omega
theorem yofP (n y : Int) (n1 : -100000010 ≤ n) (n2 : n ≤ 100000010) (y1 : jan y ≤ n) (y2 : n < jan (y + 1)) (w : World) :
    Calls Tryz.prog 170 #[.int .i64 n] w (fun e w' => e = .returned (.int .i64 y) ∧ w = w') := by
  have gn := guess_near (n := n) (by omega)
  have gb : -272000 ≤ guess n ∧ guess n ≤ 290000 := by unfold guess; omega
  have YS := Lib.hid (fun W => ystartP (guess n + 1) (by omega) (by omega) W)
  have U := Lib.hid (fun (a : Int) (a1 : jan a ≤ n) (a2 : n < jan (a + 1)) => year_uniq a1 a2 y1 y2)
  have GE := Lib.hid (show -272000 + (n + 100065488) / 146097 * 400 + (n + 100065488) % 146097 / 366 = guess n from rfl)
  have b0 : 0 ≤ n + 100065488 := by omega
  have b1 : 0 ≤ (n + 100065488) / 146097 := by omega
  have b2 : (n + 100065488) / 146097 ≤ 2000 := by omega
  have b3 : 0 ≤ (n + 100065488) % 146097 := by omega
  have b4 : (n + 100065488) % 146097 < 146097 := by omega
  have b5 : 0 ≤ (n + 100065488) % 146097 / 366 := by omega
  have b6 : (n + 100065488) % 146097 / 366 ≤ 400 := by omega
  clear y1 y2
  by_cases h : jan (guess n + 1) ≤ n
  · have e := Lib.hid (U.out (guess n + 1) h (by rw [show guess n + 1 + 1 = guess n + 2 by omega]; exact gn.2))
    clear U gn
    generalize jan (guess n + 1) = j1 at *
    go_enter Tryz.func170, Tryz.ntmps170
    go_wp2_with (go_at_call 162; rw [GE.out]; (with_reducible refine (YS.out _).mono ?_); rintro e w' ⟨rfl, rfl⟩)
    go_ret
    exact ⟨by rw [← e.out, ← GE.out]; rfl, rfl⟩
  · have e := Lib.hid (U.out (guess n) gn.1 (by omega))
    clear U gn
    generalize jan (guess n + 1) = j1 at *
    go_enter Tryz.func170, Tryz.ntmps170
    go_wp2_with (go_at_call 162; rw [GE.out]; (with_reducible refine (YS.out _).mono ?_); rintro e w' ⟨rfl, rfl⟩)
    go_ret
    exact ⟨by rw [← e.out, ← GE.out]; rfl, rfl⟩
theorem daysP_no0 (y m d : Int) (y1 : y < -271821) (w : World) (L : Lens w) :
    Calls Tryz.prog 153 #[.agg #[.int .i64 y, .int .i64 m, .int .i64 d]] w (RetNumB w 0 false) := by
  have gy1 : decide (y < -271821) = true := decide_eq_true y1
  have KB := (BK.nil w).more3 (.int .i64 y) (.int .i64 m) (.int .i64 d) 144
  go_enter Tryz.func153, Tryz.ntmps153
  go_upto_region 1 with (fail)
  generalize w.alloc (.cells #[.int .i64 y, .int .i64 m, .int .i64 d] 144) = w0 at *
  have L0 := L.mono KB.hb
  obtain ⟨_, a0, a1, a2, _⟩ := KB.head.three
  go_wp2
  have HB := KB.hb
  go_ret2
  exact ⟨rfl, HB⟩
theorem daysP_no1 (y m d : Int) (y1 : ¬ y < -271821) (y2 : 275760 < y) (w : World) (L : Lens w) :
    Calls Tryz.prog 153 #[.agg #[.int .i64 y, .int .i64 m, .int .i64 d]] w (RetNumB w 0 false) := by
  have gy1 : decide (y < -271821) = false := decide_eq_false y1
  have gy2 : decide (275760 < y) = true := decide_eq_true y2
  have KB := (BK.nil w).more3 (.int .i64 y) (.int .i64 m) (.int .i64 d) 144
  go_enter Tryz.func153, Tryz.ntmps153
  go_upto_region 1 with (fail)
  generalize w.alloc (.cells #[.int .i64 y, .int .i64 m, .int .i64 d] 144) = w0 at *
  have L0 := L.mono KB.hb
  obtain ⟨_, a0, a1, a2, _⟩ := KB.head.three
  go_wp2
  have HB := KB.hb
  go_ret2
  exact ⟨rfl, HB⟩
theorem daysP_no2 (y m d : Int) (y1 : ¬ y < -271821) (y2 : ¬ 275760 < y) (HA : Hid (∀ W, Lens W → Calls Tryz.prog 161 #[.int .i64 y, .int .i64 m, .int .i64 d] W (fun e w' => e = .returned (.bool false) ∧ W = w'))) (w : World) (L : Lens w) :
    Calls Tryz.prog 153 #[.agg #[.int .i64 y, .int .i64 m, .int .i64 d]] w (RetNumB w 0 false) := by
  have gy1 : decide (y < -271821) = false := decide_eq_false y1
  have gy2 : decide (275760 < y) = false := decide_eq_false y2
  have KB := (BK.nil w).more3 (.int .i64 y) (.int .i64 m) (.int .i64 d) 144
  go_enter Tryz.func153, Tryz.ntmps153
  go_upto_region 1 with (fail)
  generalize w.alloc (.cells #[.int .i64 y, .int .i64 m, .int .i64 d] 144) = w0 at *
  have L0 := L.mono KB.hb
  obtain ⟨_, a0, a1, a2, _⟩ := KB.head.three
  go_wp2_with (go_at_call 161; (with_reducible refine (HA.out _ L0).mono ?_); rintro e w' ⟨rfl, rfl⟩)
  have HB := KB.hb
  go_ret2
  exact ⟨rfl, HB⟩
theorem daysP_no3 (y m d n J c : Int) (y1 : ¬ y < -271821) (y2 : ¬ 275760 < y) (HA : Hid (∀ W, Lens W → Calls Tryz.prog 161 #[.int .i64 y, .int .i64 m, .int .i64 d] W (fun e w' => e = .returned (.bool true) ∧ W = w'))) (hn : Hid (J + c + d - 1 = n)) (_j1 : -200000000 ≤ J) (_j2 : J ≤ 200000000) (_c1 : 0 ≤ c) (_c2 : c ≤ 366) (_d1 : 1 ≤ d) (_d2 : d ≤ 31) (YS : Hid (∀ W, Calls Tryz.prog 162 #[.int .i64 y] W (fun e w' => e = .returned (.int .i64 J) ∧ W = w'))) (MS : Hid (∀ W, Lens W → Calls Tryz.prog 163 #[.int .i64 y, .int .i64 m] W (fun e w' => e = .returned (.int .i64 c) ∧ W = w'))) (CT : Hid (∀ W, Calls Tryz.prog 164 #[.int .i64 n] W (fun e w' => e = .returned (.bool false) ∧ W = w'))) (w : World) (L : Lens w) :
    Calls Tryz.prog 153 #[.agg #[.int .i64 y, .int .i64 m, .int .i64 d]] w (RetNumB w 0 false) := by
  have gy1 : decide (y < -271821) = false := decide_eq_false y1
  have gy2 : decide (275760 < y) = false := decide_eq_false y2
  have s1 : IntKind.i64.wrap (J + c) = J + c := IntWalk.i64_in _ (by omega)
  have s2 : IntKind.i64.wrap (J + c + d) = J + c + d := IntWalk.i64_in _ (by omega)
  have s3 : IntKind.i64.wrap (J + c + d - 1) = J + c + d - 1 := IntWalk.i64_in _ (by omega)
  have KB := (BK.nil w).more3 (.int .i64 y) (.int .i64 m) (.int .i64 d) 144
  go_enter Tryz.func153, Tryz.ntmps153
  go_upto_region 1 with (fail)
  generalize w.alloc (.cells #[.int .i64 y, .int .i64 m, .int .i64 d] 144) = w0 at *
  have L0 := L.mono KB.hb
  obtain ⟨_, a0, a1, a2, _⟩ := KB.head.three
  go_wp2_with (go_at_call 161; (with_reducible refine (HA.out _ L0).mono ?_); rintro e w' ⟨rfl, rfl⟩)
  go_quiet ((first
    | (go_at_call 162; exact Calls.quiet_of_same ((YS.out _).mono fun _ _ ⟨h1, h2⟩ => ⟨h1, h2.symm⟩))
    | (go_at_call 163; exact Calls.quiet_of_same ((MS.out _ (L0.drewN _)).mono fun _ _ ⟨h1, h2⟩ => ⟨h1, h2.symm⟩))))
  replace KB := KB.below (below_drewN (Below.refl _ _) nq)
  generalize w0.drewN nq = w1 at *
  have HB := KB.hb
  clear a0 a1 a2
  go_wp2_with (go_at_call 164; rw [hn.out]; (with_reducible refine (CT.out _).mono ?_); rintro e w' ⟨rfl, rfl⟩)
  go_ret2
  exact ⟨rfl, HB⟩
theorem daysP_yes (y m d n J c : Int) (y1 : ¬ y < -271821) (y2 : ¬ 275760 < y) (HA : Hid (∀ W, Lens W → Calls Tryz.prog 161 #[.int .i64 y, .int .i64 m, .int .i64 d] W (fun e w' => e = .returned (.bool true) ∧ W = w'))) (hn : Hid (J + c + d - 1 = n)) (_j1 : -200000000 ≤ J) (_j2 : J ≤ 200000000) (_c1 : 0 ≤ c) (_c2 : c ≤ 366) (_d1 : 1 ≤ d) (_d2 : d ≤ 31) (YS : Hid (∀ W, Calls Tryz.prog 162 #[.int .i64 y] W (fun e w' => e = .returned (.int .i64 J) ∧ W = w'))) (MS : Hid (∀ W, Lens W → Calls Tryz.prog 163 #[.int .i64 y, .int .i64 m] W (fun e w' => e = .returned (.int .i64 c) ∧ W = w'))) (CT : Hid (∀ W, Calls Tryz.prog 164 #[.int .i64 n] W (fun e w' => e = .returned (.bool true) ∧ W = w'))) (w : World) (L : Lens w) :
    Calls Tryz.prog 153 #[.agg #[.int .i64 y, .int .i64 m, .int .i64 d]] w (RetNumB w n true) := by
  have gy1 : decide (y < -271821) = false := decide_eq_false y1
  have gy2 : decide (275760 < y) = false := decide_eq_false y2
  have s1 : IntKind.i64.wrap (J + c) = J + c := IntWalk.i64_in _ (by omega)
  have s2 : IntKind.i64.wrap (J + c + d) = J + c + d := IntWalk.i64_in _ (by omega)
  have s3 : IntKind.i64.wrap (J + c + d - 1) = J + c + d - 1 := IntWalk.i64_in _ (by omega)
  have KB := (BK.nil w).more3 (.int .i64 y) (.int .i64 m) (.int .i64 d) 144
  go_enter Tryz.func153, Tryz.ntmps153
  go_upto_region 1 with (fail)
  generalize w.alloc (.cells #[.int .i64 y, .int .i64 m, .int .i64 d] 144) = w0 at *
  have L0 := L.mono KB.hb
  obtain ⟨_, a0, a1, a2, _⟩ := KB.head.three
  go_wp2_with (go_at_call 161; (with_reducible refine (HA.out _ L0).mono ?_); rintro e w' ⟨rfl, rfl⟩)
  go_quiet ((first
    | (go_at_call 162; exact Calls.quiet_of_same ((YS.out _).mono fun _ _ ⟨h1, h2⟩ => ⟨h1, h2.symm⟩))
    | (go_at_call 163; exact Calls.quiet_of_same ((MS.out _ (L0.drewN _)).mono fun _ _ ⟨h1, h2⟩ => ⟨h1, h2.symm⟩))))
  replace KB := KB.below (below_drewN (Below.refl _ _) nq)
  generalize w0.drewN nq = w1 at *
  have HB := KB.hb
  clear a0 a1 a2
  go_wp2_with (go_at_call 164; rw [hn.out]; (with_reducible refine (CT.out _).mono ?_); rintro e w' ⟨rfl, rfl⟩)
  go_ret2
  exact ⟨by rw [← hn.out]; rfl, HB⟩
theorem daysP (y m d : Int) (w : World) (L : Lens w) : Calls Tryz.prog 153 #[.agg #[.int .i64 y, .int .i64 m, .int .i64 d]] w (RetNumB w (dv y m d) (decide (okD y m d))) := by
  have no : ¬ okD y m d → Calls Tryz.prog 153 #[.agg #[.int .i64 y, .int .i64 m, .int .i64 d]] w (RetNumB w 0 false) → Calls Tryz.prog 153 #[.agg #[.int .i64 y, .int .i64 m, .int .i64 d]] w (RetNumB w (dv y m d) (decide (okD y m d))) := fun h c => by
    rw [decide_eq_false h, show dv y m d = 0 by unfold dv; rw [if_neg h]]; exact c
  have HH := fun W l => hasP y m d W l
  by_cases y1 : y < -271821
  · exact no (fun h => by have := ok_year h; omega) (daysP_no0 y m d y1 w L)
  by_cases y2 : 275760 < y
  · exact no (fun h => by have := ok_year h; omega) (daysP_no1 y m d y1 y2 w L)
  by_cases hd : dayOk y m d
  · rw [hdB_yes hd] at HH
    have hm := hd
    obtain ⟨m1, m2, d1, d2⟩ := hm
    have ml := lenM_le y m
    have jb := jan_bound (y := y) (by omega) (by omega)
    have cr := cum_range (y := y) (m := m) m1 (by omega)
    have lr := lenY_range y
    have iff : okD y m d ↔ (-100000001 ≤ numD y m d ∧ numD y m d ≤ 100000000) := ⟨fun h => h.2, fun h => ⟨hd, h⟩⟩
    have hn : jan y + cum y m + d - 1 = numD y m d := by unfold numD; omega
    have YS := Lib.hid (fun W => ystartP y (by omega) (by omega) W)
    have MS := Lib.hid (fun W l => mstartP y m m1 (by omega) W l)
    by_cases h : okD y m d
    · rw [decide_eq_true h, show dv y m d = numD y m d by unfold dv; rw [if_pos h]]
      exact daysP_yes y m d _ _ _ y1 y2 (Lib.hid HH) (Lib.hid hn) jb.1 jb.2 cr.1 (by omega) d1 (by omega) YS MS (Lib.hid fun W => by
        have c := countP (numD y m d) W
        rwa [show nk (numD y m d) = true from decide_eq_true (iff.1 h)] at c) w L
    · exact no h (daysP_no3 y m d _ _ _ y1 y2 (Lib.hid HH) (Lib.hid hn) jb.1 jb.2 cr.1 (by omega) d1 (by omega) YS MS (Lib.hid fun W => by
        have c := countP (numD y m d) W
        rwa [show nk (numD y m d) = false from decide_eq_false fun k => h (iff.2 k)] at c) w L)
  · rw [hdB_no hd] at HH
    exact no (fun h => hd h.1) (daysP_no2 y m d y1 y2 (Lib.hid HH) w L)
theorem daysP_is {y m d : Int} (h : okD y m d) (W : World) (l : Lens W) : Calls Tryz.prog 153 #[.agg #[.int .i64 y, .int .i64 m, .int .i64 d]] W (RetNumB W (numD y m d) true) := by
  have := daysP y m d W l
  rwa [decide_eq_true h, show dv y m d = numD y m d by unfold dv; rw [if_pos h]] at this
theorem daysP_none {y m d : Int} (h : ¬ okD y m d) (W : World) (l : Lens W) : Calls Tryz.prog 153 #[.agg #[.int .i64 y, .int .i64 m, .int .i64 d]] W (RetNumB W 0 false) := by
  have := daysP y m d W l
  rwa [decide_eq_false h, show dv y m d = 0 by unfold dv; rw [if_neg h]] at this
theorem ofP_no (n : Int) (h : n < -100000001 ∨ 100000000 < n) (w : World) (L : Lens w) :
    Calls Tryz.prog 157 #[.int .i64 n] w (RetDateB w 0 0 0 false) := by
  have CT := Lib.hid (fun W => countP n W)
  rw [show nk n = false from decide_eq_false (by omega)] at CT
  clear h
  have KB := (BK.nil w).more3 (.int .i64 0) (.int .i64 0) (.int .i64 0) 144
  go_enter Tryz.func157, Tryz.ntmps157
  go_upto_region 1 with (fail)
  generalize w.alloc (.cells #[.int .i64 0, .int .i64 0, .int .i64 0] 144) = w0 at *
  have L0 := L.mono KB.hb
  obtain ⟨_, a0, a1, a2, f0, f1, f2⟩ := KB.head.three
  go_wp2_with (go_at_call 164; (with_reducible refine (CT.out _).mono ?_); rintro e w' ⟨rfl, rfl⟩)
  obtain ⟨_, P0, P1, P2, _, _, _⟩ := (KB.head.self3 (.int .i64 (0)) (.int .i64 (0)) (.int .i64 (0))).three
  have HB := ((KB.hb.setCell (p := ⟨w.heap.size, 0, none⟩) (Nat.le_refl _) (.int .i64 (0))).setCell (p := ⟨w.heap.size, 1, none⟩) (Nat.le_refl _) (.int .i64 (0))).setCell (p := ⟨w.heap.size, 2, none⟩) (Nat.le_refl _) (.int .i64 (0))
  exact bodyPost_ret (v := .tuple #[.agg #[.int .i64 (0), .int .i64 (0), .int .i64 (0)], .bool false]) (by simp [results, Tryz.results157, go_sem, P0, P1, P2]) rfl ⟨rfl, HB⟩
theorem ofP_core (n y m d J : Int) (n1 : -100000001 ≤ n) (n2 : n ≤ 100000000) (m1 : 1 ≤ m) (m2 : m ≤ 12) (d1 : 1 ≤ d) (d2 : d ≤ lenM y m) (hn : n - J = cum y m + (d - 1)) (_j1 : -200000000 ≤ J) (_j2 : J ≤ 200000000) (CT : Hid (∀ W, Calls Tryz.prog 164 #[.int .i64 n] W (fun e w' => e = .returned (.bool true) ∧ W = w'))) (YO : Hid (∀ W, Calls Tryz.prog 170 #[.int .i64 n] W (fun e w' => e = .returned (.int .i64 y) ∧ W = w'))) (YS : Hid (∀ W, Calls Tryz.prog 162 #[.int .i64 y] W (fun e w' => e = .returned (.int .i64 J) ∧ W = w'))) (w : World) (L : Lens w) :
    Calls Tryz.prog 157 #[.int .i64 n] w (RetDateB w y m d true) := by
  have MR := Lib.hid (fun i W l => mlenP y i W l)
  have CO := Lib.hid (cum_one y)
  have LE := Lib.hid hn
  have YR := lenY_range y
  clear hn
  have KB := (BK.nil w).more3 (.int .i64 0) (.int .i64 0) (.int .i64 0) 144
  go_enter Tryz.func157, Tryz.ntmps157
  go_upto_region 1 with (fail)
  generalize w.alloc (.cells #[.int .i64 0, .int .i64 0, .int .i64 0] 144) = w0 at *
  have L0 := L.mono KB.hb
  go_wp2_with (first
    | (go_at_call 164; (with_reducible refine (CT.out _).mono ?_); rintro e w' ⟨rfl, rfl⟩)
    | (go_at_call 170; (with_reducible refine (YO.out _).mono ?_); rintro e w' ⟨rfl, rfl⟩)
    | (go_at_call 162; (with_reducible refine (YS.out _).mono ?_); rintro e w' ⟨rfl, rfl⟩))
  go_loop [5, 6] (fun v5 v6 => ∃ i : Int, 1 ≤ i ∧ i ≤ m ∧ v6 = .int .i64 (n - J - cum y i) ∧ v5 = .int .i64 i) (fun v5 _ => (m - intOf v5).toNat)
  case atStart => exact ⟨1, by omega, by omega, by rw [CO.out, Int.sub_zero], rfl⟩
  case round =>
    obtain ⟨i, i1, i2, rfl, rfl⟩ := hrel
    have MK := Lib.hid (fun W l => MR.out i W l)
    have ml := lenM_le y i
    have cr := cum_range (y := y) (m := i) i1 (by omega)
    have cm := cum_range (y := y) (m := m) (by omega) (by omega)
    have le := LE.out
    by_cases hi : i < m
    · have S := Lib.hid (cum_succ (y := y) i1 (by omega))
      have ge : lenM y i ≤ n - J - cum y i := by have := cum_lt (y := y) i1 hi (by omega); omega
      have S' := Lib.hid (show n - J - cum y (i + 1) = n - J - cum y i - lenM y i by have := S.out; omega)
      clear le d2
      generalize lenM y i = l0 at *
      generalize cum y i = ci at *
      go_wp2_with (go_at_call 155; (with_reducible refine (MK.out _ L0).mono ?_); rintro e w' ⟨rfl, rfl⟩)
      go_round
      case rel => exact ⟨i + 1, by omega, by omega, by rw [S'.out], rfl⟩
      case measure => simp [intOf]; omega
    · have e : i = m := by omega
      subst e
      have lt : ¬ lenM y i ≤ n - J - cum y i := by omega
      have el := Lib.hid (show n - J - cum y i + 1 = d by omega)
      have b1 : 0 ≤ n - J - cum y i := by omega
      have b2 : n - J - cum y i ≤ 31 := by omega
      clear le d2
      generalize lenM y i = l0 at *
      generalize cum y i = ci at *
      obtain ⟨_, a0, a1, a2, f0, f1, f2⟩ := KB.head.three
      go_wp2_with (go_at_call 155; (with_reducible refine (MK.out _ L0).mono ?_); rintro e w' ⟨rfl, rfl⟩)
      go_wp2
      obtain ⟨_, P0, P1, P2, _, _, _⟩ := (KB.head.self3 (.int .i64 (y)) (.int .i64 (i)) (.int .i64 (n - J - ci + 1))).three
      have HB := ((KB.hb.setCell (p := ⟨w.heap.size, 0, none⟩) (Nat.le_refl _) (.int .i64 (y))).setCell (p := ⟨w.heap.size, 1, none⟩) (Nat.le_refl _) (.int .i64 (i))).setCell (p := ⟨w.heap.size, 2, none⟩) (Nat.le_refl _) (.int .i64 (n - J - ci + 1))
      exact bodyPost_ret (v := .tuple #[.agg #[.int .i64 (y), .int .i64 (i), .int .i64 (n - J - ci + 1)], .bool true]) (by simp [results, Tryz.results157, go_sem, P0, P1, P2]) rfl ⟨by rw [el.out], HB⟩
theorem ofP_yes (n y m d : Int) (h : okD y m d) (hn : numD y m d = n) (w : World) (L : Lens w) : Calls Tryz.prog 157 #[.int .i64 n] w (RetDateB w y m d true) := by
  have oy := ok_year h
  have yr := num_year h.1
  rw [hn] at yr
  obtain ⟨⟨m1, m2, d1, d2⟩, n1, n2⟩ := h
  rw [hn] at n1 n2
  have jb := jan_bound (y := y) (by omega) (by omega)
  exact ofP_core n y m d _ n1 n2 m1 m2 d1 d2 (by unfold numD at hn; omega) jb.1 jb.2 (Lib.hid fun W => by
    have c := countP n W
    rwa [show nk n = true from decide_eq_true ⟨n1, n2⟩] at c) (Lib.hid fun W => yofP n y (by omega) (by omega) yr.1 yr.2 W) (Lib.hid fun W => ystartP y (by omega) (by omega) W) w L
theorem weekdayP_no (y m d : Int) (DA : Hid (∀ W, Lens W → Calls Tryz.prog 153 #[.agg #[.int .i64 y, .int .i64 m, .int .i64 d]] W (RetNumB W 0 false))) (w : World) (L : Lens w) :
    Calls Tryz.prog 154 #[.agg #[.int .i64 y, .int .i64 m, .int .i64 d]] w (RetV w (.int .i64 0)) := by
  have KB := (BK.nil w).more3 (.int .i64 y) (.int .i64 m) (.int .i64 d) 144
  go_enter Tryz.func154, Tryz.ntmps154
  go_wp2_with fail
  generalize w.alloc (.cells #[.int .i64 y, .int .i64 m, .int .i64 d] 144) = w0 at *
  have L0 := L.mono KB.hb
  refine (DA.out _ L0).mono ?_
  rintro e w1 ⟨rfl, k⟩
  replace KB := KB.below k
  clear k
  have L1 := L.mono KB.hb
  have HB := KB.hb
  go_wp2
  go_ret
  exact ⟨rfl, HB⟩
theorem weekdayP_yes (y m d n : Int) (n1 : -100000001 ≤ n) (n2 : n ≤ 100000000) (DA : Hid (∀ W, Lens W → Calls Tryz.prog 153 #[.agg #[.int .i64 y, .int .i64 m, .int .i64 d]] W (RetNumB W n true))) (w : World) (L : Lens w) :
    Calls Tryz.prog 154 #[.agg #[.int .i64 y, .int .i64 m, .int .i64 d]] w (RetV w (.int .i64 (wday n))) := by
  have b0 : 0 ≤ n + 100065486 := by omega
  have E := Lib.hid (show (n + 100065486) % 7 + 1 = wday n by unfold wday; omega)
  have KB := (BK.nil w).more3 (.int .i64 y) (.int .i64 m) (.int .i64 d) 144
  go_enter Tryz.func154, Tryz.ntmps154
  go_wp2_with fail
  generalize w.alloc (.cells #[.int .i64 y, .int .i64 m, .int .i64 d] 144) = w0 at *
  have L0 := L.mono KB.hb
  refine (DA.out _ L0).mono ?_
  rintro e w1 ⟨rfl, k⟩
  replace KB := KB.below k
  clear k
  have L1 := L.mono KB.hb
  have HB := KB.hb
  go_wp2
  go_ret
  exact ⟨by rw [← E.out]; rfl, HB⟩
theorem weekdayP (y m d : Int) (w : World) (L : Lens w) : Calls Tryz.prog 154 #[.agg #[.int .i64 y, .int .i64 m, .int .i64 d]] w (RetV w (.int .i64 (wdv y m d))) := by
  unfold wdv
  by_cases h : okD y m d
  · rw [if_pos h]; exact weekdayP_yes y m d _ h.2.1 h.2.2 (Lib.hid fun W l => daysP_is h W l) w L
  · rw [if_neg h]; exact weekdayP_no y m d (Lib.hid fun W l => daysP_none h W l) w L
def c3 (a b : Int) : Int := if a < b then -1 else if b < a then 1 else 0
end Go.Proofs.YtmhpnmlgfdomkaaGreatDoor
