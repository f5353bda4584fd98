/- Stage 11's laws: what is in force changes at universal times of turns alone. -/
import Derived.Test.YtkkdclibbdeejaaDoorZElle
import Derived.Test.YtkkdclibbdeejaaDoorZGeb
namespace Go.Proofs.YtkkdclibbdeejaaDoor
open Go.RowKit
theorem toList_beq (s t : ByteArray) : (s.toList == t.toList) = decide (s = t) := by
  by_cases h : s = t
  · subst h; simp
  · rw [decide_eq_false h]; exact (Lib.bytes_beq_false_iff s t).2 h
theorem turn_small11 {x : Rl} {y : Int} (h : turnIn x y) : -100000000000 ≤ (turnT x y).at_ ∧ (turnT x y).at_ ≤ 10000000000000 := by
  have t := turn_year h
  have y1 := onOk_year h.2
  have j1 := jan_le y1.1
  have j2 := jan_le (show y + 1 ≤ 275761 by omega)
  have c1 : jan 1 = -719162 := by decide
  have c2 : jan 275761 ≤ 100010000 := by decide
  omega
theorem aheadSave_lit (L : List Rl) (a : Int) : aheadSave L a = ((aheadO L a).getD Tn.zero).save := by
  unfold aheadSave
  cases aheadO L a <;> rfl
set_option maxRecDepth 100000 in
set_option maxHeartbeats 8000000 in
theorem stepsL11 {M : Nat} {Q : World → Prop} (hM : 12 ≤ M) (C : RulesQ M Q) (A : Option Addr) (n c : Nat) (L : List Rl) (off T : Int) (w : World) (hm : RulV w A n c L) (_hi : in64L L) (ho : In64 off) (hT : In64 T) (LQ : Q w) : Calls Tryd.prog 7 #[.slice A n c, .int .i64 off, .int .i64 T] w (RetV w (.bool true)) := by
  have mx : n ≤ 9223372036854775807 := Nat.le_trans hm.cap hm.max
  have MO := Lib.hid C.mono
  have AL := Lib.hid (alive11 (by omega) C)
  by_cases big : 12 < n
  · have d0 : decide ((12 : Int) < (n : Int)) = true := decide_eq_true (by omega)
    clear C
    go_enter Tryd.func7, Tryd.ntmps7
    go_wp2_with (go_at_call 9; refine (AL.out _ LQ).mono ?_; clear AL; rintro e w1 ⟨rfl, h1⟩)
    go_ret
    exact ⟨rfl, h1⟩
  have d0 : decide ((12 : Int) < (n : Int)) = false := decide_eq_false (by omega)
  by_cases t1 : T < -8640000000000
  · have d1 : decide (T < -8640000000000) = true := decide_eq_true t1
    clear C
    go_enter Tryd.func7, Tryd.ntmps7
    go_wp2_with (go_at_call 9; refine (AL.out _ LQ).mono ?_; clear AL; rintro e w1 ⟨rfl, h1⟩)
    go_ret
    exact ⟨rfl, h1⟩
  have d1 : decide (T < -8640000000000) = false := decide_eq_false t1
  by_cases t2 : 8640000000000 < T
  · have d2 : decide (8640000000000 < T) = true := decide_eq_true t2
    clear C
    go_enter Tryd.func7, Tryd.ntmps7
    go_wp2_with (go_at_call 9; refine (AL.out _ LQ).mono ?_; clear AL; rintro e w1 ⟨rfl, h1⟩)
    go_ret
    exact ⟨rfl, h1⟩
  have d2 : decide (8640000000000 < T) = false := decide_eq_false t2
  by_cases o1 : off ≤ -86400
  · have d3 : decide (off ≤ -86400) = true := decide_eq_true o1
    clear C
    go_enter Tryd.func7, Tryd.ntmps7
    go_wp2_with (go_at_call 9; refine (AL.out _ LQ).mono ?_; clear AL; rintro e w1 ⟨rfl, h1⟩)
    go_ret
    exact ⟨rfl, h1⟩
  have d3 : decide (off ≤ -86400) = false := decide_eq_false o1
  by_cases o2 : 86400 ≤ off
  · have d4 : decide (86400 ≤ off) = true := decide_eq_true o2
    clear C
    go_enter Tryd.func7, Tryd.ntmps7
    go_wp2_with (go_at_call 9; refine (AL.out _ LQ).mono ?_; clear AL; rintro e w1 ⟨rfl, h1⟩)
    go_ret
    exact ⟨rfl, h1⟩
  have d4 : decide (86400 ≤ off) = false := decide_eq_false o2
  have HA := Lib.hid hm
  have F1 := fun W (h : RulV W A n c L) q => C.force A n c L off T ho hT W h q
  have F2 := fun W (h : RulV W A n c L) q => C.force A n c L off (T - 1) ho (by unfold In64; omega) W h q
  have TU := Lib.hid (fun y W (h : RulV W A n c L) q => C.turns A n c L y W h (by omega) q)
  have AH := Lib.hid (fun a ha W (h : RulV W A n c L) q => C.ahead A n c L a ha W h q)
  have NE : forceF L off T ≠ forceF L off (T - 1) → fitB L = true ∧ forceR L off T ≠ forceR L off (T - 1) ∧ forceF L off T = forceR L off T := fun h => by
    have y : fitB L = true := by
      apply Classical.byContradiction
      intro k
      exact h (by unfold forceF; rw [if_neg (fun x => k x.1), if_neg (fun x => k x.1)])
    have e : ∀ T, forceF L off T = forceR L off T := fun T => by unfold forceF; rw [if_pos ⟨y, by omega, by omega⟩]
    exact ⟨y, by rw [← e, ← e]; exact h, e T⟩
  clear C hm
  obtain ⟨⟨m, s⟩, hp⟩ : ∃ p, p = forceF L off T := ⟨_, rfl⟩
  obtain ⟨⟨m', s'⟩, hp'⟩ : ∃ p, p = forceF L off (T - 1) := ⟨_, rfl⟩
  rw [← hp] at F1 NE
  rw [← hp'] at F2 NE
  have F1 := Lib.hid (fun W (h : RulV W A n c L) (q : Q W) => (show Calls Tryd.prog 21 #[.slice A n c, .int .i64 off, .int .i64 T] W (fun e w' => e = .returned (.tuple #[.int .i64 m, .string s]) ∧ Below W.heap.size W w') from F1 W h q))
  have F2 := Lib.hid (fun W (h : RulV W A n c L) (q : Q W) => (show Calls Tryd.prog 21 #[.slice A n c, .int .i64 off, .int .i64 (T - 1)] W (fun e w' => e = .returned (.tuple #[.int .i64 m', .string s']) ∧ Below W.heap.size W w') from F2 W h q))
  by_cases same : m = m' ∧ s = s'
  · obtain ⟨rfl, rfl⟩ := same
    have s0 := beq_self_bytes s
    clear NE hp hp' TU AH
    go_enter Tryd.func7, Tryd.ntmps7
    go_wp2_with (first
      | (go_at_call 21; (with_reducible refine (F1.out _ HA.out LQ).mono ?_); clear F1; rintro e w1 ⟨rfl, hb⟩; have L1 := MO.out _ _ LQ hb)
      | (go_at_call 21; (with_reducible refine (F2.out _ (HA.out.below hb) L1).mono ?_); clear F2; rintro e w2 ⟨rfl, k2⟩; have L2 := MO.out _ _ L1 k2; replace hb := below_thru hb k2; clear k2)
      | (go_at_call 9; refine (AL.out _ L2).mono ?_; clear AL; rintro e w3 ⟨rfl, k3⟩; replace hb := below_thru hb k3; clear k3))
    go_ret
    exact ⟨rfl, hb⟩
  obtain ⟨hf, ne, ef⟩ := NE (fun h => same ⟨congrArg (·.1) h, congrArg (·.2) h⟩)
  have FIT := Lib.hid (fit_yes.1 hf)
  obtain ⟨Y, hY, YR⟩ := yearDR T
  obtain ⟨yb1, yb2⟩ := yearDoc_in hY
  obtain ⟨y', t', st1, st2, st3, st4, st5⟩ := force_steps FIT.out (by omega) (by omega) (yearDoc_ok hY) ne
  have GOAL := Lib.hid (show ∃ (y : Int) (t : Tn), Y - 2 ≤ y ∧ y ≤ Y + 2 ∧ t ∈ turnsL L y ∧ (uniT L off t = T ∧ m = t.save ∧ s = t.letter) from by
    rw [← ef] at st5
    have e1 : (m, s) = (t'.save, t'.letter) := st5
    exact ⟨y', t', st1, st2, st3, st4, congrArg (·.1) e1, congrArg (·.2) e1⟩)
  have TE : ∀ y, turnsR L y = turnsL L y := fun y => by unfold turnsR; rw [if_pos hf]
  have AE : ∀ a, aheadR L a = aheadO L a := fun a => by unfold aheadR; rw [if_pos hf]
  replace TU := Lib.hid (fun y W h q => (TE y ▸ TU.out y W h q : Calls Tryd.prog 10 #[.slice A n c, .int .i64 y] W (RetTn W (turnsL L y))))
  replace AH := Lib.hid (fun a ha W h q => (AE a ▸ AH.out a ha W h q : Calls Tryd.prog 19 #[.slice A n c, .int .i64 a] W (RetTB W (aheadO L a))))
  have YR := Lib.hid YR
  have em := Lib.hid same
  clear NE hp hp' hf ne hY st1 st2 st3 st4 st5 TE AE same ef
  go_enter Tryd.func7, Tryd.ntmps7
  have em1 : (m == m') = true → (s.toList == s'.toList) = false := fun h => by rw [toList_beq]; exact decide_eq_false (fun k => em.out ⟨by simpa using h, k⟩)
  cases e1 : (m == m') with
  | true =>
    have e2 := em1 e1
    clear em1
    go_upto_region 8 with (first
      | (go_at_call 21; (with_reducible refine (F1.out _ HA.out LQ).mono ?_); clear F1; rintro e w1 ⟨rfl, hb⟩; have L1 := MO.out _ _ LQ hb)
      | (go_at_call 21; (with_reducible refine (F2.out _ (HA.out.below hb) L1).mono ?_); clear F2; rintro e w2 ⟨rfl, k2⟩; have L2 := MO.out _ _ L1 k2; replace hb := below_thru hb k2; clear k2)
      | (go_at_call 23; refine (YR.out _).mono ?_; clear YR; rintro e w3 ⟨rfl, k3⟩; replace hb := below_thru hb k3; clear k3 L1 L2))
    go_wp2_with fail
    go_loopw [12] (fun v12 wr => ∃ k : Int, v12 = .int .i64 k ∧ Y - 2 ≤ k ∧ k ≤ Y + 3 ∧ (∀ k', Y - 2 ≤ k' → k' < k → ∀ t ∈ turnsL L k', ¬ (uniT L off t = T ∧ m = t.save ∧ s = t.letter)) ∧ Below w.heap.size w wr) (fun v _ => (Y + 3 - intOf v).toNat)
    case atStart => exact ⟨Y - 2, by first | rfl | exact int_eqS (by omega), Int.le_refl _, by omega, fun k' h1 h2 => absurd h2 (by omega), hb⟩
    case round =>
      clear hb
      obtain ⟨k, rfl, k1, k2, hR, hb⟩ := hrel
      have HR := Lib.hid hR
      clear hR
      by_cases h5 : k ≤ Y + 2
      · have TK := Lib.hid (fun W h q => TU.out k W h q)
        obtain ⟨lt, hlt⟩ : ∃ lt, lt = turnsL L k := ⟨_, rfl⟩
        rw [← hlt] at TK
        have SM := Lib.hid (show ∀ (i : Nat) t, lt[i]? = some t → ((-100000000000 ≤ t.at_ ∧ t.at_ ≤ 10000000000000) ∧ (0 ≤ t.re ∧ t.re ≤ 2)) from fun i t h => by
          obtain ⟨j, x, hx, tx, rfl⟩ := turnsL_mem.1 (show t ∈ turnsL L k by rw [← hlt]; exact List.mem_of_getElem? h)
          exact ⟨turn_small11 tx, (turn_fit FIT.out ⟨x, hx, tx, rfl⟩).2⟩)
        have ALL := Lib.hid (show (∀ (q : Nat) t, lt[q]? = some t → ¬ (uniT L off t = T ∧ m = t.save ∧ s = t.letter)) → ∀ k', Y - 2 ≤ k' → k' < k + 1 → ∀ t ∈ turnsL L k', ¬ (uniT L off t = T ∧ m = t.save ∧ s = t.letter) from fun h k' a b t ht => by
          by_cases e : k' = k
          · subst e
            rw [← hlt] at ht
            obtain ⟨q, hq⟩ := List.getElem?_of_mem ht
            exact h q t hq
          · exact HR.out k' a (by omega) t ht)
        clear hlt HR
        go_upto_region 12 with (go_at_call 10; refine (TK.out _ (HA.out.below hb) (MO.out _ _ LQ hb)).mono ?_; clear TK; rintro e w4 ⟨B, nt, ct, rfl, HT, k4⟩; replace hb := below_thru hb k4; clear k4)
        have lnt : lt.length = nt := by have := HT.len; simpa using this
        have mxt : nt ≤ 9223372036854775807 := Nat.le_trans HT.cap HT.max
        go_wp2_with fail
        go_loopw [14] (fun v14 wr => ∃ i : Nat, i ≤ nt ∧ v14 = .int .i64 i ∧ (∀ (q : Nat) t, q < i → lt[q]? = some t → ¬ (uniT L off t = T ∧ m = t.save ∧ s = t.letter)) ∧ TnV wr B nt ct lt ∧ Below w.heap.size w wr) (fun v _ => nt - (intOf v).toNat)
        case atStart => exact ⟨0, by omega, rfl, fun q t h => absurd h (by omega), HT, hb⟩
        case round =>
          clear hb HT
          obtain ⟨i, hi, rfl, hS, HT, hb⟩ := hrel
          have HS := Lib.hid hS
          clear hS
          by_cases h6 : i < nt
          · obtain ⟨t, ht⟩ : ∃ t, lt[i]? = some t := ⟨_, List.getElem?_eq_getElem (by omega)⟩
            obtain ⟨g, o, rfl, hg, _, z0, z1, z2, z3⟩ := usT_rows HT ht
            obtain ⟨⟨a1, a2⟩, r1, r2⟩ := SM.out i t ht
            have sv := aheadSave_in FIT.out t.at_
            rw [aheadSave_lit] at sv
            have STEP := Lib.hid (show ¬ (uniT L off t = T ∧ m = t.save ∧ s = t.letter) → ∀ (q : Nat) u, q < i + 1 → lt[q]? = some u → ¬ (uniT L off u = T ∧ m = u.save ∧ s = u.letter) from fun h q u hq hu => by
              by_cases e : q = i
              · subst e; rw [ht] at hu; cases hu; exact h
              · exact HS.out q u (by omega) hu)
            have AT := fun W h q => AH.out t.at_ (by unfold In64; omega) W h q
            have eu : uniT L off t = (if t.re = 2 then t.at_ else if t.re = 1 then t.at_ - off else t.at_ - off - ((aheadO L t.at_).getD Tn.zero).save) := by rw [← aheadSave_lit]; rfl
            rw [eu] at STEP
            obtain ⟨⟨a0', a1', sv0, al'⟩, hq⟩ : ∃ q, q = (aheadO L t.at_).getD Tn.zero := ⟨_, rfl⟩
            obtain ⟨f, hf⟩ : ∃ f, f = (aheadO L t.at_).isSome := ⟨_, rfl⟩
            rw [← hq] at STEP
            rw [← hq] at sv
            replace AT := fun W h q => (AT W h q).mono (fun _ _ r => RetTB.wide hq hf r)
            clear eu ht HS hq hf
            obtain ⟨ta, tr, ts, tl⟩ := t
            simp only at a1 a2 r1 r2 sv z0 z1 z2 z3 AT STEP
            replace AT := Lib.hid AT
            have b0 : (0 : Int) ≤ (i : Int) := by omega
            have b1 : (i : Int) < (nt : Int) := by omega
            rcases (by omega : tr = 2 ∨ tr = 1 ∨ tr = 0) with rfl | rfl | rfl
            · rw [if_pos rfl] at STEP
              obtain ⟨uu, hu⟩ : ∃ uu, uu = ta := ⟨_, rfl⟩
              rw [← hu] at STEP
              go_upto_region 21 with (fail)
              rw [← hu]
              clear hu AT
              by_cases g1 : uu = T
              · have e3 : (uu == T) = true := by simp [g1]
                by_cases g2 : m = ts
                · have e4 : (m == ts) = true := by simp [g2]
                  by_cases g3 : s = tl
                  · have e5 : (s.toList == tl.toList) = true := by rw [toList_beq]; exact decide_eq_true g3
                    clear STEP g1 g2 g3
                    go_wp2_with (go_at_call 9; refine (AL.out _ (MO.out _ _ LQ hb)).mono ?_; clear AL; rintro e w7 ⟨rfl, k7⟩; replace hb := below_thru hb k7; clear k7)
                    go_ret
                    exact ⟨rfl, hb⟩
                  · have e5 : (s.toList == tl.toList) = false := by rw [toList_beq]; exact decide_eq_false g3
                    have ST := Lib.hid (STEP.out (fun x => g3 x.2.2))
                    clear STEP g1 g2 g3
                    go_wp2
                    go_roundw
                    case rel => exact ⟨i + 1, by omega, int_eqS (by omega), ST.out, HT, hb⟩
                    case measure => simp only [intOf]; omega
                · have e4 : (m == ts) = false := beq_false_of_ne g2
                  have ST := Lib.hid (STEP.out (fun x => g2 x.2.1))
                  clear STEP g1 g2
                  go_wp2
                  go_roundw
                  case rel => exact ⟨i + 1, by omega, int_eqS (by omega), ST.out, HT, hb⟩
                  case measure => simp only [intOf]; omega
              · have e3 : (uu == T) = false := beq_false_of_ne g1
                have ST := Lib.hid (STEP.out (fun x => g1 x.1))
                clear STEP g1
                go_wp2
                go_roundw
                case rel => exact ⟨i + 1, by omega, int_eqS (by omega), ST.out, HT, hb⟩
                case measure => simp only [intOf]; omega
            · rw [if_neg (by decide), if_pos rfl] at STEP
              obtain ⟨uu, hu⟩ : ∃ uu, uu = ta - off := ⟨_, rfl⟩
              rw [← hu] at STEP
              go_upto_region 21 with (fail)
              rw [← hu]
              clear hu AT
              by_cases g1 : uu = T
              · have e3 : (uu == T) = true := by simp [g1]
                by_cases g2 : m = ts
                · have e4 : (m == ts) = true := by simp [g2]
                  by_cases g3 : s = tl
                  · have e5 : (s.toList == tl.toList) = true := by rw [toList_beq]; exact decide_eq_true g3
                    clear STEP g1 g2 g3
                    go_wp2_with (go_at_call 9; refine (AL.out _ (MO.out _ _ LQ hb)).mono ?_; clear AL; rintro e w7 ⟨rfl, k7⟩; replace hb := below_thru hb k7; clear k7)
                    go_ret
                    exact ⟨rfl, hb⟩
                  · have e5 : (s.toList == tl.toList) = false := by rw [toList_beq]; exact decide_eq_false g3
                    have ST := Lib.hid (STEP.out (fun x => g3 x.2.2))
                    clear STEP g1 g2 g3
                    go_wp2
                    go_roundw
                    case rel => exact ⟨i + 1, by omega, int_eqS (by omega), ST.out, HT, hb⟩
                    case measure => simp only [intOf]; omega
                · have e4 : (m == ts) = false := beq_false_of_ne g2
                  have ST := Lib.hid (STEP.out (fun x => g2 x.2.1))
                  clear STEP g1 g2
                  go_wp2
                  go_roundw
                  case rel => exact ⟨i + 1, by omega, int_eqS (by omega), ST.out, HT, hb⟩
                  case measure => simp only [intOf]; omega
              · have e3 : (uu == T) = false := beq_false_of_ne g1
                have ST := Lib.hid (STEP.out (fun x => g1 x.1))
                clear STEP g1
                go_wp2
                go_roundw
                case rel => exact ⟨i + 1, by omega, int_eqS (by omega), ST.out, HT, hb⟩
                case measure => simp only [intOf]; omega
            · rw [if_neg (by decide), if_neg (by decide)] at STEP
              obtain ⟨uu, hu⟩ : ∃ uu, uu = ta - off - sv0 := ⟨_, rfl⟩
              rw [← hu] at STEP
              go_upto_region 20 with (go_at_call 19; refine (AT.out _ (HA.out.below hb) (MO.out _ _ LQ hb)).mono ?_; clear AT; rintro e w5 ⟨rfl, k5⟩; replace hb := below_thru hb k5; replace HT := Rs.below HT k5; have y0 := (k5.cell (p := ⟨g, o + i * 4, none⟩) hg).trans z0; have y1 := (k5.cell (p := ⟨g, o + i * 4 + 1, none⟩) hg).trans z1; have y2 := (k5.cell (p := ⟨g, o + i * 4 + 2, none⟩) hg).trans z2; have y3 := (k5.cell (p := ⟨g, o + i * 4 + 3, none⟩) hg).trans z3; replace hg := Nat.lt_of_lt_of_le hg k5.size; clear k5 z0 z1 z2 z3)
              have KN := Blk.new4 w5 (.int .i64 a0') (.int .i64 a1') (.int .i64 sv0) (.string al') 35
              have k6 := below_box w5 (.cells #[.int .i64 a0', .int .i64 a1', .int .i64 sv0, .string al'] 35)
              replace hb := below_thru hb k6
              replace HT := Rs.below HT k6
              have z0 := (k6.cell (p := ⟨g, o + i * 4, none⟩) hg).trans y0
              have z1 := (k6.cell (p := ⟨g, o + i * 4 + 1, none⟩) hg).trans y1
              have z2 := (k6.cell (p := ⟨g, o + i * 4 + 2, none⟩) hg).trans y2
              have z3 := (k6.cell (p := ⟨g, o + i * 4 + 3, none⟩) hg).trans y3
              clear k6 y0 y1 y2 y3 hg
              generalize w5.alloc (.cells #[.int .i64 a0', .int .i64 a1', .int .i64 sv0, .string al'] 35) = w6 at *
              generalize w5.heap.size = q at *
              obtain ⟨_, n0, n1, n2, n3, _⟩ := KN.four
              go_upto_region 21 with (fail)
              rw [← hu]
              clear hu
              by_cases g1 : uu = T
              · have e3 : (uu == T) = true := by simp [g1]
                by_cases g2 : m = ts
                · have e4 : (m == ts) = true := by simp [g2]
                  by_cases g3 : s = tl
                  · have e5 : (s.toList == tl.toList) = true := by rw [toList_beq]; exact decide_eq_true g3
                    clear STEP g1 g2 g3
                    go_wp2_with (go_at_call 9; refine (AL.out _ (MO.out _ _ LQ hb)).mono ?_; clear AL; rintro e w7 ⟨rfl, k7⟩; replace hb := below_thru hb k7; clear k7)
                    go_ret
                    exact ⟨rfl, hb⟩
                  · have e5 : (s.toList == tl.toList) = false := by rw [toList_beq]; exact decide_eq_false g3
                    have ST := Lib.hid (STEP.out (fun x => g3 x.2.2))
                    clear STEP g1 g2 g3
                    go_wp2
                    go_roundw
                    case rel => exact ⟨i + 1, by omega, int_eqS (by omega), ST.out, HT, hb⟩
                    case measure => simp only [intOf]; omega
                · have e4 : (m == ts) = false := beq_false_of_ne g2
                  have ST := Lib.hid (STEP.out (fun x => g2 x.2.1))
                  clear STEP g1 g2
                  go_wp2
                  go_roundw
                  case rel => exact ⟨i + 1, by omega, int_eqS (by omega), ST.out, HT, hb⟩
                  case measure => simp only [intOf]; omega
              · have e3 : (uu == T) = false := beq_false_of_ne g1
                have ST := Lib.hid (STEP.out (fun x => g1 x.1))
                clear STEP g1
                go_wp2
                go_roundw
                case rel => exact ⟨i + 1, by omega, int_eqS (by omega), ST.out, HT, hb⟩
                case measure => simp only [intOf]; omega
          · obtain rfl : i = nt := by omega
            have ST := Lib.hid (ALL.out (fun q t h => HS.out q t (by have := (List.getElem?_eq_some_iff.1 h).1; omega) h))
            clear ALL HS
            go_wp2
            go_roundw
            case rel => exact ⟨k + 1, by first | rfl | exact int_eqS (by omega), by omega, by omega, ST.out, hb⟩
            case measure => simp only [intOf]; omega
      · exfalso
        obtain ⟨y, t, q1, q2, q3, q4⟩ := GOAL.out
        exact HR.out y q1 (by omega) t q3 q4
  | false =>
    clear em1
    go_upto_region 8 with (first
      | (go_at_call 21; (with_reducible refine (F1.out _ HA.out LQ).mono ?_); clear F1; rintro e w1 ⟨rfl, hb⟩; have L1 := MO.out _ _ LQ hb)
      | (go_at_call 21; (with_reducible refine (F2.out _ (HA.out.below hb) L1).mono ?_); clear F2; rintro e w2 ⟨rfl, k2⟩; have L2 := MO.out _ _ L1 k2; replace hb := below_thru hb k2; clear k2)
      | (go_at_call 23; refine (YR.out _).mono ?_; clear YR; rintro e w3 ⟨rfl, k3⟩; replace hb := below_thru hb k3; clear k3 L1 L2))
    go_wp2_with fail
    go_loopw [12] (fun v12 wr => ∃ k : Int, v12 = .int .i64 k ∧ Y - 2 ≤ k ∧ k ≤ Y + 3 ∧ (∀ k', Y - 2 ≤ k' → k' < k → ∀ t ∈ turnsL L k', ¬ (uniT L off t = T ∧ m = t.save ∧ s = t.letter)) ∧ Below w.heap.size w wr) (fun v _ => (Y + 3 - intOf v).toNat)
    case atStart => exact ⟨Y - 2, by first | rfl | exact int_eqS (by omega), Int.le_refl _, by omega, fun k' h1 h2 => absurd h2 (by omega), hb⟩
    case round =>
      clear hb
      obtain ⟨k, rfl, k1, k2, hR, hb⟩ := hrel
      have HR := Lib.hid hR
      clear hR
      by_cases h5 : k ≤ Y + 2
      · have TK := Lib.hid (fun W h q => TU.out k W h q)
        obtain ⟨lt, hlt⟩ : ∃ lt, lt = turnsL L k := ⟨_, rfl⟩
        rw [← hlt] at TK
        have SM := Lib.hid (show ∀ (i : Nat) t, lt[i]? = some t → ((-100000000000 ≤ t.at_ ∧ t.at_ ≤ 10000000000000) ∧ (0 ≤ t.re ∧ t.re ≤ 2)) from fun i t h => by
          obtain ⟨j, x, hx, tx, rfl⟩ := turnsL_mem.1 (show t ∈ turnsL L k by rw [← hlt]; exact List.mem_of_getElem? h)
          exact ⟨turn_small11 tx, (turn_fit FIT.out ⟨x, hx, tx, rfl⟩).2⟩)
        have ALL := Lib.hid (show (∀ (q : Nat) t, lt[q]? = some t → ¬ (uniT L off t = T ∧ m = t.save ∧ s = t.letter)) → ∀ k', Y - 2 ≤ k' → k' < k + 1 → ∀ t ∈ turnsL L k', ¬ (uniT L off t = T ∧ m = t.save ∧ s = t.letter) from fun h k' a b t ht => by
          by_cases e : k' = k
          · subst e
            rw [← hlt] at ht
            obtain ⟨q, hq⟩ := List.getElem?_of_mem ht
            exact h q t hq
          · exact HR.out k' a (by omega) t ht)
        clear hlt HR
        go_upto_region 12 with (go_at_call 10; refine (TK.out _ (HA.out.below hb) (MO.out _ _ LQ hb)).mono ?_; clear TK; rintro e w4 ⟨B, nt, ct, rfl, HT, k4⟩; replace hb := below_thru hb k4; clear k4)
        have lnt : lt.length = nt := by have := HT.len; simpa using this
        have mxt : nt ≤ 9223372036854775807 := Nat.le_trans HT.cap HT.max
        go_wp2_with fail
        go_loopw [14] (fun v14 wr => ∃ i : Nat, i ≤ nt ∧ v14 = .int .i64 i ∧ (∀ (q : Nat) t, q < i → lt[q]? = some t → ¬ (uniT L off t = T ∧ m = t.save ∧ s = t.letter)) ∧ TnV wr B nt ct lt ∧ Below w.heap.size w wr) (fun v _ => nt - (intOf v).toNat)
        case atStart => exact ⟨0, by omega, rfl, fun q t h => absurd h (by omega), HT, hb⟩
        case round =>
          clear hb HT
          obtain ⟨i, hi, rfl, hS, HT, hb⟩ := hrel
          have HS := Lib.hid hS
          clear hS
          by_cases h6 : i < nt
          · obtain ⟨t, ht⟩ : ∃ t, lt[i]? = some t := ⟨_, List.getElem?_eq_getElem (by omega)⟩
            obtain ⟨g, o, rfl, hg, _, z0, z1, z2, z3⟩ := usT_rows HT ht
            obtain ⟨⟨a1, a2⟩, r1, r2⟩ := SM.out i t ht
            have sv := aheadSave_in FIT.out t.at_
            rw [aheadSave_lit] at sv
            have STEP := Lib.hid (show ¬ (uniT L off t = T ∧ m = t.save ∧ s = t.letter) → ∀ (q : Nat) u, q < i + 1 → lt[q]? = some u → ¬ (uniT L off u = T ∧ m = u.save ∧ s = u.letter) from fun h q u hq hu => by
              by_cases e : q = i
              · subst e; rw [ht] at hu; cases hu; exact h
              · exact HS.out q u (by omega) hu)
            have AT := fun W h q => AH.out t.at_ (by unfold In64; omega) W h q
            have eu : uniT L off t = (if t.re = 2 then t.at_ else if t.re = 1 then t.at_ - off else t.at_ - off - ((aheadO L t.at_).getD Tn.zero).save) := by rw [← aheadSave_lit]; rfl
            rw [eu] at STEP
            obtain ⟨⟨a0', a1', sv0, al'⟩, hq⟩ : ∃ q, q = (aheadO L t.at_).getD Tn.zero := ⟨_, rfl⟩
            obtain ⟨f, hf⟩ : ∃ f, f = (aheadO L t.at_).isSome := ⟨_, rfl⟩
            rw [← hq] at STEP
            rw [← hq] at sv
            replace AT := fun W h q => (AT W h q).mono (fun _ _ r => RetTB.wide hq hf r)
            clear eu ht HS hq hf
            obtain ⟨ta, tr, ts, tl⟩ := t
            simp only at a1 a2 r1 r2 sv z0 z1 z2 z3 AT STEP
            replace AT := Lib.hid AT
            have b0 : (0 : Int) ≤ (i : Int) := by omega
            have b1 : (i : Int) < (nt : Int) := by omega
            rcases (by omega : tr = 2 ∨ tr = 1 ∨ tr = 0) with rfl | rfl | rfl
            · rw [if_pos rfl] at STEP
              obtain ⟨uu, hu⟩ : ∃ uu, uu = ta := ⟨_, rfl⟩
              rw [← hu] at STEP
              go_upto_region 21 with (fail)
              rw [← hu]
              clear hu AT
              by_cases g1 : uu = T
              · have e3 : (uu == T) = true := by simp [g1]
                by_cases g2 : m = ts
                · have e4 : (m == ts) = true := by simp [g2]
                  by_cases g3 : s = tl
                  · have e5 : (s.toList == tl.toList) = true := by rw [toList_beq]; exact decide_eq_true g3
                    clear STEP g1 g2 g3
                    go_wp2_with (go_at_call 9; refine (AL.out _ (MO.out _ _ LQ hb)).mono ?_; clear AL; rintro e w7 ⟨rfl, k7⟩; replace hb := below_thru hb k7; clear k7)
                    go_ret
                    exact ⟨rfl, hb⟩
                  · have e5 : (s.toList == tl.toList) = false := by rw [toList_beq]; exact decide_eq_false g3
                    have ST := Lib.hid (STEP.out (fun x => g3 x.2.2))
                    clear STEP g1 g2 g3
                    go_wp2
                    go_roundw
                    case rel => exact ⟨i + 1, by omega, int_eqS (by omega), ST.out, HT, hb⟩
                    case measure => simp only [intOf]; omega
                · have e4 : (m == ts) = false := beq_false_of_ne g2
                  have ST := Lib.hid (STEP.out (fun x => g2 x.2.1))
                  clear STEP g1 g2
                  go_wp2
                  go_roundw
                  case rel => exact ⟨i + 1, by omega, int_eqS (by omega), ST.out, HT, hb⟩
                  case measure => simp only [intOf]; omega
              · have e3 : (uu == T) = false := beq_false_of_ne g1
                have ST := Lib.hid (STEP.out (fun x => g1 x.1))
                clear STEP g1
                go_wp2
                go_roundw
                case rel => exact ⟨i + 1, by omega, int_eqS (by omega), ST.out, HT, hb⟩
                case measure => simp only [intOf]; omega
            · rw [if_neg (by decide), if_pos rfl] at STEP
              obtain ⟨uu, hu⟩ : ∃ uu, uu = ta - off := ⟨_, rfl⟩
              rw [← hu] at STEP
              go_upto_region 21 with (fail)
              rw [← hu]
              clear hu AT
              by_cases g1 : uu = T
              · have e3 : (uu == T) = true := by simp [g1]
                by_cases g2 : m = ts
                · have e4 : (m == ts) = true := by simp [g2]
                  by_cases g3 : s = tl
                  · have e5 : (s.toList == tl.toList) = true := by rw [toList_beq]; exact decide_eq_true g3
                    clear STEP g1 g2 g3
                    go_wp2_with (go_at_call 9; refine (AL.out _ (MO.out _ _ LQ hb)).mono ?_; clear AL; rintro e w7 ⟨rfl, k7⟩; replace hb := below_thru hb k7; clear k7)
                    go_ret
                    exact ⟨rfl, hb⟩
                  · have e5 : (s.toList == tl.toList) = false := by rw [toList_beq]; exact decide_eq_false g3
                    have ST := Lib.hid (STEP.out (fun x => g3 x.2.2))
                    clear STEP g1 g2 g3
                    go_wp2
                    go_roundw
                    case rel => exact ⟨i + 1, by omega, int_eqS (by omega), ST.out, HT, hb⟩
                    case measure => simp only [intOf]; omega
                · have e4 : (m == ts) = false := beq_false_of_ne g2
                  have ST := Lib.hid (STEP.out (fun x => g2 x.2.1))
                  clear STEP g1 g2
                  go_wp2
                  go_roundw
                  case rel => exact ⟨i + 1, by omega, int_eqS (by omega), ST.out, HT, hb⟩
                  case measure => simp only [intOf]; omega
              · have e3 : (uu == T) = false := beq_false_of_ne g1
                have ST := Lib.hid (STEP.out (fun x => g1 x.1))
                clear STEP g1
                go_wp2
                go_roundw
                case rel => exact ⟨i + 1, by omega, int_eqS (by omega), ST.out, HT, hb⟩
                case measure => simp only [intOf]; omega
            · rw [if_neg (by decide), if_neg (by decide)] at STEP
              obtain ⟨uu, hu⟩ : ∃ uu, uu = ta - off - sv0 := ⟨_, rfl⟩
              rw [← hu] at STEP
              go_upto_region 20 with (go_at_call 19; refine (AT.out _ (HA.out.below hb) (MO.out _ _ LQ hb)).mono ?_; clear AT; rintro e w5 ⟨rfl, k5⟩; replace hb := below_thru hb k5; replace HT := Rs.below HT k5; have y0 := (k5.cell (p := ⟨g, o + i * 4, none⟩) hg).trans z0; have y1 := (k5.cell (p := ⟨g, o + i * 4 + 1, none⟩) hg).trans z1; have y2 := (k5.cell (p := ⟨g, o + i * 4 + 2, none⟩) hg).trans z2; have y3 := (k5.cell (p := ⟨g, o + i * 4 + 3, none⟩) hg).trans z3; replace hg := Nat.lt_of_lt_of_le hg k5.size; clear k5 z0 z1 z2 z3)
              have KN := Blk.new4 w5 (.int .i64 a0') (.int .i64 a1') (.int .i64 sv0) (.string al') 35
              have k6 := below_box w5 (.cells #[.int .i64 a0', .int .i64 a1', .int .i64 sv0, .string al'] 35)
              replace hb := below_thru hb k6
              replace HT := Rs.below HT k6
              have z0 := (k6.cell (p := ⟨g, o + i * 4, none⟩) hg).trans y0
              have z1 := (k6.cell (p := ⟨g, o + i * 4 + 1, none⟩) hg).trans y1
              have z2 := (k6.cell (p := ⟨g, o + i * 4 + 2, none⟩) hg).trans y2
              have z3 := (k6.cell (p := ⟨g, o + i * 4 + 3, none⟩) hg).trans y3
              clear k6 y0 y1 y2 y3 hg
              generalize w5.alloc (.cells #[.int .i64 a0', .int .i64 a1', .int .i64 sv0, .string al'] 35) = w6 at *
              generalize w5.heap.size = q at *
              obtain ⟨_, n0, n1, n2, n3, _⟩ := KN.four
              go_upto_region 21 with (fail)
              rw [← hu]
              clear hu
              by_cases g1 : uu = T
              · have e3 : (uu == T) = true := by simp [g1]
                by_cases g2 : m = ts
                · have e4 : (m == ts) = true := by simp [g2]
                  by_cases g3 : s = tl
                  · have e5 : (s.toList == tl.toList) = true := by rw [toList_beq]; exact decide_eq_true g3
                    clear STEP g1 g2 g3
                    go_wp2_with (go_at_call 9; refine (AL.out _ (MO.out _ _ LQ hb)).mono ?_; clear AL; rintro e w7 ⟨rfl, k7⟩; replace hb := below_thru hb k7; clear k7)
                    go_ret
                    exact ⟨rfl, hb⟩
                  · have e5 : (s.toList == tl.toList) = false := by rw [toList_beq]; exact decide_eq_false g3
                    have ST := Lib.hid (STEP.out (fun x => g3 x.2.2))
                    clear STEP g1 g2 g3
                    go_wp2
                    go_roundw
                    case rel => exact ⟨i + 1, by omega, int_eqS (by omega), ST.out, HT, hb⟩
                    case measure => simp only [intOf]; omega
                · have e4 : (m == ts) = false := beq_false_of_ne g2
                  have ST := Lib.hid (STEP.out (fun x => g2 x.2.1))
                  clear STEP g1 g2
                  go_wp2
                  go_roundw
                  case rel => exact ⟨i + 1, by omega, int_eqS (by omega), ST.out, HT, hb⟩
                  case measure => simp only [intOf]; omega
              · have e3 : (uu == T) = false := beq_false_of_ne g1
                have ST := Lib.hid (STEP.out (fun x => g1 x.1))
                clear STEP g1
                go_wp2
                go_roundw
                case rel => exact ⟨i + 1, by omega, int_eqS (by omega), ST.out, HT, hb⟩
                case measure => simp only [intOf]; omega
          · obtain rfl : i = nt := by omega
            have ST := Lib.hid (ALL.out (fun q t h => HS.out q t (by have := (List.getElem?_eq_some_iff.1 h).1; omega) h))
            clear ALL HS
            go_wp2
            go_roundw
            case rel => exact ⟨k + 1, by first | rfl | exact int_eqS (by omega), by omega, by omega, ST.out, hb⟩
            case measure => simp only [intOf]; omega
      · exfalso
        obtain ⟨y, t, q1, q2, q3, q4⟩ := GOAL.out
        exact HR.out y q1 (by omega) t q3 q4
end Go.Proofs.YtkkdclibbdeejaaDoor
