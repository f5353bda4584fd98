/- Stage 11's laws: where no two are near, behind a turn's universal time its saving is in force till the next one's. -/
import Derived.Test.YtkkdclibbdeejaaDoorZElls
namespace Go.Proofs.YtkkdclibbdeejaaDoor
open Go.RowKit
structure RoW11 (w : World) (q : Nat) (a : List Value) (X : World) : Prop where
  hb : Below w.heap.size w X
  ka : Blk X q a
theorem RoW11.below {w : World} {q : Nat} {a : List Value} {X X' : World} (h : RoW11 w q a X) (k : Below X.heap.size X X') : RoW11 w q a X' := ⟨below_thru h.hb k, h.ka.below k⟩
theorem tmodE_in (a : Int) {n : Nat} (h : 0 < n) : -(n : Int) < a.tmod n ∧ a.tmod n < n := by
  have h1 := Int.tmod_lt_of_pos a (show (0 : Int) < n by omega)
  have h2 := Int.tmod_lt_of_pos (-a) (show (0 : Int) < n by omega)
  rw [Int.neg_tmod] at h2
  omega
set_option maxRecDepth 100000 in
set_option maxHeartbeats 8000000 in
theorem tellsL11 {M : Nat} {Q : World → Prop} (hM : 12 ≤ M) (C : RulesQ M Q) (A : Option Addr) (n c : Nat) (L : List Rl) (off year which : Int) (w : World) (hm : RulV w A n c L) (_hi : in64L L) (ho : In64 off) (_hy : In64 year) (_hw : In64 which) (LQ : Q w) : Calls Tryd.prog 8 #[.slice A n c, .int .i64 off, .int .i64 year, .int .i64 which] w (RetV w (.bool true)) := by
  have mx : n ≤ 9223372036854775807 := Nat.le_trans hm.cap hm.max
  have MO := Lib.hid C.mono
  have AL := Lib.hid (alive11 (by omega) C)
  by_cases big : 12 < n
  · have d0 : decide ((12 : Int) < (n : Int)) = true := decide_eq_true (by omega)
    clear C
    go_enter Tryd.func8, Tryd.ntmps8
    go_wp2_with (go_at_call 9; refine (AL.out _ LQ).mono ?_; clear AL; rintro e w1 ⟨rfl, h1⟩)
    go_ret
    exact ⟨rfl, h1⟩
  have d0 : decide ((12 : Int) < (n : Int)) = false := decide_eq_false (by omega)
  by_cases o1 : off ≤ -86400
  · have d3 : decide (off ≤ -86400) = true := decide_eq_true o1
    clear C
    go_enter Tryd.func8, Tryd.ntmps8
    go_wp2_with (go_at_call 9; refine (AL.out _ LQ).mono ?_; clear AL; rintro e w1 ⟨rfl, h1⟩)
    go_ret
    exact ⟨rfl, h1⟩
  have d3 : decide (off ≤ -86400) = false := decide_eq_false o1
  by_cases o2 : 86400 ≤ off
  · have d4 : decide (86400 ≤ off) = true := decide_eq_true o2
    clear C
    go_enter Tryd.func8, Tryd.ntmps8
    go_wp2_with (go_at_call 9; refine (AL.out _ LQ).mono ?_; clear AL; rintro e w1 ⟨rfl, h1⟩)
    go_ret
    exact ⟨rfl, h1⟩
  have d4 : decide (86400 ≤ off) = false := decide_eq_false o2
  by_cases y1 : year < 1
  · have d1 : decide (year < 1) = true := decide_eq_true y1
    clear C
    go_enter Tryd.func8, Tryd.ntmps8
    go_wp2_with (go_at_call 9; refine (AL.out _ LQ).mono ?_; clear AL; rintro e w1 ⟨rfl, h1⟩)
    go_ret
    exact ⟨rfl, h1⟩
  have d1 : decide (year < 1) = false := decide_eq_false y1
  by_cases y2 : 12000 < year
  · have d2 : decide (12000 < year) = true := decide_eq_true y2
    clear C
    go_enter Tryd.func8, Tryd.ntmps8
    go_wp2_with (go_at_call 9; refine (AL.out _ LQ).mono ?_; clear AL; rintro e w1 ⟨rfl, h1⟩)
    go_ret
    exact ⟨rfl, h1⟩
  have d2 : decide (12000 < year) = false := decide_eq_false y2
  have HA := Lib.hid hm
  have FO := Lib.hid (fun T (hT : In64 T) W (h : RulV W A n c L) q => C.force A n c L off T ho hT W h q)
  have TU := Lib.hid (fun y W (h : RulV W A n c L) q => C.turns A n c L y W h (by omega) q)
  have AH := Lib.hid (fun a ha W (h : RulV W A n c L) q => C.ahead A n c L a ha W h q)
  have TY := Lib.hid (fun W (h : RulV W A n c L) q => TU.out year W h q)
  clear C hm
  obtain ⟨lt, hlt⟩ : ∃ lt, lt = turnsR L year := ⟨_, rfl⟩
  rw [← hlt] at TY
  have FITT : lt ≠ [] → fitB L = true := fun h => by
    apply Classical.byContradiction
    intro k
    refine h ?_
    rw [hlt]
    unfold turnsR
    rw [if_neg k]
  go_enter Tryd.func8, Tryd.ntmps8
  go_upto_region 4 with (go_at_call 10; refine (TY.out _ HA.out LQ).mono ?_; clear TY; rintro e w4 ⟨B, nt, ct, rfl, HT, hb⟩)
  have lnt : lt.length = nt := by have := HT.len; simpa using this
  have mxt : nt ≤ 9223372036854775807 := Nat.le_trans HT.cap HT.max
  by_cases h0 : nt = 0
  · subst h0
    go_wp2_with (go_at_call 9; refine (AL.out _ (MO.out _ _ LQ hb)).mono ?_; clear AL; rintro e w7 ⟨rfl, k7⟩; replace hb := below_thru hb k7; clear k7)
    go_ret
    exact ⟨rfl, hb⟩
  have hf := FITT (by intro h; rw [h] at lnt; exact h0 lnt.symm)
  have FIT := Lib.hid (fit_yes.1 hf)
  have TE : ∀ y, turnsR L y = turnsL L y := fun y => by unfold turnsR; rw [if_pos hf]
  have AE : ∀ a, aheadR L a = aheadO L a := fun a => by unfold aheadR; rw [if_pos hf]
  have FE : ∀ T, forceF L off T = forceR L off T := fun T => by unfold forceF; rw [if_pos ⟨hf, by omega, by omega⟩]
  replace TU := Lib.hid (fun y W h q => (TE y ▸ TU.out y W h q : Calls Tryd.prog 10 #[.slice A n c, .int .i64 y] W (RetTn W (turnsL L y))))
  replace AH := Lib.hid (fun a ha W h q => (AE a ▸ AH.out a ha W h q : Calls Tryd.prog 19 #[.slice A n c, .int .i64 a] W (RetTB W (aheadO L a))))
  replace FO := Lib.hid (fun T hT W h q => (FE T ▸ FO.out T hT W h q : Calls Tryd.prog 21 #[.slice A n c, .int .i64 off, .int .i64 T] W (RetIS W (forceR L off T))))
  rw [TE] at hlt
  have tb := tmodE_in which (show 0 < nt by omega)
  have tb1 := tb.1
  have tb2 := tb.2
  have n0 : ¬ (nt : Int) = 0 := by omega
  have n00 : ((nt : Int) == 0) = false := beq_false_of_ne n0
  clear FITT TE AE FE hf tb
  go_upto_region 7 with (fail)
  obtain ⟨q, hq⟩ : ∃ q, q = which.tmod nt := ⟨_, rfl⟩
  rw [← hq] at tb1 tb2 ⊢
  clear hq
  have HLT := Lib.hid hlt
  clear hlt
  by_cases hneg : q < 0
  · have dn : decide (q < 0) = true := decide_eq_true hneg
    obtain ⟨kk, hkk⟩ : ∃ kk : Nat, (kk : Int) = q + nt := ⟨(q + nt).toNat, by omega⟩
    go_upto_region 9 with (fail)
    rw [← hkk]
    have hkn : kk < nt := by omega
    clear hkk hneg dn tb1 tb2
    obtain ⟨t, ht⟩ : ∃ t, lt[kk]? = some t := ⟨_, List.getElem?_eq_getElem (by omega)⟩
    obtain ⟨g, o, rfl, hg, _, z0, z1, z2, z3⟩ := usT_rows HT ht
    have htL : (turnsL L year)[kk]? = some t := by rw [← HLT.out]; exact ht
    obtain ⟨sm1, sm2⟩ : (-100000000000 ≤ t.at_ ∧ t.at_ ≤ 10000000000000) ∧ (0 ≤ t.re ∧ t.re ≤ 2) := by
      obtain ⟨j, x, hx, tx, rfl⟩ := turnsL_mem.1 (List.mem_of_getElem? htL)
      exact ⟨turn_small11 tx, (turn_fit FIT.out ⟨x, hx, tx, rfl⟩).2⟩
    obtain ⟨a1, a2⟩ := sm1
    obtain ⟨r1, r2⟩ := sm2
    have TELL := Lib.hid (fun far m h1 h2 => force_tells FIT.out (off := off) (by omega) (by omega) htL far m h1 h2)
    have UN := uniT_near FIT.out (off := off) (by omega) (by omega) t
    have sv := aheadSave_in FIT.out t.at_
    rw [aheadSave_lit] at sv
    have AT := fun W h q => AH.out t.at_ (by unfold In64; omega) W h q
    have eu : uniT L off t = (if t.re = 2 then t.at_ else if t.re = 1 then t.at_ - off else t.at_ - off - ((aheadO L t.at_).getD Tn.zero).save) := by rw [← aheadSave_lit]; rfl
    obtain ⟨⟨a0', a1', sv0, al'⟩, hq⟩ : ∃ q, q = (aheadO L t.at_).getD Tn.zero := ⟨_, rfl⟩
    obtain ⟨f, hf⟩ : ∃ f, f = (aheadO L t.at_).isSome := ⟨_, rfl⟩
    rw [← hq] at eu sv
    replace AT := fun W h q => (AT W h q).mono (fun _ _ r => RetTB.wide hq hf r)
    replace AT := Lib.hid AT
    have EU := Lib.hid eu
    clear eu hq hf htL ht AH
    obtain ⟨ta, tr, ts, tl⟩ := t
    simp only at a1 a2 r1 r2 sv z0 z1 z2 z3
    have b0 : (0 : Int) ≤ (kk : Int) := by omega
    have b1 : (kk : Int) < (nt : Int) := by omega
    go_upto_region 10 with (fail)
    have HW : RoW11 w w4.heap.size [.int .i64 ta, .int .i64 tr, .int .i64 ts, .string tl] (w4.alloc (.cells #[.int .i64 ta, .int .i64 tr, .int .i64 ts, .string tl] 35)) := ⟨below_thru hb (below_box w4 _), Blk.new4 w4 (.int .i64 ta) (.int .i64 tr) (.int .i64 ts) (.string tl) 35⟩
    generalize w4.alloc (.cells #[.int .i64 ta, .int .i64 tr, .int .i64 ts, .string tl] 35) = W4 at *
    generalize w4.heap.size = q4 at *
    clear z0 z1 z2 z3 hg HT hb
    go_wp2_with fail
    go_loopw [12] (fun v12 wr => ∃ z : Int, v12 = .int .i64 z ∧ year - 1 ≤ z ∧ z ≤ year + 2 ∧ (∀ z', year - 1 ≤ z' → z' < z → ∀ (q : Nat) u, (turnsL L z')[q]? = some u → (z' ≠ year ∨ q ≠ kk) → 172800 ≤ u.at_ - ta ∨ u.at_ - ta ≤ -172800) ∧ RoW11 w q4 [.int .i64 ta, .int .i64 tr, .int .i64 ts, .string tl] wr) (fun v _ => (year + 2 - intOf v).toNat)
    case atStart => exact ⟨year - 1, by first | rfl | exact int_eqS (by omega), Int.le_refl _, by omega, fun z' h1 h2 => absurd h2 (by omega), HW⟩
    case round =>
      clear HW
      obtain ⟨z, rfl, k1, k2, hR, HW⟩ := hrel
      have HR := Lib.hid hR
      clear hR
      by_cases h5 : z ≤ year + 1
      · have TK := Lib.hid (fun W h q => TU.out z W h q)
        obtain ⟨lu, hlu⟩ : ∃ lu, lu = turnsL L z := ⟨_, rfl⟩
        rw [← hlu] at TK
        have SM := Lib.hid (show ∀ (i : Nat) t, lu[i]? = some t → (-100000000000 ≤ t.at_ ∧ t.at_ ≤ 10000000000000) from fun i t h => by
          obtain ⟨j, x, hx, tx, rfl⟩ := turnsL_mem.1 (show t ∈ turnsL L z by rw [← hlu]; exact List.mem_of_getElem? h)
          exact turn_small11 tx)
        have ALL := Lib.hid (show (∀ (q : Nat) u, lu[q]? = some u → (z ≠ year ∨ q ≠ kk) → 172800 ≤ u.at_ - ta ∨ u.at_ - ta ≤ -172800) → ∀ z', year - 1 ≤ z' → z' < z + 1 → ∀ (q : Nat) u, (turnsL L z')[q]? = some u → (z' ≠ year ∨ q ≠ kk) → 172800 ≤ u.at_ - ta ∨ u.at_ - ta ≤ -172800 from fun h z' a b q u hq => by
          by_cases e : z' = z
          · subst e
            rw [← hlu] at hq
            exact h q u hq
          · exact HR.out z' a (by omega) q u hq)
        clear hlu HR
        go_upto_region 14 with (go_at_call 10; refine (TK.out _ (HA.out.below HW.hb) (MO.out _ _ LQ HW.hb)).mono ?_; clear TK; rintro e w4 ⟨B, nu, cu, rfl, HT, k4⟩; replace HW := HW.below k4; clear k4)
        have lnu : lu.length = nu := by have := HT.len; simpa using this
        have mxu : nu ≤ 9223372036854775807 := Nat.le_trans HT.cap HT.max
        go_wp2_with fail
        go_loopw [14] (fun v14 wr => ∃ j : Nat, j ≤ nu ∧ v14 = .int .i64 j ∧ (∀ (q : Nat) u, q < j → lu[q]? = some u → (z ≠ year ∨ q ≠ kk) → 172800 ≤ u.at_ - ta ∨ u.at_ - ta ≤ -172800) ∧ TnV wr B nu cu lu ∧ RoW11 w q4 [.int .i64 ta, .int .i64 tr, .int .i64 ts, .string tl] wr) (fun v _ => nu - (intOf v).toNat)
        case atStart => exact ⟨0, by omega, rfl, fun q t h => absurd h (by omega), HT, HW⟩
        case round =>
          clear HW HT
          obtain ⟨j, hj, rfl, hS, HT, HW⟩ := hrel
          have HS := Lib.hid hS
          clear hS
          by_cases h6 : j < nu
          · obtain ⟨u, hu⟩ : ∃ u, lu[j]? = some u := ⟨_, List.getElem?_eq_getElem (by omega)⟩
            obtain ⟨g', o', rfl, hg', _, z0, z1, z2, z3⟩ := usT_rows HT hu
            obtain ⟨e1, e2⟩ := SM.out j u hu
            have STEP := Lib.hid (show ((z ≠ year ∨ j ≠ kk) → 172800 ≤ u.at_ - ta ∨ u.at_ - ta ≤ -172800) → ∀ (q : Nat) v, q < j + 1 → lu[q]? = some v → (z ≠ year ∨ q ≠ kk) → 172800 ≤ v.at_ - ta ∨ v.at_ - ta ≤ -172800 from fun h q v hq hv => by
              by_cases e : q = j
              · subst e; rw [hu] at hv; cases hv; exact h
              · exact HS.out q v (by omega) hv)
            clear hu HS
            obtain ⟨ua, ur, us, ul⟩ := u
            simp only at e1 e2 z0 z1 z2 z3 STEP
            have b2 : (0 : Int) ≤ (j : Int) := by omega
            have b3 : (j : Int) < (nu : Int) := by omega
            obtain ⟨_, x0, x1, x2, x3, _⟩ := HW.ka.four
            go_upto_region 17 with (fail)
            go_quiet (fail)
            rename_i nq
            have kq := below_drewN (Below.refl wr.heap.size wr) nq
            replace HW := HW.below kq
            replace HT := Rs.below HT kq
            generalize wr.drewN nq = wr2 at *
            clear z0 z1 z2 z3 x0 x1 x2 x3 hg' kq
            by_cases c1 : ua - ta < 172800
            · have f1 : decide (ua - ta < 172800) = true := decide_eq_true c1
              by_cases c2 : -172800 < ua - ta
              · have f2 : decide (-172800 < ua - ta) = true := decide_eq_true c2
                by_cases c3 : z = year
                · have f3 : (z != year) = false := by simp [c3]
                  by_cases c4 : j = kk
                  · have f4 : ((j : Int) != (kk : Int)) = false := by simp [c4]
                    have ST := Lib.hid (STEP.out (fun x => by omega))
                    clear STEP
                    go_wp2
                    go_roundw
                    case rel => exact ⟨j + 1, by omega, int_eqS (by omega), ST.out, HT, HW⟩
                    case measure => simp only [intOf]; omega
                  · have f4 : ((j : Int) != (kk : Int)) = true := by simp; omega
                    clear STEP
                    go_wp2_with (go_at_call 9; refine (AL.out _ (MO.out _ _ LQ HW.hb)).mono ?_; clear AL; rintro e w7 ⟨rfl, k7⟩; have hb7 := below_thru HW.hb k7; clear k7)
                    go_ret
                    exact ⟨rfl, hb7⟩
                · have f3 : (z != year) = true := by simp [c3]
                  clear STEP
                  go_wp2_with (go_at_call 9; refine (AL.out _ (MO.out _ _ LQ HW.hb)).mono ?_; clear AL; rintro e w7 ⟨rfl, k7⟩; have hb7 := below_thru HW.hb k7; clear k7)
                  go_ret
                  exact ⟨rfl, hb7⟩
              · have f2 : decide (-172800 < ua - ta) = false := decide_eq_false c2
                have ST := Lib.hid (STEP.out (fun _ => by omega))
                clear STEP
                go_wp2
                go_roundw
                case rel => exact ⟨j + 1, by omega, int_eqS (by omega), ST.out, HT, HW⟩
                case measure => simp only [intOf]; omega
            · have f1 : decide (ua - ta < 172800) = false := decide_eq_false c1
              have ST := Lib.hid (STEP.out (fun _ => by omega))
              clear STEP
              go_wp2
              go_roundw
              case rel => exact ⟨j + 1, by omega, int_eqS (by omega), ST.out, HT, HW⟩
              case measure => simp only [intOf]; omega
          · obtain rfl : j = nu := by omega
            have ST := Lib.hid (ALL.out (fun q t h => HS.out q t (by have := (List.getElem?_eq_some_iff.1 h).1; omega) h))
            clear ALL HS
            go_wp2
            go_roundw
            case rel => exact ⟨z + 1, by first | rfl | exact int_eqS (by omega), by omega, by omega, ST.out, HW⟩
            case measure => simp only [intOf]; omega
      · have FAR := HR.out
        have U0 := TELL.out (fun z h1 h2 q u h3 h4 => FAR z h1 (by omega) q u h3 h4) 0 (by decide) (by decide)
        have U1 := TELL.out (fun z h1 h2 q u h3 h4 => FAR z h1 (by omega) q u h3 h4) 3599 (by decide) (by decide)
        have UB := UN
        rw [Int.add_zero] at U0
        rw [EU.out] at U0 U1 UB
        try simp only at U0 U1 UB
        clear TELL HR FAR UN EU
        obtain ⟨_, x0, x1, x2, x3, _⟩ := HW.ka.four
        rcases (by omega : tr = 2 ∨ tr = 1 ∨ tr = 0) with rfl | rfl | rfl
        · rw [if_pos rfl] at U0 U1 UB
          obtain ⟨uu, hu⟩ : ∃ uu, uu = ta := ⟨_, rfl⟩
          rw [← hu] at U0 U1 UB
          have ub1 : -200000000000 ≤ uu := by omega
          have ub2 : uu ≤ 20000000000000 := by omega
          have F0 := Lib.hid (fun W h q => (U0 ▸ FO.out uu (by unfold In64; omega) W h q : Calls Tryd.prog 21 #[.slice A n c, .int .i64 off, .int .i64 uu] W (RetIS W (ts, tl))))
          have F1 := Lib.hid (fun W h q => (U1 ▸ FO.out (uu + 3599) (by unfold In64; omega) W h q : Calls Tryd.prog 21 #[.slice A n c, .int .i64 off, .int .i64 (uu + 3599)] W (RetIS W (ts, tl))))
          clear U0 U1
          go_upto_region 24 with (first | (go_at_call 19; refine (AT.out _ (HA.out.below HW.hb) (MO.out _ _ LQ HW.hb)).mono ?_; clear AT; rintro e w5 ⟨rfl, k5⟩; replace HW := HW.below k5; clear k5 x0 x1 x2 x3))
          have KN := Blk.new4 w5 (.int .i64 a0') (.int .i64 a1') (.int .i64 sv0) (.string al') 35
          replace HW := HW.below (below_box w5 (.cells #[.int .i64 a0', .int .i64 a1', .int .i64 sv0, .string al'] 35))
          generalize w5.alloc (.cells #[.int .i64 a0', .int .i64 a1', .int .i64 sv0, .string al'] 35) = w6 at *
          generalize w5.heap.size = q5 at *
          obtain ⟨_, c0, c1, c2, c3, _⟩ := KN.four
          obtain ⟨_, x0, x1, x2, x3, _⟩ := HW.ka.four
          go_upto_region 26 with (fail)
          rw [← hu]
          clear hu KN c0 c1 c2 c3 x0 x1 x2 x3
          go_wp2_with (first
            | (go_at_call 21; (with_reducible refine (F0.out _ (HA.out.below HW.hb) (MO.out _ _ LQ HW.hb)).mono ?_); clear F0; rintro e w8 ⟨rfl, k8⟩; replace HW := HW.below k8; clear k8)
            | (go_at_call 21; (with_reducible refine (F1.out _ (HA.out.below HW.hb) (MO.out _ _ LQ HW.hb)).mono ?_); clear F1; rintro e w9 ⟨rfl, k9⟩; replace HW := HW.below k9; clear k9)
            | (go_at_call 9; refine (AL.out _ (MO.out _ _ LQ HW.hb)).mono ?_; clear AL; rintro e w7 ⟨rfl, k7⟩; replace HW := HW.below k7; clear k7; obtain ⟨_, x0, x1, x2, x3, _⟩ := HW.ka.four))
          go_ret
          exact ⟨rfl, HW.hb⟩
        · rw [if_neg (by decide), if_pos rfl] at U0 U1 UB
          obtain ⟨uu, hu⟩ : ∃ uu, uu = ta - off := ⟨_, rfl⟩
          rw [← hu] at U0 U1 UB
          have ub1 : -200000000000 ≤ uu := by omega
          have ub2 : uu ≤ 20000000000000 := by omega
          have F0 := Lib.hid (fun W h q => (U0 ▸ FO.out uu (by unfold In64; omega) W h q : Calls Tryd.prog 21 #[.slice A n c, .int .i64 off, .int .i64 uu] W (RetIS W (ts, tl))))
          have F1 := Lib.hid (fun W h q => (U1 ▸ FO.out (uu + 3599) (by unfold In64; omega) W h q : Calls Tryd.prog 21 #[.slice A n c, .int .i64 off, .int .i64 (uu + 3599)] W (RetIS W (ts, tl))))
          clear U0 U1
          go_upto_region 24 with (first | (go_at_call 19; refine (AT.out _ (HA.out.below HW.hb) (MO.out _ _ LQ HW.hb)).mono ?_; clear AT; rintro e w5 ⟨rfl, k5⟩; replace HW := HW.below k5; clear k5 x0 x1 x2 x3))
          have KN := Blk.new4 w5 (.int .i64 a0') (.int .i64 a1') (.int .i64 sv0) (.string al') 35
          replace HW := HW.below (below_box w5 (.cells #[.int .i64 a0', .int .i64 a1', .int .i64 sv0, .string al'] 35))
          generalize w5.alloc (.cells #[.int .i64 a0', .int .i64 a1', .int .i64 sv0, .string al'] 35) = w6 at *
          generalize w5.heap.size = q5 at *
          obtain ⟨_, c0, c1, c2, c3, _⟩ := KN.four
          obtain ⟨_, x0, x1, x2, x3, _⟩ := HW.ka.four
          go_upto_region 26 with (fail)
          rw [← hu]
          clear hu KN c0 c1 c2 c3 x0 x1 x2 x3
          go_wp2_with (first
            | (go_at_call 21; (with_reducible refine (F0.out _ (HA.out.below HW.hb) (MO.out _ _ LQ HW.hb)).mono ?_); clear F0; rintro e w8 ⟨rfl, k8⟩; replace HW := HW.below k8; clear k8)
            | (go_at_call 21; (with_reducible refine (F1.out _ (HA.out.below HW.hb) (MO.out _ _ LQ HW.hb)).mono ?_); clear F1; rintro e w9 ⟨rfl, k9⟩; replace HW := HW.below k9; clear k9)
            | (go_at_call 9; refine (AL.out _ (MO.out _ _ LQ HW.hb)).mono ?_; clear AL; rintro e w7 ⟨rfl, k7⟩; replace HW := HW.below k7; clear k7; obtain ⟨_, x0, x1, x2, x3, _⟩ := HW.ka.four))
          go_ret
          exact ⟨rfl, HW.hb⟩
        · rw [if_neg (by decide), if_neg (by decide)] at U0 U1 UB
          obtain ⟨uu, hu⟩ : ∃ uu, uu = ta - off - sv0 := ⟨_, rfl⟩
          rw [← hu] at U0 U1 UB
          have ub1 : -200000000000 ≤ uu := by omega
          have ub2 : uu ≤ 20000000000000 := by omega
          have F0 := Lib.hid (fun W h q => (U0 ▸ FO.out uu (by unfold In64; omega) W h q : Calls Tryd.prog 21 #[.slice A n c, .int .i64 off, .int .i64 uu] W (RetIS W (ts, tl))))
          have F1 := Lib.hid (fun W h q => (U1 ▸ FO.out (uu + 3599) (by unfold In64; omega) W h q : Calls Tryd.prog 21 #[.slice A n c, .int .i64 off, .int .i64 (uu + 3599)] W (RetIS W (ts, tl))))
          clear U0 U1
          go_upto_region 24 with (first | (go_at_call 19; refine (AT.out _ (HA.out.below HW.hb) (MO.out _ _ LQ HW.hb)).mono ?_; clear AT; rintro e w5 ⟨rfl, k5⟩; replace HW := HW.below k5; clear k5 x0 x1 x2 x3))
          have KN := Blk.new4 w5 (.int .i64 a0') (.int .i64 a1') (.int .i64 sv0) (.string al') 35
          replace HW := HW.below (below_box w5 (.cells #[.int .i64 a0', .int .i64 a1', .int .i64 sv0, .string al'] 35))
          generalize w5.alloc (.cells #[.int .i64 a0', .int .i64 a1', .int .i64 sv0, .string al'] 35) = w6 at *
          generalize w5.heap.size = q5 at *
          obtain ⟨_, c0, c1, c2, c3, _⟩ := KN.four
          obtain ⟨_, x0, x1, x2, x3, _⟩ := HW.ka.four
          go_upto_region 26 with (fail)
          rw [← hu]
          clear hu KN c0 c1 c2 c3 x0 x1 x2 x3
          go_wp2_with (first
            | (go_at_call 21; (with_reducible refine (F0.out _ (HA.out.below HW.hb) (MO.out _ _ LQ HW.hb)).mono ?_); clear F0; rintro e w8 ⟨rfl, k8⟩; replace HW := HW.below k8; clear k8)
            | (go_at_call 21; (with_reducible refine (F1.out _ (HA.out.below HW.hb) (MO.out _ _ LQ HW.hb)).mono ?_); clear F1; rintro e w9 ⟨rfl, k9⟩; replace HW := HW.below k9; clear k9)
            | (go_at_call 9; refine (AL.out _ (MO.out _ _ LQ HW.hb)).mono ?_; clear AL; rintro e w7 ⟨rfl, k7⟩; replace HW := HW.below k7; clear k7; obtain ⟨_, x0, x1, x2, x3, _⟩ := HW.ka.four))
          go_ret
          exact ⟨rfl, HW.hb⟩
  · have dn : decide (q < 0) = false := decide_eq_false hneg
    obtain ⟨kk, hkk⟩ : ∃ kk : Nat, (kk : Int) = q := ⟨q.toNat, by omega⟩
    go_upto_region 9 with (fail)
    rw [← hkk]
    have hkn : kk < nt := by omega
    clear hneg dn tb1 tb2
    subst hkk
    obtain ⟨t, ht⟩ : ∃ t, lt[kk]? = some t := ⟨_, List.getElem?_eq_getElem (by omega)⟩
    obtain ⟨g, o, rfl, hg, _, z0, z1, z2, z3⟩ := usT_rows HT ht
    have htL : (turnsL L year)[kk]? = some t := by rw [← HLT.out]; exact ht
    obtain ⟨sm1, sm2⟩ : (-100000000000 ≤ t.at_ ∧ t.at_ ≤ 10000000000000) ∧ (0 ≤ t.re ∧ t.re ≤ 2) := by
      obtain ⟨j, x, hx, tx, rfl⟩ := turnsL_mem.1 (List.mem_of_getElem? htL)
      exact ⟨turn_small11 tx, (turn_fit FIT.out ⟨x, hx, tx, rfl⟩).2⟩
    obtain ⟨a1, a2⟩ := sm1
    obtain ⟨r1, r2⟩ := sm2
    have TELL := Lib.hid (fun far m h1 h2 => force_tells FIT.out (off := off) (by omega) (by omega) htL far m h1 h2)
    have UN := uniT_near FIT.out (off := off) (by omega) (by omega) t
    have sv := aheadSave_in FIT.out t.at_
    rw [aheadSave_lit] at sv
    have AT := fun W h q => AH.out t.at_ (by unfold In64; omega) W h q
    have eu : uniT L off t = (if t.re = 2 then t.at_ else if t.re = 1 then t.at_ - off else t.at_ - off - ((aheadO L t.at_).getD Tn.zero).save) := by rw [← aheadSave_lit]; rfl
    obtain ⟨⟨a0', a1', sv0, al'⟩, hq⟩ : ∃ q, q = (aheadO L t.at_).getD Tn.zero := ⟨_, rfl⟩
    obtain ⟨f, hf⟩ : ∃ f, f = (aheadO L t.at_).isSome := ⟨_, rfl⟩
    rw [← hq] at eu sv
    replace AT := fun W h q => (AT W h q).mono (fun _ _ r => RetTB.wide hq hf r)
    replace AT := Lib.hid AT
    have EU := Lib.hid eu
    clear eu hq hf htL ht AH
    obtain ⟨ta, tr, ts, tl⟩ := t
    simp only at a1 a2 r1 r2 sv z0 z1 z2 z3
    have b0 : (0 : Int) ≤ (kk : Int) := by omega
    have b1 : (kk : Int) < (nt : Int) := by omega
    go_upto_region 10 with (fail)
    have HW : RoW11 w w4.heap.size [.int .i64 ta, .int .i64 tr, .int .i64 ts, .string tl] (w4.alloc (.cells #[.int .i64 ta, .int .i64 tr, .int .i64 ts, .string tl] 35)) := ⟨below_thru hb (below_box w4 _), Blk.new4 w4 (.int .i64 ta) (.int .i64 tr) (.int .i64 ts) (.string tl) 35⟩
    generalize w4.alloc (.cells #[.int .i64 ta, .int .i64 tr, .int .i64 ts, .string tl] 35) = W4 at *
    generalize w4.heap.size = q4 at *
    clear z0 z1 z2 z3 hg HT hb
    go_wp2_with fail
    go_loopw [12] (fun v12 wr => ∃ z : Int, v12 = .int .i64 z ∧ year - 1 ≤ z ∧ z ≤ year + 2 ∧ (∀ z', year - 1 ≤ z' → z' < z → ∀ (q : Nat) u, (turnsL L z')[q]? = some u → (z' ≠ year ∨ q ≠ kk) → 172800 ≤ u.at_ - ta ∨ u.at_ - ta ≤ -172800) ∧ RoW11 w q4 [.int .i64 ta, .int .i64 tr, .int .i64 ts, .string tl] wr) (fun v _ => (year + 2 - intOf v).toNat)
    case atStart => exact ⟨year - 1, by first | rfl | exact int_eqS (by omega), Int.le_refl _, by omega, fun z' h1 h2 => absurd h2 (by omega), HW⟩
    case round =>
      clear HW
      obtain ⟨z, rfl, k1, k2, hR, HW⟩ := hrel
      have HR := Lib.hid hR
      clear hR
      by_cases h5 : z ≤ year + 1
      · have TK := Lib.hid (fun W h q => TU.out z W h q)
        obtain ⟨lu, hlu⟩ : ∃ lu, lu = turnsL L z := ⟨_, rfl⟩
        rw [← hlu] at TK
        have SM := Lib.hid (show ∀ (i : Nat) t, lu[i]? = some t → (-100000000000 ≤ t.at_ ∧ t.at_ ≤ 10000000000000) from fun i t h => by
          obtain ⟨j, x, hx, tx, rfl⟩ := turnsL_mem.1 (show t ∈ turnsL L z by rw [← hlu]; exact List.mem_of_getElem? h)
          exact turn_small11 tx)
        have ALL := Lib.hid (show (∀ (q : Nat) u, lu[q]? = some u → (z ≠ year ∨ q ≠ kk) → 172800 ≤ u.at_ - ta ∨ u.at_ - ta ≤ -172800) → ∀ z', year - 1 ≤ z' → z' < z + 1 → ∀ (q : Nat) u, (turnsL L z')[q]? = some u → (z' ≠ year ∨ q ≠ kk) → 172800 ≤ u.at_ - ta ∨ u.at_ - ta ≤ -172800 from fun h z' a b q u hq => by
          by_cases e : z' = z
          · subst e
            rw [← hlu] at hq
            exact h q u hq
          · exact HR.out z' a (by omega) q u hq)
        clear hlu HR
        go_upto_region 14 with (go_at_call 10; refine (TK.out _ (HA.out.below HW.hb) (MO.out _ _ LQ HW.hb)).mono ?_; clear TK; rintro e w4 ⟨B, nu, cu, rfl, HT, k4⟩; replace HW := HW.below k4; clear k4)
        have lnu : lu.length = nu := by have := HT.len; simpa using this
        have mxu : nu ≤ 9223372036854775807 := Nat.le_trans HT.cap HT.max
        go_wp2_with fail
        go_loopw [14] (fun v14 wr => ∃ j : Nat, j ≤ nu ∧ v14 = .int .i64 j ∧ (∀ (q : Nat) u, q < j → lu[q]? = some u → (z ≠ year ∨ q ≠ kk) → 172800 ≤ u.at_ - ta ∨ u.at_ - ta ≤ -172800) ∧ TnV wr B nu cu lu ∧ RoW11 w q4 [.int .i64 ta, .int .i64 tr, .int .i64 ts, .string tl] wr) (fun v _ => nu - (intOf v).toNat)
        case atStart => exact ⟨0, by omega, rfl, fun q t h => absurd h (by omega), HT, HW⟩
        case round =>
          clear HW HT
          obtain ⟨j, hj, rfl, hS, HT, HW⟩ := hrel
          have HS := Lib.hid hS
          clear hS
          by_cases h6 : j < nu
          · obtain ⟨u, hu⟩ : ∃ u, lu[j]? = some u := ⟨_, List.getElem?_eq_getElem (by omega)⟩
            obtain ⟨g', o', rfl, hg', _, z0, z1, z2, z3⟩ := usT_rows HT hu
            obtain ⟨e1, e2⟩ := SM.out j u hu
            have STEP := Lib.hid (show ((z ≠ year ∨ j ≠ kk) → 172800 ≤ u.at_ - ta ∨ u.at_ - ta ≤ -172800) → ∀ (q : Nat) v, q < j + 1 → lu[q]? = some v → (z ≠ year ∨ q ≠ kk) → 172800 ≤ v.at_ - ta ∨ v.at_ - ta ≤ -172800 from fun h q v hq hv => by
              by_cases e : q = j
              · subst e; rw [hu] at hv; cases hv; exact h
              · exact HS.out q v (by omega) hv)
            clear hu HS
            obtain ⟨ua, ur, us, ul⟩ := u
            simp only at e1 e2 z0 z1 z2 z3 STEP
            have b2 : (0 : Int) ≤ (j : Int) := by omega
            have b3 : (j : Int) < (nu : Int) := by omega
            obtain ⟨_, x0, x1, x2, x3, _⟩ := HW.ka.four
            go_upto_region 17 with (fail)
            go_quiet (fail)
            rename_i nq
            have kq := below_drewN (Below.refl wr.heap.size wr) nq
            replace HW := HW.below kq
            replace HT := Rs.below HT kq
            generalize wr.drewN nq = wr2 at *
            clear z0 z1 z2 z3 x0 x1 x2 x3 hg' kq
            by_cases c1 : ua - ta < 172800
            · have f1 : decide (ua - ta < 172800) = true := decide_eq_true c1
              by_cases c2 : -172800 < ua - ta
              · have f2 : decide (-172800 < ua - ta) = true := decide_eq_true c2
                by_cases c3 : z = year
                · have f3 : (z != year) = false := by simp [c3]
                  by_cases c4 : j = kk
                  · have f4 : ((j : Int) != (kk : Int)) = false := by simp [c4]
                    have ST := Lib.hid (STEP.out (fun x => by omega))
                    clear STEP
                    go_wp2
                    go_roundw
                    case rel => exact ⟨j + 1, by omega, int_eqS (by omega), ST.out, HT, HW⟩
                    case measure => simp only [intOf]; omega
                  · have f4 : ((j : Int) != (kk : Int)) = true := by simp; omega
                    clear STEP
                    go_wp2_with (go_at_call 9; refine (AL.out _ (MO.out _ _ LQ HW.hb)).mono ?_; clear AL; rintro e w7 ⟨rfl, k7⟩; have hb7 := below_thru HW.hb k7; clear k7)
                    go_ret
                    exact ⟨rfl, hb7⟩
                · have f3 : (z != year) = true := by simp [c3]
                  clear STEP
                  go_wp2_with (go_at_call 9; refine (AL.out _ (MO.out _ _ LQ HW.hb)).mono ?_; clear AL; rintro e w7 ⟨rfl, k7⟩; have hb7 := below_thru HW.hb k7; clear k7)
                  go_ret
                  exact ⟨rfl, hb7⟩
              · have f2 : decide (-172800 < ua - ta) = false := decide_eq_false c2
                have ST := Lib.hid (STEP.out (fun _ => by omega))
                clear STEP
                go_wp2
                go_roundw
                case rel => exact ⟨j + 1, by omega, int_eqS (by omega), ST.out, HT, HW⟩
                case measure => simp only [intOf]; omega
            · have f1 : decide (ua - ta < 172800) = false := decide_eq_false c1
              have ST := Lib.hid (STEP.out (fun _ => by omega))
              clear STEP
              go_wp2
              go_roundw
              case rel => exact ⟨j + 1, by omega, int_eqS (by omega), ST.out, HT, HW⟩
              case measure => simp only [intOf]; omega
          · obtain rfl : j = nu := by omega
            have ST := Lib.hid (ALL.out (fun q t h => HS.out q t (by have := (List.getElem?_eq_some_iff.1 h).1; omega) h))
            clear ALL HS
            go_wp2
            go_roundw
            case rel => exact ⟨z + 1, by first | rfl | exact int_eqS (by omega), by omega, by omega, ST.out, HW⟩
            case measure => simp only [intOf]; omega
      · have FAR := HR.out
        have U0 := TELL.out (fun z h1 h2 q u h3 h4 => FAR z h1 (by omega) q u h3 h4) 0 (by decide) (by decide)
        have U1 := TELL.out (fun z h1 h2 q u h3 h4 => FAR z h1 (by omega) q u h3 h4) 3599 (by decide) (by decide)
        have UB := UN
        rw [Int.add_zero] at U0
        rw [EU.out] at U0 U1 UB
        try simp only at U0 U1 UB
        clear TELL HR FAR UN EU
        obtain ⟨_, x0, x1, x2, x3, _⟩ := HW.ka.four
        rcases (by omega : tr = 2 ∨ tr = 1 ∨ tr = 0) with rfl | rfl | rfl
        · rw [if_pos rfl] at U0 U1 UB
          obtain ⟨uu, hu⟩ : ∃ uu, uu = ta := ⟨_, rfl⟩
          rw [← hu] at U0 U1 UB
          have ub1 : -200000000000 ≤ uu := by omega
          have ub2 : uu ≤ 20000000000000 := by omega
          have F0 := Lib.hid (fun W h q => (U0 ▸ FO.out uu (by unfold In64; omega) W h q : Calls Tryd.prog 21 #[.slice A n c, .int .i64 off, .int .i64 uu] W (RetIS W (ts, tl))))
          have F1 := Lib.hid (fun W h q => (U1 ▸ FO.out (uu + 3599) (by unfold In64; omega) W h q : Calls Tryd.prog 21 #[.slice A n c, .int .i64 off, .int .i64 (uu + 3599)] W (RetIS W (ts, tl))))
          clear U0 U1
          go_upto_region 24 with (first | (go_at_call 19; refine (AT.out _ (HA.out.below HW.hb) (MO.out _ _ LQ HW.hb)).mono ?_; clear AT; rintro e w5 ⟨rfl, k5⟩; replace HW := HW.below k5; clear k5 x0 x1 x2 x3))
          have KN := Blk.new4 w5 (.int .i64 a0') (.int .i64 a1') (.int .i64 sv0) (.string al') 35
          replace HW := HW.below (below_box w5 (.cells #[.int .i64 a0', .int .i64 a1', .int .i64 sv0, .string al'] 35))
          generalize w5.alloc (.cells #[.int .i64 a0', .int .i64 a1', .int .i64 sv0, .string al'] 35) = w6 at *
          generalize w5.heap.size = q5 at *
          obtain ⟨_, c0, c1, c2, c3, _⟩ := KN.four
          obtain ⟨_, x0, x1, x2, x3, _⟩ := HW.ka.four
          go_upto_region 26 with (fail)
          rw [← hu]
          clear hu KN c0 c1 c2 c3 x0 x1 x2 x3
          go_wp2_with (first
            | (go_at_call 21; (with_reducible refine (F0.out _ (HA.out.below HW.hb) (MO.out _ _ LQ HW.hb)).mono ?_); clear F0; rintro e w8 ⟨rfl, k8⟩; replace HW := HW.below k8; clear k8)
            | (go_at_call 21; (with_reducible refine (F1.out _ (HA.out.below HW.hb) (MO.out _ _ LQ HW.hb)).mono ?_); clear F1; rintro e w9 ⟨rfl, k9⟩; replace HW := HW.below k9; clear k9)
            | (go_at_call 9; refine (AL.out _ (MO.out _ _ LQ HW.hb)).mono ?_; clear AL; rintro e w7 ⟨rfl, k7⟩; replace HW := HW.below k7; clear k7; obtain ⟨_, x0, x1, x2, x3, _⟩ := HW.ka.four))
          go_ret
          exact ⟨rfl, HW.hb⟩
        · rw [if_neg (by decide), if_pos rfl] at U0 U1 UB
          obtain ⟨uu, hu⟩ : ∃ uu, uu = ta - off := ⟨_, rfl⟩
          rw [← hu] at U0 U1 UB
          have ub1 : -200000000000 ≤ uu := by omega
          have ub2 : uu ≤ 20000000000000 := by omega
          have F0 := Lib.hid (fun W h q => (U0 ▸ FO.out uu (by unfold In64; omega) W h q : Calls Tryd.prog 21 #[.slice A n c, .int .i64 off, .int .i64 uu] W (RetIS W (ts, tl))))
          have F1 := Lib.hid (fun W h q => (U1 ▸ FO.out (uu + 3599) (by unfold In64; omega) W h q : Calls Tryd.prog 21 #[.slice A n c, .int .i64 off, .int .i64 (uu + 3599)] W (RetIS W (ts, tl))))
          clear U0 U1
          go_upto_region 24 with (first | (go_at_call 19; refine (AT.out _ (HA.out.below HW.hb) (MO.out _ _ LQ HW.hb)).mono ?_; clear AT; rintro e w5 ⟨rfl, k5⟩; replace HW := HW.below k5; clear k5 x0 x1 x2 x3))
          have KN := Blk.new4 w5 (.int .i64 a0') (.int .i64 a1') (.int .i64 sv0) (.string al') 35
          replace HW := HW.below (below_box w5 (.cells #[.int .i64 a0', .int .i64 a1', .int .i64 sv0, .string al'] 35))
          generalize w5.alloc (.cells #[.int .i64 a0', .int .i64 a1', .int .i64 sv0, .string al'] 35) = w6 at *
          generalize w5.heap.size = q5 at *
          obtain ⟨_, c0, c1, c2, c3, _⟩ := KN.four
          obtain ⟨_, x0, x1, x2, x3, _⟩ := HW.ka.four
          go_upto_region 26 with (fail)
          rw [← hu]
          clear hu KN c0 c1 c2 c3 x0 x1 x2 x3
          go_wp2_with (first
            | (go_at_call 21; (with_reducible refine (F0.out _ (HA.out.below HW.hb) (MO.out _ _ LQ HW.hb)).mono ?_); clear F0; rintro e w8 ⟨rfl, k8⟩; replace HW := HW.below k8; clear k8)
            | (go_at_call 21; (with_reducible refine (F1.out _ (HA.out.below HW.hb) (MO.out _ _ LQ HW.hb)).mono ?_); clear F1; rintro e w9 ⟨rfl, k9⟩; replace HW := HW.below k9; clear k9)
            | (go_at_call 9; refine (AL.out _ (MO.out _ _ LQ HW.hb)).mono ?_; clear AL; rintro e w7 ⟨rfl, k7⟩; replace HW := HW.below k7; clear k7; obtain ⟨_, x0, x1, x2, x3, _⟩ := HW.ka.four))
          go_ret
          exact ⟨rfl, HW.hb⟩
        · rw [if_neg (by decide), if_neg (by decide)] at U0 U1 UB
          obtain ⟨uu, hu⟩ : ∃ uu, uu = ta - off - sv0 := ⟨_, rfl⟩
          rw [← hu] at U0 U1 UB
          have ub1 : -200000000000 ≤ uu := by omega
          have ub2 : uu ≤ 20000000000000 := by omega
          have F0 := Lib.hid (fun W h q => (U0 ▸ FO.out uu (by unfold In64; omega) W h q : Calls Tryd.prog 21 #[.slice A n c, .int .i64 off, .int .i64 uu] W (RetIS W (ts, tl))))
          have F1 := Lib.hid (fun W h q => (U1 ▸ FO.out (uu + 3599) (by unfold In64; omega) W h q : Calls Tryd.prog 21 #[.slice A n c, .int .i64 off, .int .i64 (uu + 3599)] W (RetIS W (ts, tl))))
          clear U0 U1
          go_upto_region 24 with (first | (go_at_call 19; refine (AT.out _ (HA.out.below HW.hb) (MO.out _ _ LQ HW.hb)).mono ?_; clear AT; rintro e w5 ⟨rfl, k5⟩; replace HW := HW.below k5; clear k5 x0 x1 x2 x3))
          have KN := Blk.new4 w5 (.int .i64 a0') (.int .i64 a1') (.int .i64 sv0) (.string al') 35
          replace HW := HW.below (below_box w5 (.cells #[.int .i64 a0', .int .i64 a1', .int .i64 sv0, .string al'] 35))
          generalize w5.alloc (.cells #[.int .i64 a0', .int .i64 a1', .int .i64 sv0, .string al'] 35) = w6 at *
          generalize w5.heap.size = q5 at *
          obtain ⟨_, c0, c1, c2, c3, _⟩ := KN.four
          obtain ⟨_, x0, x1, x2, x3, _⟩ := HW.ka.four
          go_upto_region 26 with (fail)
          rw [← hu]
          clear hu KN c0 c1 c2 c3 x0 x1 x2 x3
          go_wp2_with (first
            | (go_at_call 21; (with_reducible refine (F0.out _ (HA.out.below HW.hb) (MO.out _ _ LQ HW.hb)).mono ?_); clear F0; rintro e w8 ⟨rfl, k8⟩; replace HW := HW.below k8; clear k8)
            | (go_at_call 21; (with_reducible refine (F1.out _ (HA.out.below HW.hb) (MO.out _ _ LQ HW.hb)).mono ?_); clear F1; rintro e w9 ⟨rfl, k9⟩; replace HW := HW.below k9; clear k9)
            | (go_at_call 9; refine (AL.out _ (MO.out _ _ LQ HW.hb)).mono ?_; clear AL; rintro e w7 ⟨rfl, k7⟩; replace HW := HW.below k7; clear k7; obtain ⟨_, x0, x1, x2, x3, _⟩ := HW.ka.four))
          go_ret
          exact ⟨rfl, HW.hb⟩
end Go.Proofs.YtkkdclibbdeejaaDoor
