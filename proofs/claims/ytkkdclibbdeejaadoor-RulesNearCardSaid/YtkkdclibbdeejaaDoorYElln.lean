/- Stage 11's laws: crowded sets, and turns near to one another. -/
import Derived.Test.YtkkdclibbdeejaaDoorYElle
import Derived.Test.YtkkdclibbdeejaaDoorYGeb
namespace Go.Proofs.YtkkdclibbdeejaaDoor
open Go.RowKit
theorem crowdB_most {L : List Rl} (h : fitB L = true) : crowdB L = decide (10 < mostN L) := by
  unfold crowdB
  rw [h, Bool.true_and, Bool.eq_iff_iff, @decide_eq_true_iff _ (Classical.propDecidable _), decide_eq_true_iff]
  exact crowd_most L |>.symm
theorem nearB_yes {L : List Rl} (h : fitB L = true) (k : crowdB L = false) : nearB L = true ↔ nearP L := by
  unfold nearB
  rw [h, k, Bool.not_false, Bool.and_true, Bool.true_and, @decide_eq_true_iff _ (Classical.propDecidable _)]
theorem nearB_none : nearB [] = false := by
  rw [← Bool.not_eq_true]
  unfold nearB
  rw [Bool.and_eq_true, @decide_eq_true_iff _ (Classical.propDecidable _)]
  rintro ⟨_, i, j, y, z, t, u, ⟨x, hx, _⟩, _⟩
  simp at hx
theorem nearB_bad {L : List Rl} (h : fitB L = false) : nearB L = false ∧ crowdB L = false := by
  unfold nearB crowdB
  rw [h]
  exact ⟨rfl, rfl⟩
theorem nearB_crowd {L : List Rl} (h : crowdB L = true) : nearB L = false := by unfold nearB; rw [h]; simp
set_option maxRecDepth 100000 in
set_option maxHeartbeats 8000000 in
theorem nearL11 {M : Nat} {Q : World → Prop} (hM : 2 ≤ M) (C : RulesQ M Q) (A : Option Addr) (n c : Nat) (L : List Rl) (w : World) (hm : RulV w A n c L) (_hi : in64L L) (LQ : Q w) : Calls Tryd.prog 4 #[.slice A n c] w (RetV w (.bool true)) := by
  have mx : n ≤ 9223372036854775807 := Nat.le_trans hm.cap hm.max
  have MO := Lib.hid C.mono
  have AL := Lib.hid (alive11 hM C)
  by_cases big : 60 < n
  · have d0 : decide ((60 : Int) < (n : Int)) = true := decide_eq_true (by omega)
    clear C
    go_enter Tryd.func4, Tryd.ntmps4
    go_wp2_with (go_at_call 9; refine (AL.out _ LQ).mono ?_; clear AL; rintro e w1 ⟨rfl, h1⟩)
    go_ret
    exact ⟨rfl, h1⟩
  have d0 : decide ((60 : Int) < (n : Int)) = false := decide_eq_false (by omega)
  have HA := Lib.hid hm
  have LEN := Lib.hid (show L.length = n by have := hm.len; simpa using this)
  have RD := fun W (h : RulV W A n c L) => rightDR L A n c W h
  have MD := fun W (h : RulV W A n c L) => mostDR L A n c W h
  have CR := fun W (h : RulV W A n c L) q => C.crowded A n c L W h q
  have NE := fun W (h : RulV W A n c L) q => C.near A n c L W h q
  clear C
  cases hf : fitB L with
  | false =>
    obtain ⟨e1, e2⟩ := nearB_bad hf
    rw [hf] at RD
    rw [e2] at CR
    rw [e1] at NE
    have RD := Lib.hid RD
    have CR := Lib.hid CR
    have NE := Lib.hid NE
    clear hf e1 e2 hm MD
    go_enter Tryd.func4, Tryd.ntmps4
    go_wp2_with (first
      | (go_at_call 11; refine (RD.out _ HA.out).mono ?_; clear RD; rintro e w2 ⟨rfl, hb⟩; have L2 := MO.out _ _ LQ hb)
      | (go_at_call 9; refine (AL.out _ L2).mono ?_; clear AL; rintro e w9 ⟨rfl, k9⟩; have L3 := MO.out _ _ L2 k9; replace hb := below_thru hb k9; clear k9)
      | (go_at_call 16; refine (CR.out _ (HA.out.below hb) L3).mono ?_; clear CR; rintro e w9 ⟨rfl, k9⟩; have L4 := MO.out _ _ L3 k9; replace hb := below_thru hb k9; clear k9)
      | (go_at_call 17; refine (NE.out _ (HA.out.below hb) L4).mono ?_; clear NE; rintro e w9 ⟨rfl, k9⟩; have L5 := MO.out _ _ L4 k9; replace hb := below_thru hb k9; clear k9))
    go_ret
    exact ⟨rfl, hb⟩
  | true =>
    have cm := crowdB_most hf
    have NY := nearB_yes hf
    have FIT := Lib.hid (fit_yes.1 hf)
    rw [hf] at RD
    rw [cm] at CR
    by_cases big : 10 < mostN L
    · rw [nearB_crowd (by rw [cm]; exact decide_eq_true big)] at NE
      rw [decide_eq_true big] at CR
      generalize mostN L = m at *
      have d1 : decide ((10 : Int) < (m : Int)) = true := decide_eq_true (by omega)
      have RD := Lib.hid RD
      have MD := Lib.hid MD
      have CR := Lib.hid CR
      have NE := Lib.hid NE
      clear hf cm NY hm
      go_enter Tryd.func4, Tryd.ntmps4
      go_wp2_with (first
        | (go_at_call 11; refine (RD.out _ HA.out).mono ?_; clear RD; rintro e w2 ⟨rfl, hb⟩; have L2 := MO.out _ _ LQ hb)
        | (go_at_call 15; refine (MD.out _ (HA.out.below hb)).mono ?_; clear MD; rintro e w9 ⟨rfl, k9⟩; have L3 := MO.out _ _ L2 k9; replace hb := below_thru hb k9; clear k9)
        | (go_at_call 9; refine (AL.out _ L3).mono ?_; clear AL; rintro e w9 ⟨rfl, k9⟩; have L4 := MO.out _ _ L3 k9; replace hb := below_thru hb k9; clear k9)
        | (go_at_call 16; refine (CR.out _ (HA.out.below hb) L4).mono ?_; clear CR; rintro e w9 ⟨rfl, k9⟩; have L5 := MO.out _ _ L4 k9; replace hb := below_thru hb k9; clear k9)
        | (go_at_call 17; refine (NE.out _ (HA.out.below hb) L5).mono ?_; clear NE; rintro e w9 ⟨rfl, k9⟩; have L6 := MO.out _ _ L5 k9; replace hb := below_thru hb k9; clear k9))
      go_ret
      exact ⟨rfl, hb⟩
    · rw [decide_eq_false big] at CR cm
      replace NY := NY cm
      obtain ⟨m, hmm⟩ : ∃ m, m = mostN L := ⟨_, rfl⟩
      rw [← hmm] at MD big
      have d1 : decide ((10 : Int) < (m : Int)) = false := decide_eq_false (by omega)
      have RD := Lib.hid RD
      have MD := Lib.hid MD
      have CR := Lib.hid CR
      have NY := Lib.hid NY
      clear hmm cm hf
      by_cases h0 : n = 0
      · obtain rfl : L = [] := List.eq_nil_of_length_eq_zero (LEN.out.trans h0)
        subst h0
        rw [nearB_none] at NE
        have NE := Lib.hid NE
        clear hm
        go_enter Tryd.func4, Tryd.ntmps4
        go_wp2_with (first
          | (go_at_call 11; refine (RD.out _ HA.out).mono ?_; clear RD; rintro e w2 ⟨rfl, hb⟩; have L2 := MO.out _ _ LQ hb)
          | (go_at_call 15; refine (MD.out _ (HA.out.below hb)).mono ?_; clear MD; rintro e w9 ⟨rfl, k9⟩; have L3 := MO.out _ _ L2 k9; replace hb := below_thru hb k9; clear k9)
          | (go_at_call 9; refine (AL.out _ L3).mono ?_; clear AL; rintro e w9 ⟨rfl, k9⟩; have L4 := MO.out _ _ L3 k9; replace hb := below_thru hb k9; clear k9)
          | (go_at_call 16; refine (CR.out _ (HA.out.below hb) L4).mono ?_; clear CR; rintro e w9 ⟨rfl, k9⟩; have L5 := MO.out _ _ L4 k9; replace hb := below_thru hb k9; clear k9)
          | (go_at_call 17; refine (NE.out _ (HA.out.below hb) L5).mono ?_; clear NE; rintro e w9 ⟨rfl, k9⟩; have L6 := MO.out _ _ L5 k9; replace hb := below_thru hb k9; clear k9))
        go_ret
        exact ⟨rfl, hb⟩
      · have d2 : ((n : Int) == 0) = false := beq_false_of_ne (by omega)
        have DN := Lib.hid (fun W (h : RulV W A n c L) => nearDR L FIT.out A n c W h (by omega) NY.out)
        have NE := Lib.hid NE
        clear hm
        generalize nearB L = b at *
        go_enter Tryd.func4, Tryd.ntmps4
        go_upto_region 9 with (first
          | (go_at_call 11; refine (RD.out _ HA.out).mono ?_; clear RD; rintro e w2 ⟨rfl, hb⟩; have L2 := MO.out _ _ LQ hb)
          | (go_at_call 15; refine (MD.out _ (HA.out.below hb)).mono ?_; clear MD; rintro e w9 ⟨rfl, k9⟩; have L3 := MO.out _ _ L2 k9; replace hb := below_thru hb k9; clear k9)
          | (go_at_call 9; refine (AL.out _ L3).mono ?_; clear AL; rintro e w9 ⟨rfl, k9⟩; have L4 := MO.out _ _ L3 k9; replace hb := below_thru hb k9; clear k9)
          | (go_at_call 16; refine (CR.out _ (HA.out.below hb) L4).mono ?_; clear CR; rintro e w9 ⟨rfl, k9⟩; have L5 := MO.out _ _ L4 k9; replace hb := below_thru hb k9; clear k9))
        clear L2 L3 L4 L5
        go_wp2_with fail
        go_loopw [5, 6, 7] (fun v5 v6 v7 wr => ∃ (k : Nat) (lo hi : Int), k ≤ n ∧ v5 = .int .i64 lo ∧ v6 = .int .i64 hi ∧ v7 = .int .i64 k ∧ 0 ≤ lo ∧ lo ≤ 10000 ∧ 0 ≤ hi ∧ hi ≤ 10000 ∧ Below w.heap.size w wr) (fun _ _ v _ => n - (intOf v).toNat)
        case atStart => exact ⟨0, 10000, 0, by omega, rfl, rfl, rfl, by decide, by decide, by decide, by decide, hb⟩
        case round =>
          clear hb
          obtain ⟨k, lo, hi, hk, rfl, rfl, rfl, lo1, lo2, hi1, hi2, hb⟩ := hrel
          by_cases h4 : k < n
          · obtain ⟨x, hxx⟩ : ∃ x, L[k]? = some x := ⟨_, List.getElem?_eq_getElem (by rw [LEN.out]; exact h4)⟩
            obtain ⟨g, o, ea0, hg, ca⟩ := (HA.out.below hb).cells (by omega)
            subst ea0
            have ra := row_at ca (show (L.map Rl.vals)[k]? = some (Rl.vals x) by rw [List.getElem?_map, hxx]; rfl)
            have fx := FIT.out x (List.mem_of_getElem? hxx)
            have f1 := fx.1.1
            have f2 := fx.1.2
            have f3 := fx.2.1.1
            have x1 : wr.cell? ⟨g, o + k * 11 + 1, none⟩ = some (.int .i64 x.fr) := ra 1 _ rfl
            have x2 : wr.cell? ⟨g, o + k * 11 + 2, none⟩ = some (.int .i64 x.last) := ra 2 _ rfl
            generalize x.fr = fr at *
            generalize x.last = last at *
            clear ca ra hxx fx
            have b0 : (0 : Int) ≤ (k : Int) := by omega
            have b1 : (k : Int) < (n : Int) := by omega
            by_cases c3 : last < 10000
            · have d3 : decide (last < 10000) = true := decide_eq_true c3
              go_wp2
              go_roundw
              case rel => exact ⟨k + 1, _, _, by omega, rfl, rfl, int_eqS (by omega), by omega, by omega, by omega, by omega, hb⟩
              case measure => simp only [intOf]; omega
            · have d3 : decide (last < 10000) = false := decide_eq_false c3
              go_wp2
              go_roundw
              case rel => exact ⟨k + 1, _, _, by omega, rfl, rfl, int_eqS (by omega), by omega, by omega, by omega, by omega, hb⟩
              case measure => simp only [intOf]; omega
          · obtain rfl : k = n := by omega
            by_cases c5 : 600 < hi - lo
            · have d5 : decide (600 < hi - lo) = true := decide_eq_true c5
              go_wp2
              go_ret
              exact ⟨rfl, hb⟩
            · have d5 : decide (600 < hi - lo) = false := decide_eq_false c5
              go_wp2_with (first
                | (go_at_call 17; refine (NE.out _ (HA.out.below hb) (MO.out _ _ LQ hb)).mono ?_; clear NE; rintro e w9 ⟨rfl, k9⟩; replace hb := below_thru hb k9; clear k9)
                | (go_at_call 18; refine (DN.out _ (HA.out.below hb)).mono ?_; clear DN; rintro e w8 ⟨rfl, k8⟩; replace hb := below_thru hb k8; clear k8))
              go_ret
              exact ⟨by simp, hb⟩
end Go.Proofs.YtkkdclibbdeejaaDoor
