/- Stage 11's laws: a year's turns. -/
import Derived.Test.YtkkdclibbdeejaaDoorXElle
import Derived.Test.YtkkdclibbdeejaaDoorXGeb
set_option maxRecDepth 100000
set_option maxHeartbeats 64000000
namespace Go.Proofs.YtkkdclibbdeejaaDoor
open Go.RowKit
theorem turnsL11 {M : Nat} {Q : World → Prop} (hM : 60 ≤ M) (C : RulesQ M Q) (A : Option Addr) (n c : Nat) (L : List Rl) (y : Int) (w : World) (hm : RulV w A n c L) (_hi : in64L L) (_hy : In64 y) (LQ : Q w) : Calls Tryd.prog 3 #[.slice A n c, .int .i64 y] w (RetV w (.bool true)) := by
  have mx : n ≤ 9223372036854775807 := Nat.le_trans hm.cap hm.max
  have MO := Lib.hid C.mono
  have AL := Lib.hid (alive11 (by omega) C)
  by_cases big : 60 < n
  · have d0 : decide ((60 : Int) < (n : Int)) = true := decide_eq_true (by omega)
    clear C
    go_enter Tryd.func3, Tryd.ntmps3
    go_wp2_with (go_at_call 9; refine (AL.out _ LQ).mono ?_; clear AL; rintro e w1 ⟨rfl, h1⟩)
    go_ret
    exact ⟨rfl, h1⟩
  have d0 : decide ((60 : Int) < (n : Int)) = false := decide_eq_false (by omega)
  have HA := Lib.hid hm
  have RD := fun W (h : RulV W A n c L) => rightDR L A n c W h
  have RC := fun W (h : RulV W A n c L) q => C.right A n c L W h q
  have TU := fun W (h : RulV W A n c L) q => C.turns A n c L y W h (by omega) q
  have DT := Lib.hid (fun W (h : RulV W A n c L) => turnsDR L y A n c W h (by omega))
  have SD := Lib.hid (fun l m A B n c n' c' W ha hb => sameDR l m A B n c n' c' W ha hb)
  clear C
  cases hf : fitB L with
  | false =>
    have e0 : turnsR L y = [] := by unfold turnsR; rw [if_neg (by rw [hf]; decide)]
    rw [hf] at RD RC
    rw [e0] at TU
    have RD := Lib.hid RD
    have RC := Lib.hid RC
    have TU := Lib.hid TU
    clear hf hm e0 DT SD
    go_enter Tryd.func3, Tryd.ntmps3
    go_wp2_with (first
      | (go_at_call 10; refine (TU.out _ HA.out LQ).mono ?_; clear TU; rintro e w1 ⟨B, nt, ct, rfl, HT, hb⟩; obtain rfl : 0 = nt := HT.len; have L1 := MO.out _ _ LQ hb)
      | (go_at_call 11; refine (RD.out _ (HA.out.below hb)).mono ?_; clear RD; rintro e w9 ⟨rfl, k9⟩; have L2 := MO.out _ _ L1 k9; replace hb := below_thru hb k9; clear k9)
      | (go_at_call 9; refine (AL.out _ L2).mono ?_; clear AL; rintro e w9 ⟨rfl, k9⟩; have L3 := MO.out _ _ L2 k9; replace hb := below_thru hb k9; clear k9)
      | (go_at_call 12; refine (RC.out _ (HA.out.below hb) L3).mono ?_; clear RC; rintro e w9 ⟨rfl, k9⟩; have L4 := MO.out _ _ L3 k9; replace hb := below_thru hb k9; clear k9))
    go_ret
    exact ⟨rfl, hb⟩
  | true =>
    have e0 : turnsR L y = turnsL L y := by unfold turnsR; rw [if_pos hf]
    rw [hf] at RD RC
    rw [e0] at TU
    have RD := Lib.hid RD
    have RC := Lib.hid RC
    have TU := Lib.hid TU
    clear hf hm e0
    go_enter Tryd.func3, Tryd.ntmps3
    go_wp2_with (first
      | (go_at_call 10; refine (TU.out _ HA.out LQ).mono ?_; clear TU; rintro e w1 ⟨B, nt, ct, rfl, HT, hb⟩; have L1 := MO.out _ _ LQ hb)
      | (go_at_call 11; refine (RD.out _ (HA.out.below hb)).mono ?_; clear RD; rintro e w2 ⟨rfl, k2⟩; have L2 := MO.out _ _ L1 k2; replace HT := Rs.below HT k2; replace hb := below_thru hb k2; clear k2)
      | (go_at_call 9; refine (AL.out _ L2).mono ?_; clear AL; rintro e w3 ⟨rfl, k3⟩; have L3 := MO.out _ _ L2 k3; replace HT := Rs.below HT k3; replace hb := below_thru hb k3; clear k3)
      | (go_at_call 12; refine (RC.out _ (HA.out.below hb) L3).mono ?_; clear RC; rintro e w4 ⟨rfl, k4⟩; replace HT := Rs.below HT k4; replace hb := below_thru hb k4; clear k4)
      | (go_at_call 14; refine (DT.out _ (HA.out.below hb)).mono ?_; clear DT; rintro e w5 ⟨B', nt', ct', rfl, HT', k5⟩; replace HT := Rs.below HT k5; replace hb := below_thru hb k5; clear k5)
      | (go_at_call 13; refine (SD.out _ _ _ _ _ _ _ _ _ HT HT').mono ?_; clear SD; rintro e w6 ⟨rfl, k6⟩; replace hb := below_thru hb k6; clear k6))
    go_ret
    exact ⟨rfl, hb⟩
end Go.Proofs.YtkkdclibbdeejaaDoor
