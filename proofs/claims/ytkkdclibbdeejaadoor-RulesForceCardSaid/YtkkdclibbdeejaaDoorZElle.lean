/- Stage 11's laws: the turn ahead; what is in force. -/
import Derived.Test.YtkkdclibbdeejaaDoorZElco
import Derived.Test.YtkkdclibbdeejaaDoorZGeb
namespace Go.Proofs.YtkkdclibbdeejaaDoor
open Go.RowKit
theorem beq_self_bytes (t : ByteArray) : (t == t) = true := by rw [bytes_beqT]; exact decide_eq_true rfl
set_option maxRecDepth 100000 in
set_option maxHeartbeats 8000000 in
theorem aheadL11 {M : Nat} {Q : World → Prop} (hM : 2 ≤ M) (C : RulesQ M Q) (A : Option Addr) (n c : Nat) (L : List Rl) (a : Int) (w : World) (hm : RulV w A n c L) (_hi : in64L L) (ha : In64 a) (LQ : Q w) : Calls Tryd.prog 5 #[.slice A n c, .int .i64 a] w (RetV w (.bool true)) := by
  have mx : n ≤ 9223372036854775807 := Nat.le_trans hm.cap hm.max
  have MO := Lib.hid C.mono
  have AL := Lib.hid (alive11 hM C)
  by_cases big : 20 < n
  · have d0 : decide ((20 : Int) < (n : Int)) = true := decide_eq_true (by omega)
    clear C
    go_enter Tryd.func5, Tryd.ntmps5
    go_wp2_with (go_at_call 9; refine (AL.out _ LQ).mono ?_; clear AL; rintro e w1 ⟨rfl, h1⟩)
    go_ret
    exact ⟨rfl, h1⟩
  have d0 : decide ((20 : Int) < (n : Int)) = false := decide_eq_false (by omega)
  have HA := Lib.hid hm
  have AH := fun W (h : RulV W A n c L) q => C.ahead A n c L a ha W h q
  have RD := fun W (h : RulV W A n c L) => rightDR L A n c W h
  clear C
  cases hf : fitB L with
  | false =>
    rw [show aheadR L a = none from by unfold aheadR; rw [if_neg (by rw [hf]; decide)]] at AH
    rw [hf] at RD
    replace AH := Lib.hid (fun W (h : RulV W A n c L) (q : Q W) => (show Calls Tryd.prog 19 #[.slice A n c, .int .i64 a] W (fun e w' => e = .returned (.tuple #[.agg #[.int .i64 0, .int .i64 0, .int .i64 0, .string ⟨#[]⟩], .bool false]) ∧ Below W.heap.size W w') from AH W h q))
    have RD := Lib.hid RD
    clear hf hm
    have s0 := beq_self_bytes ⟨#[]⟩
    go_enter Tryd.func5, Tryd.ntmps5
    go_upto_region 4 with (go_at_call 19; refine (AH.out _ HA.out LQ).mono ?_; clear AH; rintro e w1 ⟨rfl, k1⟩)
    have KT := Blk.new4 w1 (.int .i64 0) (.int .i64 0) (.int .i64 0) (.string ⟨#[]⟩) 35
    have hb := below_thru k1 (below_box w1 (.cells #[.int .i64 0, .int .i64 0, .int .i64 0, .string ⟨#[]⟩] 35))
    clear k1
    generalize w1.alloc (.cells #[.int .i64 0, .int .i64 0, .int .i64 0, .string ⟨#[]⟩] 35) = W1 at *
    generalize w1.heap.size = q at *
    have L1 := MO.out _ _ LQ hb
    go_wp2_with (first
      | (go_at_call 11; refine (RD.out _ (HA.out.below hb)).mono ?_; clear RD; rintro e w2 ⟨rfl, k2⟩; have L2 := MO.out _ _ L1 k2; replace KT := KT.below k2; replace hb := below_thru hb k2; clear k2)
      | (go_at_call 9; refine (AL.out _ L2).mono ?_; clear AL; rintro e w3 ⟨rfl, k3⟩; replace KT := KT.below k3; replace hb := below_thru hb k3; clear k3; obtain ⟨_, b0, b1, b2, b3, _⟩ := KT.four))
    go_ret
    exact ⟨rfl, hb⟩
  | true =>
    have AD := fun W (h : RulV W A n c L) => aheadDR (fit_yes.1 hf) a A n c W h
    rw [show aheadR L a = aheadO L a from by unfold aheadR; rw [if_pos hf]] at AH
    rw [hf] at RD
    generalize aheadO L a = r at *
    obtain ⟨⟨ta, tr, ts, tl⟩, hq⟩ : ∃ q, q = r.getD Tn.zero := ⟨_, rfl⟩
    obtain ⟨f, hff⟩ : ∃ f, f = r.isSome := ⟨_, rfl⟩
    replace AH := Lib.hid (fun W (h : RulV W A n c L) (q : Q W) => (AH W h q).mono (fun _ _ r => RetTB.wide hq hff r))
    replace AD := Lib.hid (fun W (h : RulV W A n c L) => (AD W h).mono (fun _ _ r => RetTB.wide hq hff r))
    have RD := Lib.hid RD
    clear hf hm hq hff
    have s0 := beq_self_bytes tl
    go_enter Tryd.func5, Tryd.ntmps5
    go_upto_region 4 with (go_at_call 19; refine (AH.out _ HA.out LQ).mono ?_; clear AH; rintro e w1 ⟨rfl, k1⟩)
    have KT := Blk.new4 w1 (.int .i64 ta) (.int .i64 tr) (.int .i64 ts) (.string tl) 35
    have hb := below_thru k1 (below_box w1 (.cells #[.int .i64 ta, .int .i64 tr, .int .i64 ts, .string tl] 35))
    clear k1
    generalize w1.alloc (.cells #[.int .i64 ta, .int .i64 tr, .int .i64 ts, .string tl] 35) = W1 at *
    generalize w1.heap.size = q at *
    have L1 := MO.out _ _ LQ hb
    go_upto_region 7 with (first
      | (go_at_call 11; refine (RD.out _ (HA.out.below hb)).mono ?_; clear RD; rintro e w2 ⟨rfl, k2⟩; have L2 := MO.out _ _ L1 k2; replace KT := KT.below k2; replace hb := below_thru hb k2; clear k2)
      | (go_at_call 20; refine (AD.out _ (HA.out.below hb)).mono ?_; clear AD; rintro e w4 ⟨rfl, k4⟩; have L4 := MO.out _ _ L2 k4; replace KT := KT.below k4; replace hb := below_thru hb k4; clear k4))
    have KU := Blk.new4 w4 (.int .i64 ta) (.int .i64 tr) (.int .i64 ts) (.string tl) 35
    have k5 := below_box w4 (.cells #[.int .i64 ta, .int .i64 tr, .int .i64 ts, .string tl] 35)
    have L5 := MO.out _ _ L4 k5
    replace hb := below_thru hb k5
    replace KT := KT.below k5
    clear k5
    generalize w4.alloc (.cells #[.int .i64 ta, .int .i64 tr, .int .i64 ts, .string tl] 35) = W5 at *
    generalize w4.heap.size = q2 at *
    go_wp2_with (go_at_call 9; refine (AL.out _ L5).mono ?_; clear AL; rintro e w3 ⟨rfl, k3⟩; replace KT := KT.below k3; replace KU := KU.below k3; replace hb := below_thru hb k3; clear k3; obtain ⟨_, b0, b1, b2, b3, _⟩ := KT.four; obtain ⟨_, c0, c1, c2, c3, _⟩ := KU.four)
    go_ret
    exact ⟨rfl, hb⟩
set_option maxRecDepth 100000 in
set_option maxHeartbeats 8000000 in
theorem forceL11 {M : Nat} {Q : World → Prop} (hM : 2 ≤ M) (C : RulesQ M Q) (A : Option Addr) (n c : Nat) (L : List Rl) (off T : Int) (w : World) (hm : RulV w A n c L) (_hi : in64L L) (ho : In64 off) (hT : In64 T) (LQ : Q w) : Calls Tryd.prog 6 #[.slice A n c, .int .i64 off, .int .i64 T] w (RetV w (.bool true)) := by
  have mx : n ≤ 9223372036854775807 := Nat.le_trans hm.cap hm.max
  have MO := Lib.hid C.mono
  have AL := Lib.hid (alive11 hM C)
  by_cases big : 20 < n
  · have d0 : decide ((20 : Int) < (n : Int)) = true := decide_eq_true (by omega)
    clear C
    go_enter Tryd.func6, Tryd.ntmps6
    go_wp2_with (go_at_call 9; refine (AL.out _ LQ).mono ?_; clear AL; rintro e w1 ⟨rfl, h1⟩)
    go_ret
    exact ⟨rfl, h1⟩
  have d0 : decide ((20 : Int) < (n : Int)) = false := decide_eq_false (by omega)
  have HA := Lib.hid hm
  have FO := fun W (h : RulV W A n c L) q => C.force A n c L off T ho hT W h q
  have RD := fun W (h : RulV W A n c L) => rightDR L A n c W h
  clear C
  unfold In64 at ho
  by_cases o1 : off ≤ -86400
  · have d1 : decide (off ≤ -86400) = true := decide_eq_true o1
    rw [show forceF L off T = (0, ⟨#[]⟩) from by unfold forceF; rw [if_neg (fun h => by omega)]] at FO
    generalize fitB L = b at *
    replace FO := Lib.hid (fun W (h : RulV W A n c L) (q : Q W) => (show Calls Tryd.prog 21 #[.slice A n c, .int .i64 off, .int .i64 T] W (fun e w' => e = .returned (.tuple #[.int .i64 0, .string ⟨#[]⟩]) ∧ Below W.heap.size W w') from FO W h q))
    have RD := Lib.hid RD
    have s0 := beq_self_bytes ⟨#[]⟩
    cases b <;>
    · go_enter Tryd.func6, Tryd.ntmps6
      go_wp2_with (first
        | (go_at_call 21; refine (FO.out _ HA.out LQ).mono ?_; clear FO; rintro e w1 ⟨rfl, hb⟩; have L1 := MO.out _ _ LQ hb)
        | (go_at_call 11; refine (RD.out _ (HA.out.below hb)).mono ?_; clear RD; rintro e w2 ⟨rfl, k2⟩; have L2 := MO.out _ _ L1 k2; replace hb := below_thru hb k2; clear k2)
        | (go_at_call 9; refine (AL.out _ L2).mono ?_; clear AL; rintro e w3 ⟨rfl, k3⟩; replace hb := below_thru hb k3; clear k3))
      go_ret
      exact ⟨rfl, hb⟩
  have d1 : decide (off ≤ -86400) = false := decide_eq_false o1
  by_cases o2 : 86400 ≤ off
  · have d2 : decide (86400 ≤ off) = true := decide_eq_true o2
    rw [show forceF L off T = (0, ⟨#[]⟩) from by unfold forceF; rw [if_neg (fun h => by omega)]] at FO
    generalize fitB L = b at *
    replace FO := Lib.hid (fun W (h : RulV W A n c L) (q : Q W) => (show Calls Tryd.prog 21 #[.slice A n c, .int .i64 off, .int .i64 T] W (fun e w' => e = .returned (.tuple #[.int .i64 0, .string ⟨#[]⟩]) ∧ Below W.heap.size W w') from FO W h q))
    have RD := Lib.hid RD
    have s0 := beq_self_bytes ⟨#[]⟩
    cases b <;>
    · go_enter Tryd.func6, Tryd.ntmps6
      go_wp2_with (first
        | (go_at_call 21; refine (FO.out _ HA.out LQ).mono ?_; clear FO; rintro e w1 ⟨rfl, hb⟩; have L1 := MO.out _ _ LQ hb)
        | (go_at_call 11; refine (RD.out _ (HA.out.below hb)).mono ?_; clear RD; rintro e w2 ⟨rfl, k2⟩; have L2 := MO.out _ _ L1 k2; replace hb := below_thru hb k2; clear k2)
        | (go_at_call 9; refine (AL.out _ L2).mono ?_; clear AL; rintro e w3 ⟨rfl, k3⟩; replace hb := below_thru hb k3; clear k3))
      go_ret
      exact ⟨rfl, hb⟩
  have d2 : decide (86400 ≤ off) = false := decide_eq_false o2
  cases hf : fitB L with
  | false =>
    rw [show forceF L off T = (0, ⟨#[]⟩) from by unfold forceF; rw [if_neg (fun h => by rw [hf] at h; exact absurd h.1 (by decide))]] at FO
    rw [hf] at RD
    replace FO := Lib.hid (fun W (h : RulV W A n c L) (q : Q W) => (show Calls Tryd.prog 21 #[.slice A n c, .int .i64 off, .int .i64 T] W (fun e w' => e = .returned (.tuple #[.int .i64 0, .string ⟨#[]⟩]) ∧ Below W.heap.size W w') from FO W h q))
    have RD := Lib.hid RD
    have s0 := beq_self_bytes ⟨#[]⟩
    clear hf hm
    go_enter Tryd.func6, Tryd.ntmps6
    go_wp2_with (first
      | (go_at_call 21; refine (FO.out _ HA.out LQ).mono ?_; clear FO; rintro e w1 ⟨rfl, hb⟩; have L1 := MO.out _ _ LQ hb)
      | (go_at_call 11; refine (RD.out _ (HA.out.below hb)).mono ?_; clear RD; rintro e w2 ⟨rfl, k2⟩; have L2 := MO.out _ _ L1 k2; replace hb := below_thru hb k2; clear k2)
      | (go_at_call 9; refine (AL.out _ L2).mono ?_; clear AL; rintro e w3 ⟨rfl, k3⟩; replace hb := below_thru hb k3; clear k3))
    go_ret
    exact ⟨rfl, hb⟩
  | true =>
    have FD := fun W (h : RulV W A n c L) => forceDR (fit_yes.1 hf) off T (by omega) (by omega) A n c W h
    rw [show forceF L off T = forceR L off T from by unfold forceF; rw [if_pos ⟨hf, by omega, by omega⟩]] at FO
    rw [hf] at RD
    generalize forceR L off T = p at *
    obtain ⟨m, s⟩ := p
    replace FO := Lib.hid (fun W (h : RulV W A n c L) (q : Q W) => (show Calls Tryd.prog 21 #[.slice A n c, .int .i64 off, .int .i64 T] W (fun e w' => e = .returned (.tuple #[.int .i64 m, .string s]) ∧ Below W.heap.size W w') from FO W h q))
    replace FD := Lib.hid (fun W (h : RulV W A n c L) => (show Calls Tryd.prog 22 #[.slice A n c, .int .i64 off, .int .i64 T] W (fun e w' => e = .returned (.tuple #[.int .i64 m, .string s]) ∧ Below W.heap.size W w') from FD W h))
    have RD := Lib.hid RD
    have s0 := beq_self_bytes s
    clear hf hm
    go_enter Tryd.func6, Tryd.ntmps6
    go_wp2_with (first
      | (go_at_call 21; refine (FO.out _ HA.out LQ).mono ?_; clear FO; rintro e w1 ⟨rfl, hb⟩; have L1 := MO.out _ _ LQ hb)
      | (go_at_call 11; refine (RD.out _ (HA.out.below hb)).mono ?_; clear RD; rintro e w2 ⟨rfl, k2⟩; have L2 := MO.out _ _ L1 k2; replace hb := below_thru hb k2; clear k2)
      | (go_at_call 22; refine (FD.out _ (HA.out.below hb)).mono ?_; clear FD; rintro e w4 ⟨rfl, k4⟩; have L4 := MO.out _ _ L2 k4; replace hb := below_thru hb k4; clear k4)
      | (go_at_call 9; refine (AL.out _ L4).mono ?_; clear AL; rintro e w3 ⟨rfl, k3⟩; replace hb := below_thru hb k3; clear k3))
    go_ret
    exact ⟨rfl, hb⟩
end Go.Proofs.YtkkdclibbdeejaaDoor
