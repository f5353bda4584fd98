import Derived.Test.YtmhpnmlgfdomkaaGreatDoorZGu
import Derived.Test.YtmhpnmlgfdomkaaGreatDoorZGua
import Derived.Test.YtmhpnmlgfdomkaaGreatDoorZGq
import Derived.Deep.RegionHeld3
import Derived.Outline
import Derived.Test.YtmhpnmlgfdomkaaGreatDoorZUdig
import Derived.BigQuiet
import Derived.Test.YtmhpnmlgfdomkaaGreatDoorZGc
import Derived.Test.YtmhpnmlgfdomkaaGreatDoorZGhs
import Derived.Test.YtmhpnmlgfdomkaaGreatDoorZGm
import Derived.Maps.AppendAt
set_option maxRecDepth 100000
set_option maxHeartbeats 64000000
namespace Go.Proofs.YtmhpnmlgfdomkaaGreatDoor
open Go.RowKit
def ltrB (c : Nat) : Bool := decide (97 ≤ c ∧ c ≤ 122) || decide (65 ≤ c ∧ c ≤ 90)
def dgtB (c : Nat) : Bool := decide (48 ≤ c ∧ c ≤ 57)
def allB (p : Nat → Bool) (s : ByteArray) : Nat → Bool
  | 0 => true
  | k + 1 => allB p s k && (if h : k < s.size then p s[k].toNat else true)
theorem allB_succ {p : Nat → Bool} {s : ByteArray} {k : Nat} (h : k < s.size) : allB p s (k + 1) = (allB p s k && p s[k].toNat) := by
  show (allB p s k && (if h : k < s.size then _ else true)) = _
  rw [dif_pos h]
theorem allB_off {p : Nat → Bool} {s : ByteArray} {k : Nat} : ∀ (d : Nat), allB p s k = false → allB p s (k + d) = false := by
  intro d
  induction d with
  | zero => intro h; exact h
  | succ d ih => intro h; show (allB p s (k + d) && _) = false; rw [ih h]; rfl
theorem allB_no {p : Nat → Bool} {s : ByteArray} {k : Nat} (h : k < s.size) (e : p s[k].toNat = false) : allB p s s.size = false := by
  have h1 : allB p s (k + 1) = false := by rw [allB_succ h, e, Bool.and_false]
  have := allB_off (s.size - (k + 1)) h1
  rwa [show k + 1 + (s.size - (k + 1)) = s.size by omega] at this
theorem allB_on {p : Nat → Bool} {s : ByteArray} {k : Nat} (h : k < s.size) (a : allB p s k = true) (e : p s[k].toNat = true) : allB p s (k + 1) = true := by rw [allB_succ h, a, e]; rfl
def SameV (w : World) (v : Value) (e : Ending) (w' : World) : Prop := e = .returned v ∧ w = w'
theorem letterR (c : Nat) (w : World) : Calls Tryz.prog 94 #[.int .u8 c] w (SameV w (.bool (ltrB c))) := by
  by_cases h1 : 97 ≤ c
  · have d1 : decide ((97 : Int) ≤ c) = true := decide_eq_true (by omega)
    by_cases h2 : c ≤ 122
    · have d2 : decide ((c : Int) ≤ 122) = true := decide_eq_true (by omega)
      have E := Lib.hid (show ltrB c = true by unfold ltrB; rw [decide_eq_true ⟨h1, h2⟩]; rfl)
      go_enter Tryz.func94, Tryz.ntmps94
      go_wp2
      go_ret
      exact ⟨by rw [E.out]; rfl, rfl⟩
    · have d2 : decide ((c : Int) ≤ 122) = false := decide_eq_false (by omega)
      have d3 : decide ((65 : Int) ≤ c) = true := decide_eq_true (by omega)
      have d4 : decide ((c : Int) ≤ 90) = false := decide_eq_false (by omega)
      have E := Lib.hid (show ltrB c = false by unfold ltrB; rw [decide_eq_false (by omega), decide_eq_false (by omega)]; rfl)
      go_enter Tryz.func94, Tryz.ntmps94
      go_wp2
      go_ret
      exact ⟨by rw [E.out]; rfl, rfl⟩
  have d1 : decide ((97 : Int) ≤ c) = false := decide_eq_false (by omega)
  by_cases h3 : 65 ≤ c
  · have d3 : decide ((65 : Int) ≤ c) = true := decide_eq_true (by omega)
    by_cases h4 : c ≤ 90
    · have d4 : decide ((c : Int) ≤ 90) = true := decide_eq_true (by omega)
      have E := Lib.hid (show ltrB c = true by unfold ltrB; rw [decide_eq_true (p := 65 ≤ c ∧ c ≤ 90) ⟨h3, h4⟩, Bool.or_true])
      go_enter Tryz.func94, Tryz.ntmps94
      go_wp2
      go_ret
      exact ⟨by rw [E.out]; rfl, rfl⟩
    · have d4 : decide ((c : Int) ≤ 90) = false := decide_eq_false (by omega)
      have E := Lib.hid (show ltrB c = false by unfold ltrB; rw [decide_eq_false (by omega), decide_eq_false (by omega)]; rfl)
      go_enter Tryz.func94, Tryz.ntmps94
      go_wp2
      go_ret
      exact ⟨by rw [E.out]; rfl, rfl⟩
  · have d3 : decide ((65 : Int) ≤ c) = false := decide_eq_false (by omega)
    have E := Lib.hid (show ltrB c = false by unfold ltrB; rw [decide_eq_false (by omega), decide_eq_false (by omega)]; rfl)
    go_enter Tryz.func94, Tryz.ntmps94
    go_wp2
    go_ret
    exact ⟨by rw [E.out]; rfl, rfl⟩
theorem digitR (c : Nat) (w : World) : Calls Tryz.prog 93 #[.int .u8 c] w (SameV w (.bool (dgtB c))) := by
  by_cases h1 : 48 ≤ c
  · have d1 : decide ((48 : Int) ≤ c) = true := decide_eq_true (by omega)
    by_cases h2 : c ≤ 57
    · have d2 : decide ((c : Int) ≤ 57) = true := decide_eq_true (by omega)
      have E := Lib.hid (show dgtB c = true by unfold dgtB; rw [decide_eq_true ⟨h1, h2⟩])
      go_enter Tryz.func93, Tryz.ntmps93
      go_wp2
      go_ret
      exact ⟨by rw [E.out]; rfl, rfl⟩
    · have d2 : decide ((c : Int) ≤ 57) = false := decide_eq_false (by omega)
      have E := Lib.hid (show dgtB c = false by unfold dgtB; rw [decide_eq_false (by omega)])
      go_enter Tryz.func93, Tryz.ntmps93
      go_wp2
      go_ret
      exact ⟨by rw [E.out]; rfl, rfl⟩
  · have d1 : decide ((48 : Int) ≤ c) = false := decide_eq_false (by omega)
    have E := Lib.hid (show dgtB c = false by unfold dgtB; rw [decide_eq_false (by omega)])
    go_enter Tryz.func93, Tryz.ntmps93
    go_wp2
    go_ret
    exact ⟨by rw [E.out]; rfl, rfl⟩
def kindB (l : List Nat) (c : Nat) : Bool := ltrB c || dgtB c || l.contains c
def setB (s : ByteArray) : Bool := if h : 0 < s.size ∧ s.size ≤ 20 then !dgtB s[0].toNat && !(s[0].toNat == 45) && allB (kindB [95, 45]) s s.size else false
theorem setR (s : ByteArray) (hs : s.size ≤ maxLen) (w : World) : Calls Tryz.prog 62 #[.string s] w (SameV w (.bool (setB s))) := by
  have sz : s.size ≤ 9223372036854775807 := hs
  by_cases h1 : s.size < 1
  · have E := Lib.hid (show setB s = false by unfold setB; rw [dif_neg (by omega)])
    have d1 : decide ((s.size : Int) < 1) = true := decide_eq_true (by omega)
    go_enter Tryz.func62, Tryz.ntmps62
    go_wp2
    go_ret
    exact ⟨by rw [E.out]; rfl, rfl⟩
  have d1 : decide ((s.size : Int) < 1) = false := decide_eq_false (by omega)
  by_cases h2 : 20 < s.size
  · have E := Lib.hid (show setB s = false by unfold setB; rw [dif_neg (by omega)])
    have d2 : decide (20 < (s.size : Int)) = true := decide_eq_true (by omega)
    go_enter Tryz.func62, Tryz.ntmps62
    go_wp2
    go_ret
    exact ⟨by rw [E.out]; rfl, rfl⟩
  have d2 : decide (20 < (s.size : Int)) = false := decide_eq_false (by omega)
  have E : Hid (setB s = (!dgtB s[0].toNat && !(s[0].toNat == 45) && allB (kindB [95, 45]) s s.size)) := Lib.hid (by unfold setB; rw [dif_pos ⟨by omega, by omega⟩])
  cases eb : dgtB s[0].toNat with
  | true =>
    have E2 := Lib.hid (show setB s = false by rw [E.out, eb]; rfl)
    clear E
    have DG := Lib.hid (fun W => (eb ▸ digitR s[0].toNat W : Calls Tryz.prog 93 #[.int .u8 s[0].toNat] W (SameV W (.bool true))))
    clear eb
    go_enter Tryz.func62, Tryz.ntmps62
    go_wp2_with fail
    refine (DG.out _).mono ?_
    rintro e _w ⟨rfl, rfl⟩
    clear DG
    go_wp2
    go_ret
    exact ⟨by rw [E2.out]; rfl, rfl⟩
  | false =>
    by_cases q : s[0].toNat = 45
    · have E2 := Lib.hid (show setB s = false by rw [E.out, q]; simp)
      clear E
      have DG := Lib.hid (fun W => (eb ▸ digitR s[0].toNat W : Calls Tryz.prog 93 #[.int .u8 s[0].toNat] W (SameV W (.bool false))))
      have f : ((s[0].toNat : Int) == 45) = true := by rw [beq_iff_eq]; omega
      clear eb q
      go_enter Tryz.func62, Tryz.ntmps62
      go_wp2_with fail
      refine (DG.out _).mono ?_
      rintro e _w ⟨rfl, rfl⟩
      clear DG
      go_wp2
      go_ret
      exact ⟨by rw [E2.out]; rfl, rfl⟩
    · have E2 : Hid (setB s = allB (kindB [95, 45]) s s.size) := Lib.hid (by rw [E.out, eb, show (s[0].toNat == 45) = false from beq_eq_false_iff_ne.2 q]; rfl)
      clear E
      have DG := Lib.hid (fun W => (eb ▸ digitR s[0].toNat W : Calls Tryz.prog 93 #[.int .u8 s[0].toNat] W (SameV W (.bool false))))
      have f : ((s[0].toNat : Int) == 45) = false := by rw [beq_eq_false_iff_ne]; omega
      clear eb q
      have EF := Lib.hid (fun (h : allB (kindB [95, 45]) s s.size = false) => show setB s = false by rw [E2.out, h])
      go_enter Tryz.func62, Tryz.ntmps62
      go_wp2_with fail
      refine (DG.out _).mono ?_
      rintro e _w ⟨rfl, rfl⟩
      clear DG
      go_wp2_with fail
      clear f d1 d2
      go_loop [3] (fun v => ∃ k : Nat, k ≤ s.size ∧ v = .int .i64 k ∧ allB (kindB [95, 45]) s k = true) (fun v => s.size - (intOf v).toNat)
      case atStart => exact ⟨0, by omega, rfl, rfl⟩
      case round =>
        obtain ⟨k, hk, rfl, ha⟩ := hrel
        have HA := Lib.hid ha
        clear ha
        by_cases h1 : k < s.size
        · have d1 : decide ((k : Int) < s.size) = true := decide_eq_true (by omega)
          cases ea : ltrB s[k].toNat with
          | true =>
            have HK := Lib.hid (show kindB [95, 45] s[k].toNat = true by unfold kindB; rw [ea]; rfl)
            have LT := Lib.hid (fun W => (ea ▸ letterR s[k].toNat W : Calls Tryz.prog 94 #[.int .u8 s[k].toNat] W (SameV W (.bool true))))
            clear ea
            go_wp2_with fail
            refine (LT.out _).mono ?_
            rintro e _w ⟨rfl, rfl⟩
            clear LT
            have HN := Lib.hid (allB_on h1 HA.out HK.out)
            clear HA HK
            go_wp2_with fail
            go_round
            case rel => exact ⟨k + 1, by omega, int_eqS (by omega), HN.out⟩
            case measure => simp only [intOf]; omega
          | false =>
            cases eb : dgtB s[k].toNat with
            | true =>
              have HK := Lib.hid (show kindB [95, 45] s[k].toNat = true by unfold kindB; rw [ea, eb]; rfl)
              have LT := Lib.hid (fun W => (ea ▸ letterR s[k].toNat W : Calls Tryz.prog 94 #[.int .u8 s[k].toNat] W (SameV W (.bool false))))
              have DG := Lib.hid (fun W => (eb ▸ digitR s[k].toNat W : Calls Tryz.prog 93 #[.int .u8 s[k].toNat] W (SameV W (.bool true))))
              clear ea eb
              go_wp2_with fail
              refine (LT.out _).mono ?_
              rintro e _w ⟨rfl, rfl⟩
              clear LT
              go_wp2_with fail
              refine (DG.out _).mono ?_
              rintro e _w ⟨rfl, rfl⟩
              clear DG
              have HN := Lib.hid (allB_on h1 HA.out HK.out)
              clear HA HK
              go_wp2_with fail
              go_round
              case rel => exact ⟨k + 1, by omega, int_eqS (by omega), HN.out⟩
              case measure => simp only [intOf]; omega
            | false =>
              by_cases q0 : s[k].toNat = 95
              · have HK := Lib.hid (show kindB [95, 45] s[k].toNat = true by unfold kindB; rw [ea, eb, q0]; rfl)
                have LT := Lib.hid (fun W => (ea ▸ letterR s[k].toNat W : Calls Tryz.prog 94 #[.int .u8 s[k].toNat] W (SameV W (.bool false))))
                have DG := Lib.hid (fun W => (eb ▸ digitR s[k].toNat W : Calls Tryz.prog 93 #[.int .u8 s[k].toNat] W (SameV W (.bool false))))
                have f0 : ((s[k].toNat : Int) != 95) = false := by rw [bne_eq_false_iff_eq]; omega
                clear ea eb q0
                go_wp2_with fail
                refine (LT.out _).mono ?_
                rintro e _w ⟨rfl, rfl⟩
                clear LT
                go_wp2_with fail
                refine (DG.out _).mono ?_
                rintro e _w ⟨rfl, rfl⟩
                clear DG
                have HN := Lib.hid (allB_on h1 HA.out HK.out)
                clear HA HK
                go_wp2_with fail
                go_round
                case rel => exact ⟨k + 1, by omega, int_eqS (by omega), HN.out⟩
                case measure => simp only [intOf]; omega
              · by_cases q1 : s[k].toNat = 45
                · have HK := Lib.hid (show kindB [95, 45] s[k].toNat = true by unfold kindB; rw [ea, eb, q1]; rfl)
                  have LT := Lib.hid (fun W => (ea ▸ letterR s[k].toNat W : Calls Tryz.prog 94 #[.int .u8 s[k].toNat] W (SameV W (.bool false))))
                  have DG := Lib.hid (fun W => (eb ▸ digitR s[k].toNat W : Calls Tryz.prog 93 #[.int .u8 s[k].toNat] W (SameV W (.bool false))))
                  have f0 : ((s[k].toNat : Int) != 95) = true := by rw [bne_iff_ne]; omega
                  have f1 : ((s[k].toNat : Int) != 45) = false := by rw [bne_eq_false_iff_eq]; omega
                  clear ea eb q0 q1
                  go_wp2_with fail
                  refine (LT.out _).mono ?_
                  rintro e _w ⟨rfl, rfl⟩
                  clear LT
                  go_wp2_with fail
                  refine (DG.out _).mono ?_
                  rintro e _w ⟨rfl, rfl⟩
                  clear DG
                  have HN := Lib.hid (allB_on h1 HA.out HK.out)
                  clear HA HK
                  go_wp2_with fail
                  go_round
                  case rel => exact ⟨k + 1, by omega, int_eqS (by omega), HN.out⟩
                  case measure => simp only [intOf]; omega
                · have HK := Lib.hid (show kindB [95, 45] s[k].toNat = false by unfold kindB; rw [ea, eb]; simp [q0, q1])
                  have LT := Lib.hid (fun W => (ea ▸ letterR s[k].toNat W : Calls Tryz.prog 94 #[.int .u8 s[k].toNat] W (SameV W (.bool false))))
                  have DG := Lib.hid (fun W => (eb ▸ digitR s[k].toNat W : Calls Tryz.prog 93 #[.int .u8 s[k].toNat] W (SameV W (.bool false))))
                  have f0 : ((s[k].toNat : Int) != 95) = true := by rw [bne_iff_ne]; omega
                  have f1 : ((s[k].toNat : Int) != 45) = true := by rw [bne_iff_ne]; omega
                  clear ea eb q0 q1
                  go_wp2_with fail
                  refine (LT.out _).mono ?_
                  rintro e _w ⟨rfl, rfl⟩
                  clear LT
                  go_wp2_with fail
                  refine (DG.out _).mono ?_
                  rintro e _w ⟨rfl, rfl⟩
                  clear DG
                  have HE := Lib.hid (allB_no h1 HK.out)
                  clear HA HK
                  go_wp2
                  go_ret
                  exact ⟨by rw [EF.out HE.out]; rfl, rfl⟩
        · have e : k = s.size := by omega
          subst e
          have d1 : decide ((s.size : Int) < s.size) = false := decide_eq_false (by omega)
          go_wp2
          go_ret
          exact ⟨by rw [E2.out, HA.out]; rfl, rfl⟩
def lettersB (s : ByteArray) : Bool := allB (kindB [43, 45]) s s.size && decide (1 ≤ s.size ∧ s.size ≤ 8)
theorem lettersR (s : ByteArray) (hs : s.size ≤ maxLen) (w : World) : Calls Tryz.prog 63 #[.string s] w (SameV w (.bool (lettersB s))) := by
  have sz : s.size ≤ 9223372036854775807 := hs
  have EF := Lib.hid (fun (h : allB (kindB [43, 45]) s s.size = false) => show lettersB s = false by unfold lettersB; rw [h]; rfl)
  have ET := Lib.hid (fun (h : allB (kindB [43, 45]) s s.size = true) => show lettersB s = decide (1 ≤ s.size ∧ s.size ≤ 8) by unfold lettersB; rw [h]; rfl)
  go_enter Tryz.func63, Tryz.ntmps63
  go_wp2_with fail
  go_loop [3] (fun v => ∃ k : Nat, k ≤ s.size ∧ v = .int .i64 k ∧ allB (kindB [43, 45]) s k = true) (fun v => s.size - (intOf v).toNat)
  case atStart => exact ⟨0, by omega, rfl, rfl⟩
  case round =>
    obtain ⟨k, hk, rfl, ha⟩ := hrel
    have HA := Lib.hid ha
    clear ha
    by_cases h1 : k < s.size
    · have d1 : decide ((k : Int) < s.size) = true := decide_eq_true (by omega)
      cases ea : ltrB s[k].toNat with
      | true =>
        have HK := Lib.hid (show kindB [43, 45] s[k].toNat = true by unfold kindB; rw [ea]; rfl)
        have LT := Lib.hid (fun W => (ea ▸ letterR s[k].toNat W : Calls Tryz.prog 94 #[.int .u8 s[k].toNat] W (SameV W (.bool true))))
        clear ea
        go_wp2_with fail
        refine (LT.out _).mono ?_
        rintro e _w ⟨rfl, rfl⟩
        clear LT
        have HN := Lib.hid (allB_on h1 HA.out HK.out)
        clear HA HK
        go_wp2_with fail
        go_round
        case rel => exact ⟨k + 1, by omega, int_eqS (by omega), HN.out⟩
        case measure => simp only [intOf]; omega
      | false =>
        cases eb : dgtB s[k].toNat with
        | true =>
          have HK := Lib.hid (show kindB [43, 45] s[k].toNat = true by unfold kindB; rw [ea, eb]; rfl)
          have LT := Lib.hid (fun W => (ea ▸ letterR s[k].toNat W : Calls Tryz.prog 94 #[.int .u8 s[k].toNat] W (SameV W (.bool false))))
          have DG := Lib.hid (fun W => (eb ▸ digitR s[k].toNat W : Calls Tryz.prog 93 #[.int .u8 s[k].toNat] W (SameV W (.bool true))))
          clear ea eb
          go_wp2_with fail
          refine (LT.out _).mono ?_
          rintro e _w ⟨rfl, rfl⟩
          clear LT
          go_wp2_with fail
          refine (DG.out _).mono ?_
          rintro e _w ⟨rfl, rfl⟩
          clear DG
          have HN := Lib.hid (allB_on h1 HA.out HK.out)
          clear HA HK
          go_wp2_with fail
          go_round
          case rel => exact ⟨k + 1, by omega, int_eqS (by omega), HN.out⟩
          case measure => simp only [intOf]; omega
        | false =>
          by_cases q0 : s[k].toNat = 43
          · have HK := Lib.hid (show kindB [43, 45] s[k].toNat = true by unfold kindB; rw [ea, eb, q0]; rfl)
            have LT := Lib.hid (fun W => (ea ▸ letterR s[k].toNat W : Calls Tryz.prog 94 #[.int .u8 s[k].toNat] W (SameV W (.bool false))))
            have DG := Lib.hid (fun W => (eb ▸ digitR s[k].toNat W : Calls Tryz.prog 93 #[.int .u8 s[k].toNat] W (SameV W (.bool false))))
            have f0 : ((s[k].toNat : Int) != 43) = false := by rw [bne_eq_false_iff_eq]; omega
            clear ea eb q0
            go_wp2_with fail
            refine (LT.out _).mono ?_
            rintro e _w ⟨rfl, rfl⟩
            clear LT
            go_wp2_with fail
            refine (DG.out _).mono ?_
            rintro e _w ⟨rfl, rfl⟩
            clear DG
            have HN := Lib.hid (allB_on h1 HA.out HK.out)
            clear HA HK
            go_wp2_with fail
            go_round
            case rel => exact ⟨k + 1, by omega, int_eqS (by omega), HN.out⟩
            case measure => simp only [intOf]; omega
          · by_cases q1 : s[k].toNat = 45
            · have HK := Lib.hid (show kindB [43, 45] s[k].toNat = true by unfold kindB; rw [ea, eb, q1]; rfl)
              have LT := Lib.hid (fun W => (ea ▸ letterR s[k].toNat W : Calls Tryz.prog 94 #[.int .u8 s[k].toNat] W (SameV W (.bool false))))
              have DG := Lib.hid (fun W => (eb ▸ digitR s[k].toNat W : Calls Tryz.prog 93 #[.int .u8 s[k].toNat] W (SameV W (.bool false))))
              have f0 : ((s[k].toNat : Int) != 43) = true := by rw [bne_iff_ne]; omega
              have f1 : ((s[k].toNat : Int) != 45) = false := by rw [bne_eq_false_iff_eq]; omega
              clear ea eb q0 q1
              go_wp2_with fail
              refine (LT.out _).mono ?_
              rintro e _w ⟨rfl, rfl⟩
              clear LT
              go_wp2_with fail
              refine (DG.out _).mono ?_
              rintro e _w ⟨rfl, rfl⟩
              clear DG
              have HN := Lib.hid (allB_on h1 HA.out HK.out)
              clear HA HK
              go_wp2_with fail
              go_round
              case rel => exact ⟨k + 1, by omega, int_eqS (by omega), HN.out⟩
              case measure => simp only [intOf]; omega
            · have HK := Lib.hid (show kindB [43, 45] s[k].toNat = false by unfold kindB; rw [ea, eb]; simp [q0, q1])
              have LT := Lib.hid (fun W => (ea ▸ letterR s[k].toNat W : Calls Tryz.prog 94 #[.int .u8 s[k].toNat] W (SameV W (.bool false))))
              have DG := Lib.hid (fun W => (eb ▸ digitR s[k].toNat W : Calls Tryz.prog 93 #[.int .u8 s[k].toNat] W (SameV W (.bool false))))
              have f0 : ((s[k].toNat : Int) != 43) = true := by rw [bne_iff_ne]; omega
              have f1 : ((s[k].toNat : Int) != 45) = true := by rw [bne_iff_ne]; omega
              clear ea eb q0 q1
              go_wp2_with fail
              refine (LT.out _).mono ?_
              rintro e _w ⟨rfl, rfl⟩
              clear LT
              go_wp2_with fail
              refine (DG.out _).mono ?_
              rintro e _w ⟨rfl, rfl⟩
              clear DG
              have HE := Lib.hid (allB_no h1 HK.out)
              clear HA HK
              go_wp2
              go_ret
              exact ⟨by rw [EF.out HE.out]; rfl, rfl⟩
    · have e : k = s.size := by omega
      subst e
      have d1 : decide ((s.size : Int) < s.size) = false := decide_eq_false (by omega)
      by_cases h2 : 1 ≤ s.size
      · have d2 : decide (1 ≤ (s.size : Int)) = true := decide_eq_true (by omega)
        by_cases h3 : s.size ≤ 8
        · have d3 : decide ((s.size : Int) ≤ 8) = true := decide_eq_true (by omega)
          have HD := Lib.hid (show decide (1 ≤ s.size ∧ s.size ≤ 8) = true from decide_eq_true ⟨h2, h3⟩)
          go_wp2
          go_ret
          exact ⟨by rw [ET.out HA.out, HD.out]; rfl, rfl⟩
        · have d3 : decide ((s.size : Int) ≤ 8) = false := decide_eq_false (by omega)
          have HD := Lib.hid (show decide (1 ≤ s.size ∧ s.size ≤ 8) = false from decide_eq_false (by omega))
          go_wp2
          go_ret
          exact ⟨by rw [ET.out HA.out, HD.out]; rfl, rfl⟩
      · have d2 : decide (1 ≤ (s.size : Int)) = false := decide_eq_false (by omega)
        have HD := Lib.hid (show decide (1 ≤ s.size ∧ s.size ≤ 8) = false from decide_eq_false (by omega))
        go_wp2
        go_ret
        exact ⟨by rw [ET.out HA.out, HD.out]; rfl, rfl⟩
abbrev Flt := Int × Int × Int
def Flt.val (f : Flt) : Value := .agg #[.int .i64 f.1, .int .i64 f.2.1, .int .i64 f.2.2]
def fmtGo (s : ByteArray) (k p q : Nat) : Option (Nat × Nat) :=
  if h : k < s.size then
    (if s[k].toNat = 37 then (if h' : k + 1 < s.size then (if s[k + 1].toNat = 115 ∨ s[k + 1].toNat = 122 then fmtGo s (k + 1) (p + 1) q else none) else none)
    else if s[k].toNat = 47 then (if k = 0 ∨ k + 1 = s.size then none else fmtGo s (k + 1) p (q + 1))
    else if kindB [43, 45] s[k].toNat = true then fmtGo s (k + 1) p q else none) else some (p, q)
termination_by s.size - k
theorem fmt_pc {s : ByteArray} {k p q : Nat} (h : k < s.size) (e : s[k].toNat = 37) (h' : k + 1 < s.size) (z : s[k + 1].toNat = 115 ∨ s[k + 1].toNat = 122) : fmtGo s k p q = fmtGo s (k + 1) (p + 1) q := by rw [fmtGo, dif_pos h, if_pos e, dif_pos h', if_pos z]
theorem fmt_pc0 {s : ByteArray} {k p q : Nat} (h : k < s.size) (e : s[k].toNat = 37) (h' : ¬ k + 1 < s.size) : fmtGo s k p q = none := by rw [fmtGo, dif_pos h, if_pos e, dif_neg h']
theorem fmt_pc1 {s : ByteArray} {k p q : Nat} (h : k < s.size) (e : s[k].toNat = 37) (h' : k + 1 < s.size) (z : ¬ (s[k + 1].toNat = 115 ∨ s[k + 1].toNat = 122)) : fmtGo s k p q = none := by rw [fmtGo, dif_pos h, if_pos e, dif_pos h', if_neg z]
theorem fmt_sl0 {s : ByteArray} {k p q : Nat} (h : k < s.size) (n : ¬ s[k].toNat = 37) (e : s[k].toNat = 47) (z : k = 0 ∨ k + 1 = s.size) : fmtGo s k p q = none := by rw [fmtGo, dif_pos h, if_neg n, if_pos e, if_pos z]
theorem fmt_sl {s : ByteArray} {k p q : Nat} (h : k < s.size) (n : ¬ s[k].toNat = 37) (e : s[k].toNat = 47) (z : ¬ (k = 0 ∨ k + 1 = s.size)) : fmtGo s k p q = fmtGo s (k + 1) p (q + 1) := by rw [fmtGo, dif_pos h, if_neg n, if_pos e, if_neg z]
theorem fmt_on {s : ByteArray} {k p q : Nat} (h : k < s.size) (n : ¬ s[k].toNat = 37) (e : ¬ s[k].toNat = 47) (z : kindB [43, 45] s[k].toNat = true) : fmtGo s k p q = fmtGo s (k + 1) p q := by rw [fmtGo, dif_pos h, if_neg n, if_neg e, if_pos z]
theorem fmt_no {s : ByteArray} {k p q : Nat} (h : k < s.size) (n : ¬ s[k].toNat = 37) (e : ¬ s[k].toNat = 47) (z : kindB [43, 45] s[k].toNat = false) : fmtGo s k p q = none := by rw [fmtGo, dif_pos h, if_neg n, if_neg e, if_neg (by rw [z]; decide)]
theorem fmt_end {s : ByteArray} {k p q : Nat} (h : ¬ k < s.size) : fmtGo s k p q = some (p, q) := by rw [fmtGo, dif_neg h]
def formatB (s : ByteArray) : Bool := match fmtGo s 0 0 0 with | none => false | some (p, q) => decide (1 ≤ s.size) && decide (s.size ≤ 20) && decide (p + q ≤ 1)
theorem formatR (s : ByteArray) (hs : s.size ≤ maxLen) (w : World) : Calls Tryz.prog 95 #[.string s] w (SameV w (.bool (formatB s))) := by
  have sz : s.size ≤ 9223372036854775807 := hs
  have EF := Lib.hid (fun (h : fmtGo s 0 0 0 = none) => show formatB s = false by unfold formatB; rw [h])
  have ET := Lib.hid (fun (p q : Nat) (h : fmtGo s 0 0 0 = some (p, q)) => show formatB s = (decide (1 ≤ s.size) && decide (s.size ≤ 20) && decide (p + q ≤ 1)) by unfold formatB; rw [h])
  go_enter Tryz.func95, Tryz.ntmps95
  go_wp2_with fail
  go_loop [3, 4, 5] (fun v3 v4 v5 => ∃ k p q : Nat, k ≤ s.size ∧ p ≤ k ∧ p + q ≤ k ∧ v5 = .int .i64 k ∧ v3 = .int .i64 p ∧ v4 = .int .i64 q ∧ fmtGo s 0 0 0 = fmtGo s k p q) (fun _ _ v => s.size - (intOf v).toNat)
  case atStart => exact ⟨0, 0, 0, by omega, by omega, by omega, rfl, rfl, rfl, rfl⟩
  case round =>
    obtain ⟨k, p, q, hk, hp, hq, rfl, rfl, rfl, ha⟩ := hrel
    have HA := Lib.hid ha
    clear ha
    by_cases h1 : k < s.size
    · have d1 : decide ((k : Int) < s.size) = true := decide_eq_true (by omega)
      by_cases h2 : s[k].toNat = 37
      · have f : ((s[k].toNat : Int) == 37) = true := by rw [beq_iff_eq]; omega
        by_cases h3 : k + 1 < s.size
        · have d2 : decide ((s.size : Int) ≤ (k : Int) + 1) = false := decide_eq_false (by omega)
          by_cases h4 : s[k + 1].toNat = 115
          · have HE := Lib.hid (HA.out.trans (fmt_pc h1 h2 h3 (.inl h4)))
            have g1 : ((s[k + 1].toNat : Int) != 115) = false := by rw [bne_eq_false_iff_eq]; omega
            clear HA h2 h4
            go_wp2_with fail
            go_round
            case rel => exact ⟨k + 1, p + 1, q, by omega, by omega, by omega, int_eqS (by omega), int_eqS (by omega), int_eqS (by omega), HE.out⟩
            case measure => simp only [intOf]; omega
          have g1 : ((s[k + 1].toNat : Int) != 115) = true := by rw [bne_iff_ne]; omega
          by_cases h5 : s[k + 1].toNat = 122
          · have HE := Lib.hid (HA.out.trans (fmt_pc h1 h2 h3 (.inr h5)))
            have g2 : ((s[k + 1].toNat : Int) != 122) = false := by rw [bne_eq_false_iff_eq]; omega
            clear HA h2 h4 h5
            go_wp2_with fail
            go_round
            case rel => exact ⟨k + 1, p + 1, q, by omega, by omega, by omega, int_eqS (by omega), int_eqS (by omega), int_eqS (by omega), HE.out⟩
            case measure => simp only [intOf]; omega
          · have HE := Lib.hid (HA.out.trans (fmt_pc1 h1 h2 h3 (by omega)))
            have g2 : ((s[k + 1].toNat : Int) != 122) = true := by rw [bne_iff_ne]; omega
            clear HA h2 h4 h5
            go_wp2
            go_ret
            exact ⟨by rw [EF.out HE.out]; rfl, rfl⟩
        · have HE := Lib.hid (HA.out.trans (fmt_pc0 h1 h2 h3))
          have d2 : decide ((s.size : Int) ≤ (k : Int) + 1) = true := decide_eq_true (by omega)
          clear HA h2
          go_wp2
          go_ret
          exact ⟨by rw [EF.out HE.out]; rfl, rfl⟩
      have f : ((s[k].toNat : Int) == 37) = false := by rw [beq_eq_false_iff_ne]; omega
      by_cases h3 : s[k].toNat = 47
      · have f' : ((s[k].toNat : Int) == 47) = true := by rw [beq_iff_eq]; omega
        by_cases h4 : k = 0
        · have HE := Lib.hid (HA.out.trans (fmt_sl0 h1 h2 h3 (.inl h4)))
          have g : ((k : Int) == 0) = true := by rw [beq_iff_eq]; omega
          clear HA h2 h3 h4
          go_wp2
          go_ret
          exact ⟨by rw [EF.out HE.out]; rfl, rfl⟩
        have g : ((k : Int) == 0) = false := by rw [beq_eq_false_iff_ne]; omega
        by_cases h5 : k + 1 = s.size
        · have HE := Lib.hid (HA.out.trans (fmt_sl0 h1 h2 h3 (.inr h5)))
          have g' : ((k : Int) == (s.size : Int) - 1) = true := by rw [beq_iff_eq]; omega
          clear HA h2 h3 h4 h5
          go_wp2
          go_ret
          exact ⟨by rw [EF.out HE.out]; rfl, rfl⟩
        · have HE := Lib.hid (HA.out.trans (fmt_sl h1 h2 h3 (by omega)))
          have g' : ((k : Int) == (s.size : Int) - 1) = false := by rw [beq_eq_false_iff_ne]; omega
          clear HA h2 h3 h4 h5
          go_wp2_with fail
          go_round
          case rel => exact ⟨k + 1, p, q + 1, by omega, by omega, by omega, int_eqS (by omega), int_eqS (by omega), int_eqS (by omega), HE.out⟩
          case measure => simp only [intOf]; omega
      · have f' : ((s[k].toNat : Int) == 47) = false := by rw [beq_eq_false_iff_ne]; omega
        have H2 := Lib.hid h2
        have H3 := Lib.hid h3
        clear h2 h3
        cases ea : ltrB s[k].toNat with
        | true =>
          have HK := Lib.hid (show kindB [43, 45] s[k].toNat = true by unfold kindB; rw [ea]; rfl)
          have LT := Lib.hid (fun W => (ea ▸ letterR s[k].toNat W : Calls Tryz.prog 94 #[.int .u8 s[k].toNat] W (SameV W (.bool true))))
          clear ea
          go_wp2_with fail
          refine (LT.out _).mono ?_
          rintro e _w ⟨rfl, rfl⟩
          clear LT
          have HE := Lib.hid (HA.out.trans (fmt_on h1 H2.out H3.out HK.out))
          clear HA HK H2 H3
          go_wp2_with fail
          go_round
          case rel => exact ⟨k + 1, p, q, by omega, by omega, by omega, int_eqS (by omega), int_eqS (by omega), int_eqS (by omega), HE.out⟩
          case measure => simp only [intOf]; omega
        | false =>
          cases eb : dgtB s[k].toNat with
          | true =>
            have HK := Lib.hid (show kindB [43, 45] s[k].toNat = true by unfold kindB; rw [ea, eb]; rfl)
            have LT := Lib.hid (fun W => (ea ▸ letterR s[k].toNat W : Calls Tryz.prog 94 #[.int .u8 s[k].toNat] W (SameV W (.bool false))))
            have DG := Lib.hid (fun W => (eb ▸ digitR s[k].toNat W : Calls Tryz.prog 93 #[.int .u8 s[k].toNat] W (SameV W (.bool true))))
            clear ea eb
            go_wp2_with fail
            refine (LT.out _).mono ?_
            rintro e _w ⟨rfl, rfl⟩
            clear LT
            go_wp2_with fail
            refine (DG.out _).mono ?_
            rintro e _w ⟨rfl, rfl⟩
            clear DG
            have HE := Lib.hid (HA.out.trans (fmt_on h1 H2.out H3.out HK.out))
            clear HA HK H2 H3
            go_wp2_with fail
            go_round
            case rel => exact ⟨k + 1, p, q, by omega, by omega, by omega, int_eqS (by omega), int_eqS (by omega), int_eqS (by omega), HE.out⟩
            case measure => simp only [intOf]; omega
          | false =>
            by_cases q0 : s[k].toNat = 43
            · have HK := Lib.hid (show kindB [43, 45] s[k].toNat = true by unfold kindB; rw [ea, eb, q0]; rfl)
              have LT := Lib.hid (fun W => (ea ▸ letterR s[k].toNat W : Calls Tryz.prog 94 #[.int .u8 s[k].toNat] W (SameV W (.bool false))))
              have DG := Lib.hid (fun W => (eb ▸ digitR s[k].toNat W : Calls Tryz.prog 93 #[.int .u8 s[k].toNat] W (SameV W (.bool false))))
              have f0 : ((s[k].toNat : Int) != 43) = false := by rw [bne_eq_false_iff_eq]; omega
              clear ea eb q0
              go_wp2_with fail
              refine (LT.out _).mono ?_
              rintro e _w ⟨rfl, rfl⟩
              clear LT
              go_wp2_with fail
              refine (DG.out _).mono ?_
              rintro e _w ⟨rfl, rfl⟩
              clear DG
              have HE := Lib.hid (HA.out.trans (fmt_on h1 H2.out H3.out HK.out))
              clear HA HK H2 H3
              go_wp2_with fail
              go_round
              case rel => exact ⟨k + 1, p, q, by omega, by omega, by omega, int_eqS (by omega), int_eqS (by omega), int_eqS (by omega), HE.out⟩
              case measure => simp only [intOf]; omega
            · by_cases q1 : s[k].toNat = 45
              · have HK := Lib.hid (show kindB [43, 45] s[k].toNat = true by unfold kindB; rw [ea, eb, q1]; rfl)
                have LT := Lib.hid (fun W => (ea ▸ letterR s[k].toNat W : Calls Tryz.prog 94 #[.int .u8 s[k].toNat] W (SameV W (.bool false))))
                have DG := Lib.hid (fun W => (eb ▸ digitR s[k].toNat W : Calls Tryz.prog 93 #[.int .u8 s[k].toNat] W (SameV W (.bool false))))
                have f0 : ((s[k].toNat : Int) != 43) = true := by rw [bne_iff_ne]; omega
                have f1 : ((s[k].toNat : Int) != 45) = false := by rw [bne_eq_false_iff_eq]; omega
                clear ea eb q0 q1
                go_wp2_with fail
                refine (LT.out _).mono ?_
                rintro e _w ⟨rfl, rfl⟩
                clear LT
                go_wp2_with fail
                refine (DG.out _).mono ?_
                rintro e _w ⟨rfl, rfl⟩
                clear DG
                have HE := Lib.hid (HA.out.trans (fmt_on h1 H2.out H3.out HK.out))
                clear HA HK H2 H3
                go_wp2_with fail
                go_round
                case rel => exact ⟨k + 1, p, q, by omega, by omega, by omega, int_eqS (by omega), int_eqS (by omega), int_eqS (by omega), HE.out⟩
                case measure => simp only [intOf]; omega
              · have HK := Lib.hid (show kindB [43, 45] s[k].toNat = false by unfold kindB; rw [ea, eb]; simp [q0, q1])
                have LT := Lib.hid (fun W => (ea ▸ letterR s[k].toNat W : Calls Tryz.prog 94 #[.int .u8 s[k].toNat] W (SameV W (.bool false))))
                have DG := Lib.hid (fun W => (eb ▸ digitR s[k].toNat W : Calls Tryz.prog 93 #[.int .u8 s[k].toNat] W (SameV W (.bool false))))
                have f0 : ((s[k].toNat : Int) != 43) = true := by rw [bne_iff_ne]; omega
                have f1 : ((s[k].toNat : Int) != 45) = true := by rw [bne_iff_ne]; omega
                clear ea eb q0 q1
                go_wp2_with fail
                refine (LT.out _).mono ?_
                rintro e _w ⟨rfl, rfl⟩
                clear LT
                go_wp2_with fail
                refine (DG.out _).mono ?_
                rintro e _w ⟨rfl, rfl⟩
                clear DG
                have HE := Lib.hid (HA.out.trans (fmt_no h1 H2.out H3.out HK.out))
                clear HA HK H2 H3
                go_wp2
                go_ret
                exact ⟨by rw [EF.out HE.out]; rfl, rfl⟩
    · have e : k = s.size := by omega
      subst e
      have HT := Lib.hid (ET.out p q (HA.out.trans (fmt_end (by omega))))
      clear HA
      have d1 : decide ((s.size : Int) < s.size) = false := decide_eq_false (by omega)
      by_cases h2 : 1 ≤ s.size
      · have d2 : decide (1 ≤ (s.size : Int)) = true := decide_eq_true (by omega)
        by_cases h3 : s.size ≤ 20
        · have d3 : decide ((s.size : Int) ≤ 20) = true := decide_eq_true (by omega)
          by_cases h4 : p + q ≤ 1
          · have d4 : decide ((p : Int) + q ≤ 1) = true := decide_eq_true (by omega)
            have HD := Lib.hid (show (decide (1 ≤ s.size) && decide (s.size ≤ 20) && decide (p + q ≤ 1)) = true by rw [decide_eq_true h2, decide_eq_true h3, decide_eq_true h4]; rfl)
            go_wp2
            go_ret
            exact ⟨by rw [HT.out, HD.out]; rfl, rfl⟩
          · have d4 : decide ((p : Int) + q ≤ 1) = false := decide_eq_false (by omega)
            have HD := Lib.hid (show (decide (1 ≤ s.size) && decide (s.size ≤ 20) && decide (p + q ≤ 1)) = false by rw [decide_eq_false h4, Bool.and_false])
            go_wp2
            go_ret
            exact ⟨by rw [HT.out, HD.out]; rfl, rfl⟩
        · have d3 : decide ((s.size : Int) ≤ 20) = false := decide_eq_false (by omega)
          have HD := Lib.hid (show (decide (1 ≤ s.size) && decide (s.size ≤ 20) && decide (p + q ≤ 1)) = false by rw [decide_eq_false h3, Bool.and_false, Bool.false_and])
          go_wp2
          go_ret
          exact ⟨by rw [HT.out, HD.out]; rfl, rfl⟩
      · have d2 : decide (1 ≤ (s.size : Int)) = false := decide_eq_false (by omega)
        have HD := Lib.hid (show (decide (1 ≤ s.size) && decide (s.size ≤ 20) && decide (p + q ≤ 1)) = false by rw [decide_eq_false h2]; rfl)
        go_wp2
        go_ret
        exact ⟨by rw [HT.out, HD.out]; rfl, rfl⟩
def plcGo (s : ByteArray) (k p : Nat) : Option Nat :=
  if h : k < s.size then (if s[k].toNat = 47 then (if p = 0 then none else plcGo s (k + 1) 0) else if kindB [95, 43, 45] s[k].toNat = true then plcGo s (k + 1) (p + 1) else none) else some p
termination_by s.size - k
theorem plc_cut0 {s : ByteArray} {k p : Nat} (h : k < s.size) (e : s[k].toNat = 47) (z : p = 0) : plcGo s k p = none := by rw [plcGo, dif_pos h, if_pos e, if_pos z]
theorem plc_cut {s : ByteArray} {k p : Nat} (h : k < s.size) (e : s[k].toNat = 47) (z : ¬ p = 0) : plcGo s k p = plcGo s (k + 1) 0 := by rw [plcGo, dif_pos h, if_pos e, if_neg z]
theorem plc_on {s : ByteArray} {k p : Nat} (h : k < s.size) (e : ¬ s[k].toNat = 47) (z : kindB [95, 43, 45] s[k].toNat = true) : plcGo s k p = plcGo s (k + 1) (p + 1) := by rw [plcGo, dif_pos h, if_neg e, if_pos z]
theorem plc_no {s : ByteArray} {k p : Nat} (h : k < s.size) (e : ¬ s[k].toNat = 47) (z : kindB [95, 43, 45] s[k].toNat = false) : plcGo s k p = none := by rw [plcGo, dif_pos h, if_neg e, if_neg (by rw [z]; decide)]
theorem plc_end {s : ByteArray} {k p : Nat} (h : ¬ k < s.size) : plcGo s k p = some p := by rw [plcGo, dif_neg h]
def placeB (s : ByteArray) : Bool := match plcGo s 0 0 with | none => false | some p => decide (0 < p) && decide (s.size ≤ 40)
theorem placeR (s : ByteArray) (hs : s.size ≤ maxLen) (w : World) : Calls Tryz.prog 64 #[.string s] w (SameV w (.bool (placeB s))) := by
  have sz : s.size ≤ 9223372036854775807 := hs
  have EF := Lib.hid (fun (h : plcGo s 0 0 = none) => show placeB s = false by unfold placeB; rw [h])
  have ET := Lib.hid (fun (p : Nat) (h : plcGo s 0 0 = some p) => show placeB s = (decide (0 < p) && decide (s.size ≤ 40)) by unfold placeB; rw [h])
  go_enter Tryz.func64, Tryz.ntmps64
  go_wp2_with fail
  go_loop [3, 4] (fun v3 v4 => ∃ k p : Nat, k ≤ s.size ∧ p ≤ k ∧ v4 = .int .i64 k ∧ v3 = .int .i64 p ∧ plcGo s 0 0 = plcGo s k p) (fun _ v => s.size - (intOf v).toNat)
  case atStart => exact ⟨0, 0, by omega, by omega, rfl, rfl, rfl⟩
  case round =>
    obtain ⟨k, p, hk, hp, rfl, rfl, ha⟩ := hrel
    have HA := Lib.hid ha
    clear ha
    by_cases h1 : k < s.size
    · have d1 : decide ((k : Int) < s.size) = true := decide_eq_true (by omega)
      by_cases h2 : s[k].toNat = 47
      · have f : ((s[k].toNat : Int) == 47) = true := by rw [beq_iff_eq]; omega
        by_cases h3 : p = 0
        · have HE := Lib.hid (HA.out.trans (plc_cut0 h1 h2 h3))
          have g : ((p : Int) == 0) = true := by rw [beq_iff_eq]; omega
          clear HA h2 h3
          go_wp2
          go_ret
          exact ⟨by rw [EF.out HE.out]; rfl, rfl⟩
        · have HE := Lib.hid (HA.out.trans (plc_cut h1 h2 h3))
          have g : ((p : Int) == 0) = false := by rw [beq_eq_false_iff_ne]; omega
          clear HA h2 h3
          go_wp2_with fail
          go_round
          case rel => exact ⟨k + 1, 0, by omega, by omega, int_eqS (by omega), rfl, HE.out⟩
          case measure => simp only [intOf]; omega
      · have f : ((s[k].toNat : Int) == 47) = false := by rw [beq_eq_false_iff_ne]; omega
        have H2 := Lib.hid h2
        clear h2
        cases ea : ltrB s[k].toNat with
        | true =>
          have HK := Lib.hid (show kindB [95, 43, 45] s[k].toNat = true by unfold kindB; rw [ea]; rfl)
          have LT := Lib.hid (fun W => (ea ▸ letterR s[k].toNat W : Calls Tryz.prog 94 #[.int .u8 s[k].toNat] W (SameV W (.bool true))))
          clear ea
          go_wp2_with fail
          refine (LT.out _).mono ?_
          rintro e _w ⟨rfl, rfl⟩
          clear LT
          have HE := Lib.hid (HA.out.trans (plc_on h1 H2.out HK.out))
          clear HA HK H2
          go_wp2_with fail
          go_round
          case rel => exact ⟨k + 1, p + 1, by omega, by omega, int_eqS (by omega), int_eqS (by omega), HE.out⟩
          case measure => simp only [intOf]; omega
        | false =>
          cases eb : dgtB s[k].toNat with
          | true =>
            have HK := Lib.hid (show kindB [95, 43, 45] s[k].toNat = true by unfold kindB; rw [ea, eb]; rfl)
            have LT := Lib.hid (fun W => (ea ▸ letterR s[k].toNat W : Calls Tryz.prog 94 #[.int .u8 s[k].toNat] W (SameV W (.bool false))))
            have DG := Lib.hid (fun W => (eb ▸ digitR s[k].toNat W : Calls Tryz.prog 93 #[.int .u8 s[k].toNat] W (SameV W (.bool true))))
            clear ea eb
            go_wp2_with fail
            refine (LT.out _).mono ?_
            rintro e _w ⟨rfl, rfl⟩
            clear LT
            go_wp2_with fail
            refine (DG.out _).mono ?_
            rintro e _w ⟨rfl, rfl⟩
            clear DG
            have HE := Lib.hid (HA.out.trans (plc_on h1 H2.out HK.out))
            clear HA HK H2
            go_wp2_with fail
            go_round
            case rel => exact ⟨k + 1, p + 1, by omega, by omega, int_eqS (by omega), int_eqS (by omega), HE.out⟩
            case measure => simp only [intOf]; omega
          | false =>
            by_cases q0 : s[k].toNat = 95
            · have HK := Lib.hid (show kindB [95, 43, 45] s[k].toNat = true by unfold kindB; rw [ea, eb, q0]; rfl)
              have LT := Lib.hid (fun W => (ea ▸ letterR s[k].toNat W : Calls Tryz.prog 94 #[.int .u8 s[k].toNat] W (SameV W (.bool false))))
              have DG := Lib.hid (fun W => (eb ▸ digitR s[k].toNat W : Calls Tryz.prog 93 #[.int .u8 s[k].toNat] W (SameV W (.bool false))))
              have f0 : ((s[k].toNat : Int) != 95) = false := by rw [bne_eq_false_iff_eq]; omega
              clear ea eb q0
              go_wp2_with fail
              refine (LT.out _).mono ?_
              rintro e _w ⟨rfl, rfl⟩
              clear LT
              go_wp2_with fail
              refine (DG.out _).mono ?_
              rintro e _w ⟨rfl, rfl⟩
              clear DG
              have HE := Lib.hid (HA.out.trans (plc_on h1 H2.out HK.out))
              clear HA HK H2
              go_wp2_with fail
              go_round
              case rel => exact ⟨k + 1, p + 1, by omega, by omega, int_eqS (by omega), int_eqS (by omega), HE.out⟩
              case measure => simp only [intOf]; omega
            · by_cases q1 : s[k].toNat = 43
              · have HK := Lib.hid (show kindB [95, 43, 45] s[k].toNat = true by unfold kindB; rw [ea, eb, q1]; rfl)
                have LT := Lib.hid (fun W => (ea ▸ letterR s[k].toNat W : Calls Tryz.prog 94 #[.int .u8 s[k].toNat] W (SameV W (.bool false))))
                have DG := Lib.hid (fun W => (eb ▸ digitR s[k].toNat W : Calls Tryz.prog 93 #[.int .u8 s[k].toNat] W (SameV W (.bool false))))
                have f0 : ((s[k].toNat : Int) != 95) = true := by rw [bne_iff_ne]; omega
                have f1 : ((s[k].toNat : Int) != 43) = false := by rw [bne_eq_false_iff_eq]; omega
                clear ea eb q0 q1
                go_wp2_with fail
                refine (LT.out _).mono ?_
                rintro e _w ⟨rfl, rfl⟩
                clear LT
                go_wp2_with fail
                refine (DG.out _).mono ?_
                rintro e _w ⟨rfl, rfl⟩
                clear DG
                have HE := Lib.hid (HA.out.trans (plc_on h1 H2.out HK.out))
                clear HA HK H2
                go_wp2_with fail
                go_round
                case rel => exact ⟨k + 1, p + 1, by omega, by omega, int_eqS (by omega), int_eqS (by omega), HE.out⟩
                case measure => simp only [intOf]; omega
              · by_cases q2 : s[k].toNat = 45
                · have HK := Lib.hid (show kindB [95, 43, 45] s[k].toNat = true by unfold kindB; rw [ea, eb, q2]; rfl)
                  have LT := Lib.hid (fun W => (ea ▸ letterR s[k].toNat W : Calls Tryz.prog 94 #[.int .u8 s[k].toNat] W (SameV W (.bool false))))
                  have DG := Lib.hid (fun W => (eb ▸ digitR s[k].toNat W : Calls Tryz.prog 93 #[.int .u8 s[k].toNat] W (SameV W (.bool false))))
                  have f0 : ((s[k].toNat : Int) != 95) = true := by rw [bne_iff_ne]; omega
                  have f1 : ((s[k].toNat : Int) != 43) = true := by rw [bne_iff_ne]; omega
                  have f2 : ((s[k].toNat : Int) != 45) = false := by rw [bne_eq_false_iff_eq]; omega
                  clear ea eb q0 q1 q2
                  go_wp2_with fail
                  refine (LT.out _).mono ?_
                  rintro e _w ⟨rfl, rfl⟩
                  clear LT
                  go_wp2_with fail
                  refine (DG.out _).mono ?_
                  rintro e _w ⟨rfl, rfl⟩
                  clear DG
                  have HE := Lib.hid (HA.out.trans (plc_on h1 H2.out HK.out))
                  clear HA HK H2
                  go_wp2_with fail
                  go_round
                  case rel => exact ⟨k + 1, p + 1, by omega, by omega, int_eqS (by omega), int_eqS (by omega), HE.out⟩
                  case measure => simp only [intOf]; omega
                · have HK := Lib.hid (show kindB [95, 43, 45] s[k].toNat = false by unfold kindB; rw [ea, eb]; simp [q0, q1, q2])
                  have LT := Lib.hid (fun W => (ea ▸ letterR s[k].toNat W : Calls Tryz.prog 94 #[.int .u8 s[k].toNat] W (SameV W (.bool false))))
                  have DG := Lib.hid (fun W => (eb ▸ digitR s[k].toNat W : Calls Tryz.prog 93 #[.int .u8 s[k].toNat] W (SameV W (.bool false))))
                  have f0 : ((s[k].toNat : Int) != 95) = true := by rw [bne_iff_ne]; omega
                  have f1 : ((s[k].toNat : Int) != 43) = true := by rw [bne_iff_ne]; omega
                  have f2 : ((s[k].toNat : Int) != 45) = true := by rw [bne_iff_ne]; omega
                  clear ea eb q0 q1 q2
                  go_wp2_with fail
                  refine (LT.out _).mono ?_
                  rintro e _w ⟨rfl, rfl⟩
                  clear LT
                  go_wp2_with fail
                  refine (DG.out _).mono ?_
                  rintro e _w ⟨rfl, rfl⟩
                  clear DG
                  have HE := Lib.hid (HA.out.trans (plc_no h1 H2.out HK.out))
                  clear HA HK H2
                  go_wp2
                  go_ret
                  exact ⟨by rw [EF.out HE.out]; rfl, rfl⟩
    · have e : k = s.size := by omega
      subst e
      have HT := Lib.hid (ET.out p (HA.out.trans (plc_end (by omega))))
      clear HA
      have d1 : decide ((s.size : Int) < s.size) = false := decide_eq_false (by omega)
      by_cases h2 : 0 < p
      · have d2 : decide (0 < (p : Int)) = true := decide_eq_true (by omega)
        by_cases h3 : s.size ≤ 40
        · have d3 : decide ((s.size : Int) ≤ 40) = true := decide_eq_true (by omega)
          have HD := Lib.hid (show (decide (0 < p) && decide (s.size ≤ 40)) = true by rw [decide_eq_true h2, decide_eq_true h3]; rfl)
          go_wp2
          go_ret
          exact ⟨by rw [HT.out, HD.out]; rfl, rfl⟩
        · have d3 : decide ((s.size : Int) ≤ 40) = false := decide_eq_false (by omega)
          have HD := Lib.hid (show (decide (0 < p) && decide (s.size ≤ 40)) = false by rw [decide_eq_false h3, Bool.and_false])
          go_wp2
          go_ret
          exact ⟨by rw [HT.out, HD.out]; rfl, rfl⟩
      · have d2 : decide (0 < (p : Int)) = false := decide_eq_false (by omega)
        have HD := Lib.hid (show (decide (0 < p) && decide (s.size ≤ 40)) = false by rw [decide_eq_false h2]; rfl)
        go_wp2
        go_ret
        exact ⟨by rw [HT.out, HD.out]; rfl, rfl⟩
section
variable {l : List (ByteArray × Int)} {f : Nat}
end
end Go.Proofs.YtmhpnmlgfdomkaaGreatDoor
namespace Go.Proofs.YtmhpnmlgfdomkaaGreatDoor
open Go.RowKit
def fx (l : List (ByteArray × Int)) (j : Nat) : ByteArray := (l.getD j (⟨#[]⟩, 0)).1
def fa (l : List (ByteArray × Int)) (j : Nat) : Int := (l.getD j (⟨#[]⟩, 0)).2
def dashT : ByteArray := ⟨#[45]⟩
def Zn.til (z : Zn) : Bool := match z.eras.getLast? with | .none => false | some x => x.til
def Sr.til (S : Sr) : Bool := match S.zones.getLast? with | .none => false | some z => z.til
def Sr.eras (S : Sr) : Nat := match S.zones.getLast? with | .none => 0 | some z => z.eras.length
def Rl.ok (x : Rl) : Prop := (1 ≤ x.fr ∧ x.fr ≤ 9999) ∧ (1 ≤ x.last ∧ (x.last ≤ 9999 ∨ x.last = 1000000)) ∧ x.sp.ok ∧ (-43200 ≤ x.save ∧ x.save ≤ 43200) ∧ setB x.name = true ∧ ¬ x.letter = dashT ∧ (x.letter = ⟨#[]⟩ ∨ lettersB x.letter = true)
def Er.ok (x : Er) : Prop := (-86400 < x.off ∧ x.off < 86400) ∧ (-43200 ≤ x.save ∧ x.save ≤ 43200) ∧ formatB x.fmt = true ∧ (0 ≤ x.kind ∧ x.kind ≤ 2) ∧ (x.kind ≠ 1 → x.save = 0) ∧ (x.kind ≠ 2 → x.rules = ⟨#[]⟩) ∧ (x.kind = 2 → setB x.rules = true) ∧
  (x.til = true → (1 ≤ x.year ∧ x.year ≤ 9999) ∧ x.sp.ok) ∧ (x.til = false → x.year = 0 ∧ x.sp = .zero)
def tilOk : List Er → Prop
  | [] => False
  | [x] => x.til = false
  | x :: y :: r => x.til = true ∧ tilOk (y :: r)
def Zn.ok (z : Zn) : Prop := placeB z.name = true ∧ z.eras.length ≤ 40 ∧ (∀ x ∈ z.eras, x.ok) ∧ tilOk z.eras
def Lk.ok (x : Lk) : Prop := placeB x.target = true ∧ placeB x.name = true
def Sr.ok (S : Sr) : Prop := S.rules.length ≤ 200 ∧ S.zones.length ≤ 50 ∧ S.links.length ≤ 100 ∧ (∀ x ∈ S.rules, x.ok) ∧ (∀ z ∈ S.zones, z.ok) ∧ (∀ x ∈ S.links, x.ok)
def tot : List ByteArray → Nat
  | [] => 0
  | t :: r => t.size + 1 + tot r
structure Own where
  v : Value
  e : TypeId
  size : Nat
  n : Nat
  xs : List Value
def Own.own (r : Own) (w : World) (base : Nat) : Prop := w.ownsRow base r.e r.size r.v r.n r.xs
section
variable {w w' : World} {base : Nat} {R : List Own}
end
section
variable {w w' : World} {base lo hi : Nat} {S : Sr} {vr vz vl : Value}
end
end Go.Proofs.YtmhpnmlgfdomkaaGreatDoor
