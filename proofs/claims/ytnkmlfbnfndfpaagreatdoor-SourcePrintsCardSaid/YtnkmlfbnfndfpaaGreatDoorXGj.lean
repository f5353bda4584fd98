import Derived.Test.YtnkmlfbnfndfpaaGreatDoorXGu
import Derived.Test.YtnkmlfbnfndfpaaGreatDoorXGany
import Derived.Test.YtnkmlfbnfndfpaaGreatDoorXGq
import Derived.Deep.RegionHeld3
import Derived.Outline
import Derived.Test.YtnkmlfbnfndfpaaGreatDoorXUdig
import Derived.Test.YtnkmlfbnfndfpaaGreatDoorXUparsed
import Derived.BigQuiet
import Derived.Test.YtnkmlfbnfndfpaaGreatDoorXGc
import Derived.Test.YtnkmlfbnfndfpaaGreatDoorXHdata
import Derived.Test.YtnkmlfbnfndfpaaGreatDoorXUback
import Derived.Test.YtnkmlfbnfndfpaaGreatDoorXUright
import Derived.Test.YtnkmlfbnfndfpaaGreatDoorXGm
import Derived.Maps.AppendAt
set_option maxRecDepth 100000
set_option maxHeartbeats 64000000
namespace Go.Proofs.YtnkmlfbnfndfpaaGreatDoor
open Go.RowKit
def ltrB (c : Nat) : Bool := decide (97 ≤ c ∧ c ≤ 122) || decide (65 ≤ c ∧ c ≤ 90)
def dgtB (c : Nat) : Bool := decide (48 ≤ c ∧ c ≤ 57)
def allB (p : Nat → Bool) (s : ByteArray) : Nat → Bool
  | 0 => true
  | k + 1 => allB p s k && (if h : k < s.size then p s[k].toNat else true)
theorem allB_succ {p : Nat → Bool} {s : ByteArray} {k : Nat} (h : k < s.size) : allB p s (k + 1) = (allB p s k && p s[k].toNat) := by
  show (allB p s k && (if h : k < s.size then _ else true)) = _
  rw [dif_pos h]
theorem allB_off {p : Nat → Bool} {s : ByteArray} {k : Nat} : ∀ (d : Nat), allB p s k = false → allB p s (k + d) = false := by
  intro d
  induction d with
  | zero => intro h; exact h
  | succ d ih => intro h; show (allB p s (k + d) && _) = false; rw [ih h]; rfl
theorem allB_no {p : Nat → Bool} {s : ByteArray} {k : Nat} (h : k < s.size) (e : p s[k].toNat = false) : allB p s s.size = false := by
  have h1 : allB p s (k + 1) = false := by rw [allB_succ h, e, Bool.and_false]
  have := allB_off (s.size - (k + 1)) h1
  rwa [show k + 1 + (s.size - (k + 1)) = s.size by omega] at this
theorem allB_on {p : Nat → Bool} {s : ByteArray} {k : Nat} (h : k < s.size) (a : allB p s k = true) (e : p s[k].toNat = true) : allB p s (k + 1) = true := by rw [allB_succ h, a, e]; rfl
def SameV (w : World) (v : Value) (e : Ending) (w' : World) : Prop := e = .returned v ∧ w = w'
theorem letterR (c : Nat) (w : World) : Calls Tryz.prog 38 #[.int .u8 c] w (SameV w (.bool (ltrB c))) := by
  by_cases h1 : 97 ≤ c
  · have d1 : decide ((97 : Int) ≤ c) = true := decide_eq_true (by omega)
    by_cases h2 : c ≤ 122
    · have d2 : decide ((c : Int) ≤ 122) = true := decide_eq_true (by omega)
      have E := Lib.hid (show ltrB c = true by unfold ltrB; rw [decide_eq_true ⟨h1, h2⟩]; rfl)
      go_enter Tryz.func38, Tryz.ntmps38
      go_wp2
      go_ret
      exact ⟨by rw [E.out]; rfl, rfl⟩
    · have d2 : decide ((c : Int) ≤ 122) = false := decide_eq_false (by omega)
      have d3 : decide ((65 : Int) ≤ c) = true := decide_eq_true (by omega)
      have d4 : decide ((c : Int) ≤ 90) = false := decide_eq_false (by omega)
      have E := Lib.hid (show ltrB c = false by unfold ltrB; rw [decide_eq_false (by omega), decide_eq_false (by omega)]; rfl)
      go_enter Tryz.func38, Tryz.ntmps38
      go_wp2
      go_ret
      exact ⟨by rw [E.out]; rfl, rfl⟩
  have d1 : decide ((97 : Int) ≤ c) = false := decide_eq_false (by omega)
  by_cases h3 : 65 ≤ c
  · have d3 : decide ((65 : Int) ≤ c) = true := decide_eq_true (by omega)
    by_cases h4 : c ≤ 90
    · have d4 : decide ((c : Int) ≤ 90) = true := decide_eq_true (by omega)
      have E := Lib.hid (show ltrB c = true by unfold ltrB; rw [decide_eq_true (p := 65 ≤ c ∧ c ≤ 90) ⟨h3, h4⟩, Bool.or_true])
      go_enter Tryz.func38, Tryz.ntmps38
      go_wp2
      go_ret
      exact ⟨by rw [E.out]; rfl, rfl⟩
    · have d4 : decide ((c : Int) ≤ 90) = false := decide_eq_false (by omega)
      have E := Lib.hid (show ltrB c = false by unfold ltrB; rw [decide_eq_false (by omega), decide_eq_false (by omega)]; rfl)
      go_enter Tryz.func38, Tryz.ntmps38
      go_wp2
      go_ret
      exact ⟨by rw [E.out]; rfl, rfl⟩
  · have d3 : decide ((65 : Int) ≤ c) = false := decide_eq_false (by omega)
    have E := Lib.hid (show ltrB c = false by unfold ltrB; rw [decide_eq_false (by omega), decide_eq_false (by omega)]; rfl)
    go_enter Tryz.func38, Tryz.ntmps38
    go_wp2
    go_ret
    exact ⟨by rw [E.out]; rfl, rfl⟩
theorem digitR (c : Nat) (w : World) : Calls Tryz.prog 37 #[.int .u8 c] w (SameV w (.bool (dgtB c))) := by
  by_cases h1 : 48 ≤ c
  · have d1 : decide ((48 : Int) ≤ c) = true := decide_eq_true (by omega)
    by_cases h2 : c ≤ 57
    · have d2 : decide ((c : Int) ≤ 57) = true := decide_eq_true (by omega)
      have E := Lib.hid (show dgtB c = true by unfold dgtB; rw [decide_eq_true ⟨h1, h2⟩])
      go_enter Tryz.func37, Tryz.ntmps37
      go_wp2
      go_ret
      exact ⟨by rw [E.out]; rfl, rfl⟩
    · have d2 : decide ((c : Int) ≤ 57) = false := decide_eq_false (by omega)
      have E := Lib.hid (show dgtB c = false by unfold dgtB; rw [decide_eq_false (by omega)])
      go_enter Tryz.func37, Tryz.ntmps37
      go_wp2
      go_ret
      exact ⟨by rw [E.out]; rfl, rfl⟩
  · have d1 : decide ((48 : Int) ≤ c) = false := decide_eq_false (by omega)
    have E := Lib.hid (show dgtB c = false by unfold dgtB; rw [decide_eq_false (by omega)])
    go_enter Tryz.func37, Tryz.ntmps37
    go_wp2
    go_ret
    exact ⟨by rw [E.out]; rfl, rfl⟩
def kindB (l : List Nat) (c : Nat) : Bool := ltrB c || dgtB c || l.contains c
def setB (s : ByteArray) : Bool := if h : 0 < s.size ∧ s.size ≤ 20 then !dgtB s[0].toNat && !(s[0].toNat == 45) && allB (kindB [95, 45]) s s.size else false
theorem setR (s : ByteArray) (hs : s.size ≤ maxLen) (w : World) : Calls Tryz.prog 19 #[.string s] w (SameV w (.bool (setB s))) := by
  have sz : s.size ≤ 9223372036854775807 := hs
  by_cases h1 : s.size < 1
  · have E := Lib.hid (show setB s = false by unfold setB; rw [dif_neg (by omega)])
    have d1 : decide ((s.size : Int) < 1) = true := decide_eq_true (by omega)
    go_enter Tryz.func19, Tryz.ntmps19
    go_wp2
    go_ret
    exact ⟨by rw [E.out]; rfl, rfl⟩
  have d1 : decide ((s.size : Int) < 1) = false := decide_eq_false (by omega)
  by_cases h2 : 20 < s.size
  · have E := Lib.hid (show setB s = false by unfold setB; rw [dif_neg (by omega)])
    have d2 : decide (20 < (s.size : Int)) = true := decide_eq_true (by omega)
    go_enter Tryz.func19, Tryz.ntmps19
    go_wp2
    go_ret
    exact ⟨by rw [E.out]; rfl, rfl⟩
  have d2 : decide (20 < (s.size : Int)) = false := decide_eq_false (by omega)
  have E : Hid (setB s = (!dgtB s[0].toNat && !(s[0].toNat == 45) && allB (kindB [95, 45]) s s.size)) := Lib.hid (by unfold setB; rw [dif_pos ⟨by omega, by omega⟩])
  cases eb : dgtB s[0].toNat with
  | true =>
    have E2 := Lib.hid (show setB s = false by rw [E.out, eb]; rfl)
    clear E
    have DG := Lib.hid (fun W => (eb ▸ digitR s[0].toNat W : Calls Tryz.prog 37 #[.int .u8 s[0].toNat] W (SameV W (.bool true))))
    clear eb
    go_enter Tryz.func19, Tryz.ntmps19
    go_wp2_with fail
    refine (DG.out _).mono ?_
    rintro e _w ⟨rfl, rfl⟩
    clear DG
    go_wp2
    go_ret
    exact ⟨by rw [E2.out]; rfl, rfl⟩
  | false =>
    by_cases q : s[0].toNat = 45
    · have E2 := Lib.hid (show setB s = false by rw [E.out, q]; simp)
      clear E
      have DG := Lib.hid (fun W => (eb ▸ digitR s[0].toNat W : Calls Tryz.prog 37 #[.int .u8 s[0].toNat] W (SameV W (.bool false))))
      have f : ((s[0].toNat : Int) == 45) = true := by rw [beq_iff_eq]; omega
      clear eb q
      go_enter Tryz.func19, Tryz.ntmps19
      go_wp2_with fail
      refine (DG.out _).mono ?_
      rintro e _w ⟨rfl, rfl⟩
      clear DG
      go_wp2
      go_ret
      exact ⟨by rw [E2.out]; rfl, rfl⟩
    · have E2 : Hid (setB s = allB (kindB [95, 45]) s s.size) := Lib.hid (by rw [E.out, eb, show (s[0].toNat == 45) = false from beq_eq_false_iff_ne.2 q]; rfl)
      clear E
      have DG := Lib.hid (fun W => (eb ▸ digitR s[0].toNat W : Calls Tryz.prog 37 #[.int .u8 s[0].toNat] W (SameV W (.bool false))))
      have f : ((s[0].toNat : Int) == 45) = false := by rw [beq_eq_false_iff_ne]; omega
      clear eb q
      have EF := Lib.hid (fun (h : allB (kindB [95, 45]) s s.size = false) => show setB s = false by rw [E2.out, h])
      go_enter Tryz.func19, Tryz.ntmps19
      go_wp2_with fail
      refine (DG.out _).mono ?_
      rintro e _w ⟨rfl, rfl⟩
      clear DG
      go_wp2_with fail
      clear f d1 d2
      go_loop [3] (fun v => ∃ k : Nat, k ≤ s.size ∧ v = .int .i64 k ∧ allB (kindB [95, 45]) s k = true) (fun v => s.size - (intOf v).toNat)
      case atStart => exact ⟨0, by omega, rfl, rfl⟩
      case round =>
        obtain ⟨k, hk, rfl, ha⟩ := hrel
        have HA := Lib.hid ha
        clear ha
        by_cases h1 : k < s.size
        · have d1 : decide ((k : Int) < s.size) = true := decide_eq_true (by omega)
          cases ea : ltrB s[k].toNat with
          | true =>
            have HK := Lib.hid (show kindB [95, 45] s[k].toNat = true by unfold kindB; rw [ea]; rfl)
            have LT := Lib.hid (fun W => (ea ▸ letterR s[k].toNat W : Calls Tryz.prog 38 #[.int .u8 s[k].toNat] W (SameV W (.bool true))))
            clear ea
            go_wp2_with fail
            refine (LT.out _).mono ?_
            rintro e _w ⟨rfl, rfl⟩
            clear LT
            have HN := Lib.hid (allB_on h1 HA.out HK.out)
            clear HA HK
            go_wp2_with fail
            go_round
            case rel => exact ⟨k + 1, by omega, int_eqS (by omega), HN.out⟩
            case measure => simp only [intOf]; omega
          | false =>
            cases eb : dgtB s[k].toNat with
            | true =>
              have HK := Lib.hid (show kindB [95, 45] s[k].toNat = true by unfold kindB; rw [ea, eb]; rfl)
              have LT := Lib.hid (fun W => (ea ▸ letterR s[k].toNat W : Calls Tryz.prog 38 #[.int .u8 s[k].toNat] W (SameV W (.bool false))))
              have DG := Lib.hid (fun W => (eb ▸ digitR s[k].toNat W : Calls Tryz.prog 37 #[.int .u8 s[k].toNat] W (SameV W (.bool true))))
              clear ea eb
              go_wp2_with fail
              refine (LT.out _).mono ?_
              rintro e _w ⟨rfl, rfl⟩
              clear LT
              go_wp2_with fail
              refine (DG.out _).mono ?_
              rintro e _w ⟨rfl, rfl⟩
              clear DG
              have HN := Lib.hid (allB_on h1 HA.out HK.out)
              clear HA HK
              go_wp2_with fail
              go_round
              case rel => exact ⟨k + 1, by omega, int_eqS (by omega), HN.out⟩
              case measure => simp only [intOf]; omega
            | false =>
              by_cases q0 : s[k].toNat = 95
              · have HK := Lib.hid (show kindB [95, 45] s[k].toNat = true by unfold kindB; rw [ea, eb, q0]; rfl)
                have LT := Lib.hid (fun W => (ea ▸ letterR s[k].toNat W : Calls Tryz.prog 38 #[.int .u8 s[k].toNat] W (SameV W (.bool false))))
                have DG := Lib.hid (fun W => (eb ▸ digitR s[k].toNat W : Calls Tryz.prog 37 #[.int .u8 s[k].toNat] W (SameV W (.bool false))))
                have f0 : ((s[k].toNat : Int) != 95) = false := by rw [bne_eq_false_iff_eq]; omega
                clear ea eb q0
                go_wp2_with fail
                refine (LT.out _).mono ?_
                rintro e _w ⟨rfl, rfl⟩
                clear LT
                go_wp2_with fail
                refine (DG.out _).mono ?_
                rintro e _w ⟨rfl, rfl⟩
                clear DG
                have HN := Lib.hid (allB_on h1 HA.out HK.out)
                clear HA HK
                go_wp2_with fail
                go_round
                case rel => exact ⟨k + 1, by omega, int_eqS (by omega), HN.out⟩
                case measure => simp only [intOf]; omega
              · by_cases q1 : s[k].toNat = 45
                · have HK := Lib.hid (show kindB [95, 45] s[k].toNat = true by unfold kindB; rw [ea, eb, q1]; rfl)
                  have LT := Lib.hid (fun W => (ea ▸ letterR s[k].toNat W : Calls Tryz.prog 38 #[.int .u8 s[k].toNat] W (SameV W (.bool false))))
                  have DG := Lib.hid (fun W => (eb ▸ digitR s[k].toNat W : Calls Tryz.prog 37 #[.int .u8 s[k].toNat] W (SameV W (.bool false))))
                  have f0 : ((s[k].toNat : Int) != 95) = true := by rw [bne_iff_ne]; omega
                  have f1 : ((s[k].toNat : Int) != 45) = false := by rw [bne_eq_false_iff_eq]; omega
                  clear ea eb q0 q1
                  go_wp2_with fail
                  refine (LT.out _).mono ?_
                  rintro e _w ⟨rfl, rfl⟩
                  clear LT
                  go_wp2_with fail
                  refine (DG.out _).mono ?_
                  rintro e _w ⟨rfl, rfl⟩
                  clear DG
                  have HN := Lib.hid (allB_on h1 HA.out HK.out)
                  clear HA HK
                  go_wp2_with fail
                  go_round
                  case rel => exact ⟨k + 1, by omega, int_eqS (by omega), HN.out⟩
                  case measure => simp only [intOf]; omega
                · have HK := Lib.hid (show kindB [95, 45] s[k].toNat = false by unfold kindB; rw [ea, eb]; simp [q0, q1])
                  have LT := Lib.hid (fun W => (ea ▸ letterR s[k].toNat W : Calls Tryz.prog 38 #[.int .u8 s[k].toNat] W (SameV W (.bool false))))
                  have DG := Lib.hid (fun W => (eb ▸ digitR s[k].toNat W : Calls Tryz.prog 37 #[.int .u8 s[k].toNat] W (SameV W (.bool false))))
                  have f0 : ((s[k].toNat : Int) != 95) = true := by rw [bne_iff_ne]; omega
                  have f1 : ((s[k].toNat : Int) != 45) = true := by rw [bne_iff_ne]; omega
                  clear ea eb q0 q1
                  go_wp2_with fail
                  refine (LT.out _).mono ?_
                  rintro e _w ⟨rfl, rfl⟩
                  clear LT
                  go_wp2_with fail
                  refine (DG.out _).mono ?_
                  rintro e _w ⟨rfl, rfl⟩
                  clear DG
                  have HE := Lib.hid (allB_no h1 HK.out)
                  clear HA HK
                  go_wp2
                  go_ret
                  exact ⟨by rw [EF.out HE.out]; rfl, rfl⟩
        · have e : k = s.size := by omega
          subst e
          have d1 : decide ((s.size : Int) < s.size) = false := decide_eq_false (by omega)
          go_wp2
          go_ret
          exact ⟨by rw [E2.out, HA.out]; rfl, rfl⟩
def lettersB (s : ByteArray) : Bool := allB (kindB [43, 45]) s s.size && decide (1 ≤ s.size ∧ s.size ≤ 8)
theorem lettersR (s : ByteArray) (hs : s.size ≤ maxLen) (w : World) : Calls Tryz.prog 67 #[.string s] w (SameV w (.bool (lettersB s))) := by
  have sz : s.size ≤ 9223372036854775807 := hs
  have EF := Lib.hid (fun (h : allB (kindB [43, 45]) s s.size = false) => show lettersB s = false by unfold lettersB; rw [h]; rfl)
  have ET := Lib.hid (fun (h : allB (kindB [43, 45]) s s.size = true) => show lettersB s = decide (1 ≤ s.size ∧ s.size ≤ 8) by unfold lettersB; rw [h]; rfl)
  go_enter Tryz.func67, Tryz.ntmps67
  go_wp2_with fail
  go_loop [3] (fun v => ∃ k : Nat, k ≤ s.size ∧ v = .int .i64 k ∧ allB (kindB [43, 45]) s k = true) (fun v => s.size - (intOf v).toNat)
  case atStart => exact ⟨0, by omega, rfl, rfl⟩
  case round =>
    obtain ⟨k, hk, rfl, ha⟩ := hrel
    have HA := Lib.hid ha
    clear ha
    by_cases h1 : k < s.size
    · have d1 : decide ((k : Int) < s.size) = true := decide_eq_true (by omega)
      cases ea : ltrB s[k].toNat with
      | true =>
        have HK := Lib.hid (show kindB [43, 45] s[k].toNat = true by unfold kindB; rw [ea]; rfl)
        have LT := Lib.hid (fun W => (ea ▸ letterR s[k].toNat W : Calls Tryz.prog 38 #[.int .u8 s[k].toNat] W (SameV W (.bool true))))
        clear ea
        go_wp2_with fail
        refine (LT.out _).mono ?_
        rintro e _w ⟨rfl, rfl⟩
        clear LT
        have HN := Lib.hid (allB_on h1 HA.out HK.out)
        clear HA HK
        go_wp2_with fail
        go_round
        case rel => exact ⟨k + 1, by omega, int_eqS (by omega), HN.out⟩
        case measure => simp only [intOf]; omega
      | false =>
        cases eb : dgtB s[k].toNat with
        | true =>
          have HK := Lib.hid (show kindB [43, 45] s[k].toNat = true by unfold kindB; rw [ea, eb]; rfl)
          have LT := Lib.hid (fun W => (ea ▸ letterR s[k].toNat W : Calls Tryz.prog 38 #[.int .u8 s[k].toNat] W (SameV W (.bool false))))
          have DG := Lib.hid (fun W => (eb ▸ digitR s[k].toNat W : Calls Tryz.prog 37 #[.int .u8 s[k].toNat] W (SameV W (.bool true))))
          clear ea eb
          go_wp2_with fail
          refine (LT.out _).mono ?_
          rintro e _w ⟨rfl, rfl⟩
          clear LT
          go_wp2_with fail
          refine (DG.out _).mono ?_
          rintro e _w ⟨rfl, rfl⟩
          clear DG
          have HN := Lib.hid (allB_on h1 HA.out HK.out)
          clear HA HK
          go_wp2_with fail
          go_round
          case rel => exact ⟨k + 1, by omega, int_eqS (by omega), HN.out⟩
          case measure => simp only [intOf]; omega
        | false =>
          by_cases q0 : s[k].toNat = 43
          · have HK := Lib.hid (show kindB [43, 45] s[k].toNat = true by unfold kindB; rw [ea, eb, q0]; rfl)
            have LT := Lib.hid (fun W => (ea ▸ letterR s[k].toNat W : Calls Tryz.prog 38 #[.int .u8 s[k].toNat] W (SameV W (.bool false))))
            have DG := Lib.hid (fun W => (eb ▸ digitR s[k].toNat W : Calls Tryz.prog 37 #[.int .u8 s[k].toNat] W (SameV W (.bool false))))
            have f0 : ((s[k].toNat : Int) != 43) = false := by rw [bne_eq_false_iff_eq]; omega
            clear ea eb q0
            go_wp2_with fail
            refine (LT.out _).mono ?_
            rintro e _w ⟨rfl, rfl⟩
            clear LT
            go_wp2_with fail
            refine (DG.out _).mono ?_
            rintro e _w ⟨rfl, rfl⟩
            clear DG
            have HN := Lib.hid (allB_on h1 HA.out HK.out)
            clear HA HK
            go_wp2_with fail
            go_round
            case rel => exact ⟨k + 1, by omega, int_eqS (by omega), HN.out⟩
            case measure => simp only [intOf]; omega
          · by_cases q1 : s[k].toNat = 45
            · have HK := Lib.hid (show kindB [43, 45] s[k].toNat = true by unfold kindB; rw [ea, eb, q1]; rfl)
              have LT := Lib.hid (fun W => (ea ▸ letterR s[k].toNat W : Calls Tryz.prog 38 #[.int .u8 s[k].toNat] W (SameV W (.bool false))))
              have DG := Lib.hid (fun W => (eb ▸ digitR s[k].toNat W : Calls Tryz.prog 37 #[.int .u8 s[k].toNat] W (SameV W (.bool false))))
              have f0 : ((s[k].toNat : Int) != 43) = true := by rw [bne_iff_ne]; omega
              have f1 : ((s[k].toNat : Int) != 45) = false := by rw [bne_eq_false_iff_eq]; omega
              clear ea eb q0 q1
              go_wp2_with fail
              refine (LT.out _).mono ?_
              rintro e _w ⟨rfl, rfl⟩
              clear LT
              go_wp2_with fail
              refine (DG.out _).mono ?_
              rintro e _w ⟨rfl, rfl⟩
              clear DG
              have HN := Lib.hid (allB_on h1 HA.out HK.out)
              clear HA HK
              go_wp2_with fail
              go_round
              case rel => exact ⟨k + 1, by omega, int_eqS (by omega), HN.out⟩
              case measure => simp only [intOf]; omega
            · have HK := Lib.hid (show kindB [43, 45] s[k].toNat = false by unfold kindB; rw [ea, eb]; simp [q0, q1])
              have LT := Lib.hid (fun W => (ea ▸ letterR s[k].toNat W : Calls Tryz.prog 38 #[.int .u8 s[k].toNat] W (SameV W (.bool false))))
              have DG := Lib.hid (fun W => (eb ▸ digitR s[k].toNat W : Calls Tryz.prog 37 #[.int .u8 s[k].toNat] W (SameV W (.bool false))))
              have f0 : ((s[k].toNat : Int) != 43) = true := by rw [bne_iff_ne]; omega
              have f1 : ((s[k].toNat : Int) != 45) = true := by rw [bne_iff_ne]; omega
              clear ea eb q0 q1
              go_wp2_with fail
              refine (LT.out _).mono ?_
              rintro e _w ⟨rfl, rfl⟩
              clear LT
              go_wp2_with fail
              refine (DG.out _).mono ?_
              rintro e _w ⟨rfl, rfl⟩
              clear DG
              have HE := Lib.hid (allB_no h1 HK.out)
              clear HA HK
              go_wp2
              go_ret
              exact ⟨by rw [EF.out HE.out]; rfl, rfl⟩
    · have e : k = s.size := by omega
      subst e
      have d1 : decide ((s.size : Int) < s.size) = false := decide_eq_false (by omega)
      by_cases h2 : 1 ≤ s.size
      · have d2 : decide (1 ≤ (s.size : Int)) = true := decide_eq_true (by omega)
        by_cases h3 : s.size ≤ 8
        · have d3 : decide ((s.size : Int) ≤ 8) = true := decide_eq_true (by omega)
          have HD := Lib.hid (show decide (1 ≤ s.size ∧ s.size ≤ 8) = true from decide_eq_true ⟨h2, h3⟩)
          go_wp2
          go_ret
          exact ⟨by rw [ET.out HA.out, HD.out]; rfl, rfl⟩
        · have d3 : decide ((s.size : Int) ≤ 8) = false := decide_eq_false (by omega)
          have HD := Lib.hid (show decide (1 ≤ s.size ∧ s.size ≤ 8) = false from decide_eq_false (by omega))
          go_wp2
          go_ret
          exact ⟨by rw [ET.out HA.out, HD.out]; rfl, rfl⟩
      · have d2 : decide (1 ≤ (s.size : Int)) = false := decide_eq_false (by omega)
        have HD := Lib.hid (show decide (1 ≤ s.size ∧ s.size ≤ 8) = false from decide_eq_false (by omega))
        go_wp2
        go_ret
        exact ⟨by rw [ET.out HA.out, HD.out]; rfl, rfl⟩
abbrev Flt := Int × Int × Int
def Flt.val (f : Flt) : Value := .agg #[.int .i64 f.1, .int .i64 f.2.1, .int .i64 f.2.2]
def countRes (l : List (ByteArray × Int)) (all : ByteArray) (ln : Int) (x y : Nat) : Flt := if l.length < x then (14, ln, (all.size : Int)) else if h : y < l.length then (15, ln, l[y].2) else (0, 0, 0)
def dPre (k : Nat) (s : ByteArray) : ByteArray := if k = 0 then s else decB k ++ s
theorem dPre_step (k : Nat) (s : ByteArray) (h : 0 < k) (b : UInt8) (hb : b = UInt8.ofNat (48 + k % 10)) : dPre (k / 10) (⟨[b].toArray⟩ ++ s) = dPre k s := by
  rw [txt_of s]
  unfold dPre decB
  rw [if_neg (by omega : ¬ k = 0)]
  simp only [txt_app]
  by_cases h1 : k / 10 = 0
  · rw [if_pos h1, dec_small (n := k) (by omega), hb, Nat.mod_eq_of_lt (by omega)]
  · rw [if_neg h1, dec_big (n := k) (by omega), hb, List.append_assoc]
theorem DigitsR (N : Nat) (hN : N < 10000000000000000000) (hN2 : (N : Int) ≤ 9223372036854775807) (w : World) : Calls Tryz.prog 56 #[.int .i64 N] w (RetV w (.string (dPre N ⟨#[]⟩))) := by
  go_enter Tryz.func56, Tryz.ntmps56
  go_wp2
  go_loopw [0, 3] (fun n s wr => ∃ (k j : Nat) (t : ByteArray), n = .int .i64 k ∧ s = .string t ∧ k < 10 ^ j ∧ k ≤ N ∧ t.size + j = 19 ∧ dPre k t = dPre N ⟨#[]⟩ ∧ Below w.heap.size w wr) (fun n s _ => (intOf n).toNat)
  case atStart => exact ⟨N, 19, ⟨[].toArray⟩, rfl, rfl, by omega, Nat.le_refl _, rfl, rfl, Below.refl _ _⟩
  case round =>
    obtain ⟨k, j, t, rfl, rfl, hk, hkN, hj, he, hbel⟩ := hrel
    have hsz := hbel.size
    obtain ⟨b, hb⟩ : ∃ b : UInt8, b = UInt8.ofNat (48 + k % 10) := ⟨_, rfl⟩
    by_cases h0 : 0 < k
    · have hj1 : 1 ≤ j := by
        rcases Nat.eq_zero_or_pos j with rfl | h
        · simp at hk; omega
        · exact h
      obtain ⟨j, rfl⟩ : ∃ i, j = i + 1 := ⟨j - 1, by omega⟩
      have hk2 : k / 10 < 10 ^ j := by rw [Nat.pow_succ] at hk; omega
      have HE := Lib.hid ((dPre_step k t h0 b hb).trans he)
      have cv := fun W => byte_text W (48 + (k : Int) % 10) b (by rw [hb, UInt8.toNat_ofNat']; omega)
      clear he hb
      have d1 : decide (0 < (k : Int)) = true := decide_eq_true (by omega)
      go_wp2
      go_roundw
      case rel => exact ⟨k / 10, j, ⟨[b].toArray⟩ ++ t, int_eqS (by omega), rfl, hk2, by omega, by rw [ByteArray.size_append]; show 1 + t.size + j = 19; omega, HE.out, hbel.alloc hsz _⟩
      case measure => simp only [intOf]; omega
    · have k0 : k = 0 := by omega
      subst k0
      have d1 : decide (0 < ((0 : Nat) : Int)) = false := rfl
      have HE := Lib.hid (show dPre N ⟨#[]⟩ = t by rw [← he]; rfl)
      clear he hb
      go_wp2
      go_ret
      exact ⟨by rw [HE.out]; rfl, hbel⟩
def dashB (s : ByteArray) : ByteArray := if s.size = 0 then ⟨#[45]⟩ else s
theorem dashR (s : ByteArray) (w : World) : Calls Tryz.prog 59 #[.string s] w (fun e w' => e = .returned (.string (dashB s)) ∧ w = w') := by
  by_cases h : s.size = 0
  · obtain rfl : s = ByteArray.empty := ByteArray.size_eq_zero_iff.1 h
    go_enter Tryz.func59, Tryz.ntmps59
    go_wp2
    go_ret
    exact ⟨rfl, rfl⟩
  · have d : (s.toList == []) = false := txt_no (by intro e; rw [e] at h; exact h rfl)
    have E := Lib.hid (show dashB s = s by unfold dashB; rw [if_neg h])
    go_enter Tryz.func59, Tryz.ntmps59
    go_wp2
    go_ret
    exact ⟨by rw [E.out]; rfl, rfl⟩
def fmtGo (s : ByteArray) (k p q : Nat) : Option (Nat × Nat) :=
  if h : k < s.size then
    (if s[k].toNat = 37 then (if h' : k + 1 < s.size then (if s[k + 1].toNat = 115 ∨ s[k + 1].toNat = 122 then fmtGo s (k + 1) (p + 1) q else none) else none)
    else if s[k].toNat = 47 then (if k = 0 ∨ k + 1 = s.size then none else fmtGo s (k + 1) p (q + 1))
    else if kindB [43, 45] s[k].toNat = true then fmtGo s (k + 1) p q else none) else some (p, q)
termination_by s.size - k
theorem fmt_pc {s : ByteArray} {k p q : Nat} (h : k < s.size) (e : s[k].toNat = 37) (h' : k + 1 < s.size) (z : s[k + 1].toNat = 115 ∨ s[k + 1].toNat = 122) : fmtGo s k p q = fmtGo s (k + 1) (p + 1) q := by rw [fmtGo, dif_pos h, if_pos e, dif_pos h', if_pos z]
theorem fmt_pc0 {s : ByteArray} {k p q : Nat} (h : k < s.size) (e : s[k].toNat = 37) (h' : ¬ k + 1 < s.size) : fmtGo s k p q = none := by rw [fmtGo, dif_pos h, if_pos e, dif_neg h']
theorem fmt_pc1 {s : ByteArray} {k p q : Nat} (h : k < s.size) (e : s[k].toNat = 37) (h' : k + 1 < s.size) (z : ¬ (s[k + 1].toNat = 115 ∨ s[k + 1].toNat = 122)) : fmtGo s k p q = none := by rw [fmtGo, dif_pos h, if_pos e, dif_pos h', if_neg z]
theorem fmt_sl0 {s : ByteArray} {k p q : Nat} (h : k < s.size) (n : ¬ s[k].toNat = 37) (e : s[k].toNat = 47) (z : k = 0 ∨ k + 1 = s.size) : fmtGo s k p q = none := by rw [fmtGo, dif_pos h, if_neg n, if_pos e, if_pos z]
theorem fmt_sl {s : ByteArray} {k p q : Nat} (h : k < s.size) (n : ¬ s[k].toNat = 37) (e : s[k].toNat = 47) (z : ¬ (k = 0 ∨ k + 1 = s.size)) : fmtGo s k p q = fmtGo s (k + 1) p (q + 1) := by rw [fmtGo, dif_pos h, if_neg n, if_pos e, if_neg z]
theorem fmt_on {s : ByteArray} {k p q : Nat} (h : k < s.size) (n : ¬ s[k].toNat = 37) (e : ¬ s[k].toNat = 47) (z : kindB [43, 45] s[k].toNat = true) : fmtGo s k p q = fmtGo s (k + 1) p q := by rw [fmtGo, dif_pos h, if_neg n, if_neg e, if_pos z]
theorem fmt_no {s : ByteArray} {k p q : Nat} (h : k < s.size) (n : ¬ s[k].toNat = 37) (e : ¬ s[k].toNat = 47) (z : kindB [43, 45] s[k].toNat = false) : fmtGo s k p q = none := by rw [fmtGo, dif_pos h, if_neg n, if_neg e, if_neg (by rw [z]; decide)]
theorem fmt_end {s : ByteArray} {k p q : Nat} (h : ¬ k < s.size) : fmtGo s k p q = some (p, q) := by rw [fmtGo, dif_neg h]
def formatB (s : ByteArray) : Bool := match fmtGo s 0 0 0 with | none => false | some (p, q) => decide (1 ≤ s.size) && decide (s.size ≤ 20) && decide (p + q ≤ 1)
theorem formatR (s : ByteArray) (hs : s.size ≤ maxLen) (w : World) : Calls Tryz.prog 79 #[.string s] w (SameV w (.bool (formatB s))) := by
  have sz : s.size ≤ 9223372036854775807 := hs
  have EF := Lib.hid (fun (h : fmtGo s 0 0 0 = none) => show formatB s = false by unfold formatB; rw [h])
  have ET := Lib.hid (fun (p q : Nat) (h : fmtGo s 0 0 0 = some (p, q)) => show formatB s = (decide (1 ≤ s.size) && decide (s.size ≤ 20) && decide (p + q ≤ 1)) by unfold formatB; rw [h])
  go_enter Tryz.func79, Tryz.ntmps79
  go_wp2_with fail
  go_loop [3, 4, 5] (fun v3 v4 v5 => ∃ k p q : Nat, k ≤ s.size ∧ p ≤ k ∧ p + q ≤ k ∧ v5 = .int .i64 k ∧ v3 = .int .i64 p ∧ v4 = .int .i64 q ∧ fmtGo s 0 0 0 = fmtGo s k p q) (fun _ _ v => s.size - (intOf v).toNat)
  case atStart => exact ⟨0, 0, 0, by omega, by omega, by omega, rfl, rfl, rfl, rfl⟩
  case round =>
    obtain ⟨k, p, q, hk, hp, hq, rfl, rfl, rfl, ha⟩ := hrel
    have HA := Lib.hid ha
    clear ha
    by_cases h1 : k < s.size
    · have d1 : decide ((k : Int) < s.size) = true := decide_eq_true (by omega)
      by_cases h2 : s[k].toNat = 37
      · have f : ((s[k].toNat : Int) == 37) = true := by rw [beq_iff_eq]; omega
        by_cases h3 : k + 1 < s.size
        · have d2 : decide ((s.size : Int) ≤ (k : Int) + 1) = false := decide_eq_false (by omega)
          by_cases h4 : s[k + 1].toNat = 115
          · have HE := Lib.hid (HA.out.trans (fmt_pc h1 h2 h3 (.inl h4)))
            have g1 : ((s[k + 1].toNat : Int) != 115) = false := by rw [bne_eq_false_iff_eq]; omega
            clear HA h2 h4
            go_wp2_with fail
            go_round
            case rel => exact ⟨k + 1, p + 1, q, by omega, by omega, by omega, int_eqS (by omega), int_eqS (by omega), int_eqS (by omega), HE.out⟩
            case measure => simp only [intOf]; omega
          have g1 : ((s[k + 1].toNat : Int) != 115) = true := by rw [bne_iff_ne]; omega
          by_cases h5 : s[k + 1].toNat = 122
          · have HE := Lib.hid (HA.out.trans (fmt_pc h1 h2 h3 (.inr h5)))
            have g2 : ((s[k + 1].toNat : Int) != 122) = false := by rw [bne_eq_false_iff_eq]; omega
            clear HA h2 h4 h5
            go_wp2_with fail
            go_round
            case rel => exact ⟨k + 1, p + 1, q, by omega, by omega, by omega, int_eqS (by omega), int_eqS (by omega), int_eqS (by omega), HE.out⟩
            case measure => simp only [intOf]; omega
          · have HE := Lib.hid (HA.out.trans (fmt_pc1 h1 h2 h3 (by omega)))
            have g2 : ((s[k + 1].toNat : Int) != 122) = true := by rw [bne_iff_ne]; omega
            clear HA h2 h4 h5
            go_wp2
            go_ret
            exact ⟨by rw [EF.out HE.out]; rfl, rfl⟩
        · have HE := Lib.hid (HA.out.trans (fmt_pc0 h1 h2 h3))
          have d2 : decide ((s.size : Int) ≤ (k : Int) + 1) = true := decide_eq_true (by omega)
          clear HA h2
          go_wp2
          go_ret
          exact ⟨by rw [EF.out HE.out]; rfl, rfl⟩
      have f : ((s[k].toNat : Int) == 37) = false := by rw [beq_eq_false_iff_ne]; omega
      by_cases h3 : s[k].toNat = 47
      · have f' : ((s[k].toNat : Int) == 47) = true := by rw [beq_iff_eq]; omega
        by_cases h4 : k = 0
        · have HE := Lib.hid (HA.out.trans (fmt_sl0 h1 h2 h3 (.inl h4)))
          have g : ((k : Int) == 0) = true := by rw [beq_iff_eq]; omega
          clear HA h2 h3 h4
          go_wp2
          go_ret
          exact ⟨by rw [EF.out HE.out]; rfl, rfl⟩
        have g : ((k : Int) == 0) = false := by rw [beq_eq_false_iff_ne]; omega
        by_cases h5 : k + 1 = s.size
        · have HE := Lib.hid (HA.out.trans (fmt_sl0 h1 h2 h3 (.inr h5)))
          have g' : ((k : Int) == (s.size : Int) - 1) = true := by rw [beq_iff_eq]; omega
          clear HA h2 h3 h4 h5
          go_wp2
          go_ret
          exact ⟨by rw [EF.out HE.out]; rfl, rfl⟩
        · have HE := Lib.hid (HA.out.trans (fmt_sl h1 h2 h3 (by omega)))
          have g' : ((k : Int) == (s.size : Int) - 1) = false := by rw [beq_eq_false_iff_ne]; omega
          clear HA h2 h3 h4 h5
          go_wp2_with fail
          go_round
          case rel => exact ⟨k + 1, p, q + 1, by omega, by omega, by omega, int_eqS (by omega), int_eqS (by omega), int_eqS (by omega), HE.out⟩
          case measure => simp only [intOf]; omega
      · have f' : ((s[k].toNat : Int) == 47) = false := by rw [beq_eq_false_iff_ne]; omega
        have H2 := Lib.hid h2
        have H3 := Lib.hid h3
        clear h2 h3
        cases ea : ltrB s[k].toNat with
        | true =>
          have HK := Lib.hid (show kindB [43, 45] s[k].toNat = true by unfold kindB; rw [ea]; rfl)
          have LT := Lib.hid (fun W => (ea ▸ letterR s[k].toNat W : Calls Tryz.prog 38 #[.int .u8 s[k].toNat] W (SameV W (.bool true))))
          clear ea
          go_wp2_with fail
          refine (LT.out _).mono ?_
          rintro e _w ⟨rfl, rfl⟩
          clear LT
          have HE := Lib.hid (HA.out.trans (fmt_on h1 H2.out H3.out HK.out))
          clear HA HK H2 H3
          go_wp2_with fail
          go_round
          case rel => exact ⟨k + 1, p, q, by omega, by omega, by omega, int_eqS (by omega), int_eqS (by omega), int_eqS (by omega), HE.out⟩
          case measure => simp only [intOf]; omega
        | false =>
          cases eb : dgtB s[k].toNat with
          | true =>
            have HK := Lib.hid (show kindB [43, 45] s[k].toNat = true by unfold kindB; rw [ea, eb]; rfl)
            have LT := Lib.hid (fun W => (ea ▸ letterR s[k].toNat W : Calls Tryz.prog 38 #[.int .u8 s[k].toNat] W (SameV W (.bool false))))
            have DG := Lib.hid (fun W => (eb ▸ digitR s[k].toNat W : Calls Tryz.prog 37 #[.int .u8 s[k].toNat] W (SameV W (.bool true))))
            clear ea eb
            go_wp2_with fail
            refine (LT.out _).mono ?_
            rintro e _w ⟨rfl, rfl⟩
            clear LT
            go_wp2_with fail
            refine (DG.out _).mono ?_
            rintro e _w ⟨rfl, rfl⟩
            clear DG
            have HE := Lib.hid (HA.out.trans (fmt_on h1 H2.out H3.out HK.out))
            clear HA HK H2 H3
            go_wp2_with fail
            go_round
            case rel => exact ⟨k + 1, p, q, by omega, by omega, by omega, int_eqS (by omega), int_eqS (by omega), int_eqS (by omega), HE.out⟩
            case measure => simp only [intOf]; omega
          | false =>
            by_cases q0 : s[k].toNat = 43
            · have HK := Lib.hid (show kindB [43, 45] s[k].toNat = true by unfold kindB; rw [ea, eb, q0]; rfl)
              have LT := Lib.hid (fun W => (ea ▸ letterR s[k].toNat W : Calls Tryz.prog 38 #[.int .u8 s[k].toNat] W (SameV W (.bool false))))
              have DG := Lib.hid (fun W => (eb ▸ digitR s[k].toNat W : Calls Tryz.prog 37 #[.int .u8 s[k].toNat] W (SameV W (.bool false))))
              have f0 : ((s[k].toNat : Int) != 43) = false := by rw [bne_eq_false_iff_eq]; omega
              clear ea eb q0
              go_wp2_with fail
              refine (LT.out _).mono ?_
              rintro e _w ⟨rfl, rfl⟩
              clear LT
              go_wp2_with fail
              refine (DG.out _).mono ?_
              rintro e _w ⟨rfl, rfl⟩
              clear DG
              have HE := Lib.hid (HA.out.trans (fmt_on h1 H2.out H3.out HK.out))
              clear HA HK H2 H3
              go_wp2_with fail
              go_round
              case rel => exact ⟨k + 1, p, q, by omega, by omega, by omega, int_eqS (by omega), int_eqS (by omega), int_eqS (by omega), HE.out⟩
              case measure => simp only [intOf]; omega
            · by_cases q1 : s[k].toNat = 45
              · have HK := Lib.hid (show kindB [43, 45] s[k].toNat = true by unfold kindB; rw [ea, eb, q1]; rfl)
                have LT := Lib.hid (fun W => (ea ▸ letterR s[k].toNat W : Calls Tryz.prog 38 #[.int .u8 s[k].toNat] W (SameV W (.bool false))))
                have DG := Lib.hid (fun W => (eb ▸ digitR s[k].toNat W : Calls Tryz.prog 37 #[.int .u8 s[k].toNat] W (SameV W (.bool false))))
                have f0 : ((s[k].toNat : Int) != 43) = true := by rw [bne_iff_ne]; omega
                have f1 : ((s[k].toNat : Int) != 45) = false := by rw [bne_eq_false_iff_eq]; omega
                clear ea eb q0 q1
                go_wp2_with fail
                refine (LT.out _).mono ?_
                rintro e _w ⟨rfl, rfl⟩
                clear LT
                go_wp2_with fail
                refine (DG.out _).mono ?_
                rintro e _w ⟨rfl, rfl⟩
                clear DG
                have HE := Lib.hid (HA.out.trans (fmt_on h1 H2.out H3.out HK.out))
                clear HA HK H2 H3
                go_wp2_with fail
                go_round
                case rel => exact ⟨k + 1, p, q, by omega, by omega, by omega, int_eqS (by omega), int_eqS (by omega), int_eqS (by omega), HE.out⟩
                case measure => simp only [intOf]; omega
              · have HK := Lib.hid (show kindB [43, 45] s[k].toNat = false by unfold kindB; rw [ea, eb]; simp [q0, q1])
                have LT := Lib.hid (fun W => (ea ▸ letterR s[k].toNat W : Calls Tryz.prog 38 #[.int .u8 s[k].toNat] W (SameV W (.bool false))))
                have DG := Lib.hid (fun W => (eb ▸ digitR s[k].toNat W : Calls Tryz.prog 37 #[.int .u8 s[k].toNat] W (SameV W (.bool false))))
                have f0 : ((s[k].toNat : Int) != 43) = true := by rw [bne_iff_ne]; omega
                have f1 : ((s[k].toNat : Int) != 45) = true := by rw [bne_iff_ne]; omega
                clear ea eb q0 q1
                go_wp2_with fail
                refine (LT.out _).mono ?_
                rintro e _w ⟨rfl, rfl⟩
                clear LT
                go_wp2_with fail
                refine (DG.out _).mono ?_
                rintro e _w ⟨rfl, rfl⟩
                clear DG
                have HE := Lib.hid (HA.out.trans (fmt_no h1 H2.out H3.out HK.out))
                clear HA HK H2 H3
                go_wp2
                go_ret
                exact ⟨by rw [EF.out HE.out]; rfl, rfl⟩
    · have e : k = s.size := by omega
      subst e
      have HT := Lib.hid (ET.out p q (HA.out.trans (fmt_end (by omega))))
      clear HA
      have d1 : decide ((s.size : Int) < s.size) = false := decide_eq_false (by omega)
      by_cases h2 : 1 ≤ s.size
      · have d2 : decide (1 ≤ (s.size : Int)) = true := decide_eq_true (by omega)
        by_cases h3 : s.size ≤ 20
        · have d3 : decide ((s.size : Int) ≤ 20) = true := decide_eq_true (by omega)
          by_cases h4 : p + q ≤ 1
          · have d4 : decide ((p : Int) + q ≤ 1) = true := decide_eq_true (by omega)
            have HD := Lib.hid (show (decide (1 ≤ s.size) && decide (s.size ≤ 20) && decide (p + q ≤ 1)) = true by rw [decide_eq_true h2, decide_eq_true h3, decide_eq_true h4]; rfl)
            go_wp2
            go_ret
            exact ⟨by rw [HT.out, HD.out]; rfl, rfl⟩
          · have d4 : decide ((p : Int) + q ≤ 1) = false := decide_eq_false (by omega)
            have HD := Lib.hid (show (decide (1 ≤ s.size) && decide (s.size ≤ 20) && decide (p + q ≤ 1)) = false by rw [decide_eq_false h4, Bool.and_false])
            go_wp2
            go_ret
            exact ⟨by rw [HT.out, HD.out]; rfl, rfl⟩
        · have d3 : decide ((s.size : Int) ≤ 20) = false := decide_eq_false (by omega)
          have HD := Lib.hid (show (decide (1 ≤ s.size) && decide (s.size ≤ 20) && decide (p + q ≤ 1)) = false by rw [decide_eq_false h3, Bool.and_false, Bool.false_and])
          go_wp2
          go_ret
          exact ⟨by rw [HT.out, HD.out]; rfl, rfl⟩
      · have d2 : decide (1 ≤ (s.size : Int)) = false := decide_eq_false (by omega)
        have HD := Lib.hid (show (decide (1 ≤ s.size) && decide (s.size ≤ 20) && decide (p + q ≤ 1)) = false by rw [decide_eq_false h2]; rfl)
        go_wp2
        go_ret
        exact ⟨by rw [HT.out, HD.out]; rfl, rfl⟩
def plcGo (s : ByteArray) (k p : Nat) : Option Nat :=
  if h : k < s.size then (if s[k].toNat = 47 then (if p = 0 then none else plcGo s (k + 1) 0) else if kindB [95, 43, 45] s[k].toNat = true then plcGo s (k + 1) (p + 1) else none) else some p
termination_by s.size - k
theorem plc_cut0 {s : ByteArray} {k p : Nat} (h : k < s.size) (e : s[k].toNat = 47) (z : p = 0) : plcGo s k p = none := by rw [plcGo, dif_pos h, if_pos e, if_pos z]
theorem plc_cut {s : ByteArray} {k p : Nat} (h : k < s.size) (e : s[k].toNat = 47) (z : ¬ p = 0) : plcGo s k p = plcGo s (k + 1) 0 := by rw [plcGo, dif_pos h, if_pos e, if_neg z]
theorem plc_on {s : ByteArray} {k p : Nat} (h : k < s.size) (e : ¬ s[k].toNat = 47) (z : kindB [95, 43, 45] s[k].toNat = true) : plcGo s k p = plcGo s (k + 1) (p + 1) := by rw [plcGo, dif_pos h, if_neg e, if_pos z]
theorem plc_no {s : ByteArray} {k p : Nat} (h : k < s.size) (e : ¬ s[k].toNat = 47) (z : kindB [95, 43, 45] s[k].toNat = false) : plcGo s k p = none := by rw [plcGo, dif_pos h, if_neg e, if_neg (by rw [z]; decide)]
theorem plc_end {s : ByteArray} {k p : Nat} (h : ¬ k < s.size) : plcGo s k p = some p := by rw [plcGo, dif_neg h]
def placeB (s : ByteArray) : Bool := match plcGo s 0 0 with | none => false | some p => decide (0 < p) && decide (s.size ≤ 40)
theorem placeR (s : ByteArray) (hs : s.size ≤ maxLen) (w : World) : Calls Tryz.prog 21 #[.string s] w (SameV w (.bool (placeB s))) := by
  have sz : s.size ≤ 9223372036854775807 := hs
  have EF := Lib.hid (fun (h : plcGo s 0 0 = none) => show placeB s = false by unfold placeB; rw [h])
  have ET := Lib.hid (fun (p : Nat) (h : plcGo s 0 0 = some p) => show placeB s = (decide (0 < p) && decide (s.size ≤ 40)) by unfold placeB; rw [h])
  go_enter Tryz.func21, Tryz.ntmps21
  go_wp2_with fail
  go_loop [3, 4] (fun v3 v4 => ∃ k p : Nat, k ≤ s.size ∧ p ≤ k ∧ v4 = .int .i64 k ∧ v3 = .int .i64 p ∧ plcGo s 0 0 = plcGo s k p) (fun _ v => s.size - (intOf v).toNat)
  case atStart => exact ⟨0, 0, by omega, by omega, rfl, rfl, rfl⟩
  case round =>
    obtain ⟨k, p, hk, hp, rfl, rfl, ha⟩ := hrel
    have HA := Lib.hid ha
    clear ha
    by_cases h1 : k < s.size
    · have d1 : decide ((k : Int) < s.size) = true := decide_eq_true (by omega)
      by_cases h2 : s[k].toNat = 47
      · have f : ((s[k].toNat : Int) == 47) = true := by rw [beq_iff_eq]; omega
        by_cases h3 : p = 0
        · have HE := Lib.hid (HA.out.trans (plc_cut0 h1 h2 h3))
          have g : ((p : Int) == 0) = true := by rw [beq_iff_eq]; omega
          clear HA h2 h3
          go_wp2
          go_ret
          exact ⟨by rw [EF.out HE.out]; rfl, rfl⟩
        · have HE := Lib.hid (HA.out.trans (plc_cut h1 h2 h3))
          have g : ((p : Int) == 0) = false := by rw [beq_eq_false_iff_ne]; omega
          clear HA h2 h3
          go_wp2_with fail
          go_round
          case rel => exact ⟨k + 1, 0, by omega, by omega, int_eqS (by omega), rfl, HE.out⟩
          case measure => simp only [intOf]; omega
      · have f : ((s[k].toNat : Int) == 47) = false := by rw [beq_eq_false_iff_ne]; omega
        have H2 := Lib.hid h2
        clear h2
        cases ea : ltrB s[k].toNat with
        | true =>
          have HK := Lib.hid (show kindB [95, 43, 45] s[k].toNat = true by unfold kindB; rw [ea]; rfl)
          have LT := Lib.hid (fun W => (ea ▸ letterR s[k].toNat W : Calls Tryz.prog 38 #[.int .u8 s[k].toNat] W (SameV W (.bool true))))
          clear ea
          go_wp2_with fail
          refine (LT.out _).mono ?_
          rintro e _w ⟨rfl, rfl⟩
          clear LT
          have HE := Lib.hid (HA.out.trans (plc_on h1 H2.out HK.out))
          clear HA HK H2
          go_wp2_with fail
          go_round
          case rel => exact ⟨k + 1, p + 1, by omega, by omega, int_eqS (by omega), int_eqS (by omega), HE.out⟩
          case measure => simp only [intOf]; omega
        | false =>
          cases eb : dgtB s[k].toNat with
          | true =>
            have HK := Lib.hid (show kindB [95, 43, 45] s[k].toNat = true by unfold kindB; rw [ea, eb]; rfl)
            have LT := Lib.hid (fun W => (ea ▸ letterR s[k].toNat W : Calls Tryz.prog 38 #[.int .u8 s[k].toNat] W (SameV W (.bool false))))
            have DG := Lib.hid (fun W => (eb ▸ digitR s[k].toNat W : Calls Tryz.prog 37 #[.int .u8 s[k].toNat] W (SameV W (.bool true))))
            clear ea eb
            go_wp2_with fail
            refine (LT.out _).mono ?_
            rintro e _w ⟨rfl, rfl⟩
            clear LT
            go_wp2_with fail
            refine (DG.out _).mono ?_
            rintro e _w ⟨rfl, rfl⟩
            clear DG
            have HE := Lib.hid (HA.out.trans (plc_on h1 H2.out HK.out))
            clear HA HK H2
            go_wp2_with fail
            go_round
            case rel => exact ⟨k + 1, p + 1, by omega, by omega, int_eqS (by omega), int_eqS (by omega), HE.out⟩
            case measure => simp only [intOf]; omega
          | false =>
            by_cases q0 : s[k].toNat = 95
            · have HK := Lib.hid (show kindB [95, 43, 45] s[k].toNat = true by unfold kindB; rw [ea, eb, q0]; rfl)
              have LT := Lib.hid (fun W => (ea ▸ letterR s[k].toNat W : Calls Tryz.prog 38 #[.int .u8 s[k].toNat] W (SameV W (.bool false))))
              have DG := Lib.hid (fun W => (eb ▸ digitR s[k].toNat W : Calls Tryz.prog 37 #[.int .u8 s[k].toNat] W (SameV W (.bool false))))
              have f0 : ((s[k].toNat : Int) != 95) = false := by rw [bne_eq_false_iff_eq]; omega
              clear ea eb q0
              go_wp2_with fail
              refine (LT.out _).mono ?_
              rintro e _w ⟨rfl, rfl⟩
              clear LT
              go_wp2_with fail
              refine (DG.out _).mono ?_
              rintro e _w ⟨rfl, rfl⟩
              clear DG
              have HE := Lib.hid (HA.out.trans (plc_on h1 H2.out HK.out))
              clear HA HK H2
              go_wp2_with fail
              go_round
              case rel => exact ⟨k + 1, p + 1, by omega, by omega, int_eqS (by omega), int_eqS (by omega), HE.out⟩
              case measure => simp only [intOf]; omega
            · by_cases q1 : s[k].toNat = 43
              · have HK := Lib.hid (show kindB [95, 43, 45] s[k].toNat = true by unfold kindB; rw [ea, eb, q1]; rfl)
                have LT := Lib.hid (fun W => (ea ▸ letterR s[k].toNat W : Calls Tryz.prog 38 #[.int .u8 s[k].toNat] W (SameV W (.bool false))))
                have DG := Lib.hid (fun W => (eb ▸ digitR s[k].toNat W : Calls Tryz.prog 37 #[.int .u8 s[k].toNat] W (SameV W (.bool false))))
                have f0 : ((s[k].toNat : Int) != 95) = true := by rw [bne_iff_ne]; omega
                have f1 : ((s[k].toNat : Int) != 43) = false := by rw [bne_eq_false_iff_eq]; omega
                clear ea eb q0 q1
                go_wp2_with fail
                refine (LT.out _).mono ?_
                rintro e _w ⟨rfl, rfl⟩
                clear LT
                go_wp2_with fail
                refine (DG.out _).mono ?_
                rintro e _w ⟨rfl, rfl⟩
                clear DG
                have HE := Lib.hid (HA.out.trans (plc_on h1 H2.out HK.out))
                clear HA HK H2
                go_wp2_with fail
                go_round
                case rel => exact ⟨k + 1, p + 1, by omega, by omega, int_eqS (by omega), int_eqS (by omega), HE.out⟩
                case measure => simp only [intOf]; omega
              · by_cases q2 : s[k].toNat = 45
                · have HK := Lib.hid (show kindB [95, 43, 45] s[k].toNat = true by unfold kindB; rw [ea, eb, q2]; rfl)
                  have LT := Lib.hid (fun W => (ea ▸ letterR s[k].toNat W : Calls Tryz.prog 38 #[.int .u8 s[k].toNat] W (SameV W (.bool false))))
                  have DG := Lib.hid (fun W => (eb ▸ digitR s[k].toNat W : Calls Tryz.prog 37 #[.int .u8 s[k].toNat] W (SameV W (.bool false))))
                  have f0 : ((s[k].toNat : Int) != 95) = true := by rw [bne_iff_ne]; omega
                  have f1 : ((s[k].toNat : Int) != 43) = true := by rw [bne_iff_ne]; omega
                  have f2 : ((s[k].toNat : Int) != 45) = false := by rw [bne_eq_false_iff_eq]; omega
                  clear ea eb q0 q1 q2
                  go_wp2_with fail
                  refine (LT.out _).mono ?_
                  rintro e _w ⟨rfl, rfl⟩
                  clear LT
                  go_wp2_with fail
                  refine (DG.out _).mono ?_
                  rintro e _w ⟨rfl, rfl⟩
                  clear DG
                  have HE := Lib.hid (HA.out.trans (plc_on h1 H2.out HK.out))
                  clear HA HK H2
                  go_wp2_with fail
                  go_round
                  case rel => exact ⟨k + 1, p + 1, by omega, by omega, int_eqS (by omega), int_eqS (by omega), HE.out⟩
                  case measure => simp only [intOf]; omega
                · have HK := Lib.hid (show kindB [95, 43, 45] s[k].toNat = false by unfold kindB; rw [ea, eb]; simp [q0, q1, q2])
                  have LT := Lib.hid (fun W => (ea ▸ letterR s[k].toNat W : Calls Tryz.prog 38 #[.int .u8 s[k].toNat] W (SameV W (.bool false))))
                  have DG := Lib.hid (fun W => (eb ▸ digitR s[k].toNat W : Calls Tryz.prog 37 #[.int .u8 s[k].toNat] W (SameV W (.bool false))))
                  have f0 : ((s[k].toNat : Int) != 95) = true := by rw [bne_iff_ne]; omega
                  have f1 : ((s[k].toNat : Int) != 43) = true := by rw [bne_iff_ne]; omega
                  have f2 : ((s[k].toNat : Int) != 45) = true := by rw [bne_iff_ne]; omega
                  clear ea eb q0 q1 q2
                  go_wp2_with fail
                  refine (LT.out _).mono ?_
                  rintro e _w ⟨rfl, rfl⟩
                  clear LT
                  go_wp2_with fail
                  refine (DG.out _).mono ?_
                  rintro e _w ⟨rfl, rfl⟩
                  clear DG
                  have HE := Lib.hid (HA.out.trans (plc_no h1 H2.out HK.out))
                  clear HA HK H2
                  go_wp2
                  go_ret
                  exact ⟨by rw [EF.out HE.out]; rfl, rfl⟩
    · have e : k = s.size := by omega
      subst e
      have HT := Lib.hid (ET.out p (HA.out.trans (plc_end (by omega))))
      clear HA
      have d1 : decide ((s.size : Int) < s.size) = false := decide_eq_false (by omega)
      by_cases h2 : 0 < p
      · have d2 : decide (0 < (p : Int)) = true := decide_eq_true (by omega)
        by_cases h3 : s.size ≤ 40
        · have d3 : decide ((s.size : Int) ≤ 40) = true := decide_eq_true (by omega)
          have HD := Lib.hid (show (decide (0 < p) && decide (s.size ≤ 40)) = true by rw [decide_eq_true h2, decide_eq_true h3]; rfl)
          go_wp2
          go_ret
          exact ⟨by rw [HT.out, HD.out]; rfl, rfl⟩
        · have d3 : decide ((s.size : Int) ≤ 40) = false := decide_eq_false (by omega)
          have HD := Lib.hid (show (decide (0 < p) && decide (s.size ≤ 40)) = false by rw [decide_eq_false h3, Bool.and_false])
          go_wp2
          go_ret
          exact ⟨by rw [HT.out, HD.out]; rfl, rfl⟩
      · have d2 : decide (0 < (p : Int)) = false := decide_eq_false (by omega)
        have HD := Lib.hid (show (decide (0 < p) && decide (s.size ≤ 40)) = false by rw [decide_eq_false h2]; rfl)
        go_wp2
        go_ret
        exact ⟨by rw [HT.out, HD.out]; rfl, rfl⟩
def TX (l : List (ByteArray × Int)) (f : Nat) : Nat → List ByteArray
  | 0 => []
  | j + 1 => TX l f j ++ (if h : f + j < l.length then [l[f + j].1] else [])
section
variable {l : List (ByteArray × Int)} {f : Nat}
end
def spotRes (l : List (ByteArray × Int)) (f : Nat) (ln : Int) : Sp × Flt := if (parseRes (TX l f 3)).2.2 = 0 then ((parseRes (TX l f 3)).1, (0, 0, 0)) else (.zero, ((parseRes (TX l f 3)).2.2, ln, (l.getD (f + (parseRes (TX l f 3)).2.1.toNat) (⟨#[]⟩, 0)).2))
end Go.Proofs.YtnkmlfbnfndfpaaGreatDoor
namespace Go.Proofs.YtnkmlfbnfndfpaaGreatDoor
open Go.RowKit
def yearN (s : ByteArray) : Int := if digB s s.size = true then (if 4 < s.size then 0 else digN s s.size) else 0
def offN (s : ByteArray) (most : Int) : Int × Int := match spanRes s with | none => (0, 6) | some n => if n ≤ -86400 ∨ 86400 ≤ n ∨ most < n ∨ n < -most then (0, 11) else (n, 0)
def fx (l : List (ByteArray × Int)) (j : Nat) : ByteArray := (l.getD j (⟨#[]⟩, 0)).1
def fa (l : List (ByteArray × Int)) (j : Nat) : Int := (l.getD j (⟨#[]⟩, 0)).2
def Flt.no : Flt := (0, 0, 0)
def chk (b : Bool) (f : Flt) : Flt := if b = true then Flt.no else f
def orF (a b : Flt) : Flt := if a.1 = 0 then b else a
theorem chk_yes {b : Bool} (f : Flt) (h : b = true) : chk b f = Flt.no := if_pos h
theorem chk_no {b : Bool} (f : Flt) (h : b = false) : chk b f = f := if_neg (by rw [h]; decide)
theorem orF_no {a b : Flt} (h : a.1 = 0) : orF a b = b := if_pos h
theorem orF_yes {a b : Flt} (h : ¬ a.1 = 0) : orF a b = a := if_neg h
theorem orF_zero {a b : Flt} : (orF a b).1 = 0 ↔ a.1 = 0 ∧ b.1 = 0 := by
  unfold orF
  by_cases h : a.1 = 0
  · rw [if_pos h]; exact ⟨fun k => ⟨h, k⟩, fun k => k.2⟩
  · rw [if_neg h]; exact ⟨fun k => absurd k h, fun k => absurd k.1 h⟩
theorem chk_zero {b : Bool} {f : Flt} (hf : ¬ f.1 = 0) : (chk b f).1 = 0 ↔ b = true := by
  unfold chk
  by_cases h : b = true
  · rw [if_pos h]; exact ⟨fun _ => h, fun _ => rfl⟩
  · rw [if_neg h]; exact ⟨fun k => absurd k hf, fun k => absurd k h⟩
def dashT : ByteArray := ⟨#[45]⟩
def onlyT : ByteArray := ⟨#[111, 110, 108, 121]⟩
def maxT : ByteArray := ⟨#[109, 97, 120]⟩
def toN (t2 t3 : ByteArray) : Int := if t3 = maxT then 1000000 else if t3 = onlyT then yearN t2 else yearN t3
def ruleFlt (l : List (ByteArray × Int)) (ln : Int) : Flt :=
  orF (chk (setB (fx l 1)) (6, ln, fa l 1)) <| orF (chk (decide (¬ yearN (fx l 2) = 0)) (6, ln, fa l 2)) <| orF (chk (decide (¬ toN (fx l 2) (fx l 3) = 0)) (6, ln, fa l 3)) <|
  orF (chk (decide (fx l 4 = dashT)) (6, ln, fa l 4)) <| orF (spotRes l 5 ln).2 <| orF ((offN (fx l 8) 43200).2, ln, fa l 8) <| chk (lettersB (fx l 9)) (6, ln, fa l 9)
def ruleVal (l : List (ByteArray × Int)) (ln : Int) : Rl := ⟨fx l 1, yearN (fx l 2), toN (fx l 2) (fx l 3), (spotRes l 5 ln).1, (offN (fx l 8) 43200).1, if fx l 9 = dashT then ⟨#[]⟩ else fx l 9⟩
def namely (s : ByteArray) : Bool := if h : 0 < s.size then ltrB s[0].toNat || s[0].toNat == 95 else false
def eraSave (r : ByteArray) (ln a : Int) : Flt := if r = dashT then Flt.no else if namely r = true then chk (setB r) (6, ln, a) else ((offN r 43200).2, ln, a)
def eraFlt (l : List (ByteArray × Int)) (i : Nat) (ln : Int) : Flt :=
  orF ((offN (fx l i) 86400).2, ln, fa l i) <| orF (eraSave (fx l (i + 1)) ln (fa l (i + 1))) <| orF (chk (formatB (fx l (i + 2))) (6, ln, fa l (i + 2))) <|
  if i + 3 < l.length then orF (chk (decide (¬ yearN (fx l (i + 3)) = 0)) (6, ln, fa l (i + 3))) (spotRes l (i + 4) ln).2 else Flt.no
def eraKind (r : ByteArray) : Int := if r = dashT then 0 else if namely r = true then 2 else 1
def eraVal (l : List (ByteArray × Int)) (i : Nat) (ln : Int) : Er :=
  ⟨(offN (fx l i) 86400).1, eraKind (fx l (i + 1)), if eraKind (fx l (i + 1)) = 1 then (offN (fx l (i + 1)) 43200).1 else 0, if eraKind (fx l (i + 1)) = 2 then fx l (i + 1) else ⟨#[]⟩, fx l (i + 2), decide (i + 3 < l.length),
    if i + 3 < l.length then yearN (fx l (i + 3)) else 0, if i + 3 < l.length then (spotRes l (i + 4) ln).1 else .zero⟩
def Zn.til (z : Zn) : Bool := match z.eras.getLast? with | .none => false | some x => x.til
def Sr.til (S : Sr) : Bool := match S.zones.getLast? with | .none => false | some z => z.til
def Sr.eras (S : Sr) : Nat := match S.zones.getLast? with | .none => 0 | some z => z.eras.length
def addTo (x : Er) : List Zn → List Zn
  | [] => []
  | [z] => [⟨z.name, z.eras ++ [x]⟩]
  | z :: y :: r => z :: addTo x (y :: r)
def ruleT : ByteArray := ⟨#[82, 117, 108, 101]⟩
def zoneT : ByteArray := ⟨#[90, 111, 110, 101]⟩
def linkT : ByteArray := ⟨#[76, 105, 110, 107]⟩
def lineFlt (S : Sr) (l : List (ByteArray × Int)) (all : ByteArray) (n : Int) : Flt :=
  if S.til = true then orF (chk (decide (S.eras < 40)) (12, n, fa l 0)) (orF (countRes l all n 3 7) (eraFlt l 0 n))
  else if fx l 0 = ruleT then orF (chk (decide (S.rules.length < 200)) (12, n, fa l 0)) (orF (countRes l all n 10 10) (ruleFlt l n))
  else if fx l 0 = zoneT then orF (chk (decide (S.zones.length < 50)) (12, n, fa l 0)) (orF (countRes l all n 5 9) (orF (chk (placeB (fx l 1)) (6, n, fa l 1)) (eraFlt l 2 n)))
  else if fx l 0 = linkT then orF (chk (decide (S.links.length < 100)) (12, n, fa l 0)) (orF (countRes l all n 3 3) (orF (chk (placeB (fx l 1)) (6, n, fa l 1)) (chk (placeB (fx l 2)) (6, n, fa l 2))))
  else (13, n, fa l 0)
def lineSrc (S : Sr) (l : List (ByteArray × Int)) (n : Int) : Sr :=
  if S.til = true then ⟨S.rules, addTo (eraVal l 0 n) S.zones, S.links⟩
  else if fx l 0 = ruleT then ⟨S.rules ++ [ruleVal l n], S.zones, S.links⟩
  else if fx l 0 = zoneT then ⟨S.rules, S.zones ++ [⟨fx l 1, [eraVal l 2 n]⟩], S.links⟩
  else ⟨S.rules, S.zones, S.links ++ [⟨fx l 1, fx l 2⟩]⟩
def lineStep (S : Sr) (t : ByteArray) (n : Int) : Flt × Sr :=
  if ¬ (splitC t).2.2 = 0 then (((splitC t).2.2, n, (splitC t).2.1), S)
  else if (splitC t).1 = [] then (Flt.no, S)
  else (lineFlt S (splitC t).1 t n, lineSrc S (splitC t).1 n)
def linesGo : List ByteArray → Int → Sr → Flt × Sr
  | [], _, S => (Flt.no, S)
  | t :: r, n, S => if (lineStep S t n).1.1 = 0 then linesGo r (n + 1) (lineStep S t n).2 else ((lineStep S t n).1, S)
def srcRes (s : ByteArray) : Sr × Flt :=
  if 100000 < s.size then (.none, (12, 0, 0))
  else if ¬ (linesGo (lnsFrom s 0 0) 1 .none).1.1 = 0 then (.none, (linesGo (lnsFrom s 0 0) 1 .none).1)
  else if (linesGo (lnsFrom s 0 0) 1 .none).2.til = true then (.none, (14, ((lnsFrom s 0 0).length : Int) + 1, 0))
  else ((linesGo (lnsFrom s 0 0) 1 .none).2, Flt.no)
def Rl.ok (x : Rl) : Prop := (1 ≤ x.fr ∧ x.fr ≤ 9999) ∧ (1 ≤ x.last ∧ (x.last ≤ 9999 ∨ x.last = 1000000)) ∧ x.sp.ok ∧ (-43200 ≤ x.save ∧ x.save ≤ 43200) ∧ setB x.name = true ∧ ¬ x.letter = dashT ∧ (x.letter = ⟨#[]⟩ ∨ lettersB x.letter = true)
def Er.ok (x : Er) : Prop := (-86400 < x.off ∧ x.off < 86400) ∧ (-43200 ≤ x.save ∧ x.save ≤ 43200) ∧ formatB x.fmt = true ∧ (0 ≤ x.kind ∧ x.kind ≤ 2) ∧ (x.kind ≠ 1 → x.save = 0) ∧ (x.kind ≠ 2 → x.rules = ⟨#[]⟩) ∧ (x.kind = 2 → setB x.rules = true) ∧
  (x.til = true → (1 ≤ x.year ∧ x.year ≤ 9999) ∧ x.sp.ok) ∧ (x.til = false → x.year = 0 ∧ x.sp = .zero)
def tilOk : List Er → Prop
  | [] => False
  | [x] => x.til = false
  | x :: y :: r => x.til = true ∧ tilOk (y :: r)
def Zn.ok (z : Zn) : Prop := placeB z.name = true ∧ z.eras.length ≤ 40 ∧ (∀ x ∈ z.eras, x.ok) ∧ tilOk z.eras
def Lk.ok (x : Lk) : Prop := placeB x.target = true ∧ placeB x.name = true
def Sr.ok (S : Sr) : Prop := S.rules.length ≤ 200 ∧ S.zones.length ≤ 50 ∧ S.links.length ≤ 100 ∧ (∀ x ∈ S.rules, x.ok) ∧ (∀ z ∈ S.zones, z.ok) ∧ (∀ x ∈ S.links, x.ok)
def spc : List ByteArray → ByteArray
  | [] => ⟨#[]⟩
  | [a] => a
  | a :: b :: r => a ++ ⟨#[32]⟩ ++ spc (b :: r)
def yearT (n : Int) : ByteArray := decB n.toNat
def untilT (x : Rl) : ByteArray := if x.last = x.fr then onlyT else if x.last = 1000000 then maxT else yearT x.last
def ruleTexts (x : Rl) : List ByteArray := [ruleT, x.name, yearT x.fr, untilT x, dashT] ++ spTexts x.sp ++ [timeB x.save, dashB x.letter]
def saveT (x : Er) : ByteArray := if x.kind = 1 then timeB x.save else dashB x.rules
def eraTexts (x : Er) : List ByteArray := [timeB x.off, saveT x, x.fmt] ++ if x.til = true then yearT x.year :: spTexts x.sp else []
def linkTexts (x : Lk) : List ByteArray := [linkT, x.target, x.name]
def zoneLines (z : Zn) : List (List ByteArray) := match z.eras with
  | [] => [[zoneT, z.name]]
  | x :: r => ([zoneT, z.name] ++ eraTexts x) :: r.map eraTexts
def srcLines (S : Sr) : List (List ByteArray) := S.rules.map ruleTexts ++ S.zones.flatMap zoneLines ++ S.links.map linkTexts
def nlT : ByteArray := ⟨#[10]⟩
def textOf : List (List ByteArray) → ByteArray
  | [] => ⟨#[]⟩
  | l :: r => spc l ++ nlT ++ textOf r
def srcText (S : Sr) : ByteArray := textOf (srcLines S)
def bareL (s : ByteArray) : Prop := ∀ (j : Nat) (h : j < s.size), bareB s[j].toNat = true
theorem bareL_nil : bareL ⟨#[]⟩ := fun j h => absurd h (Nat.not_lt_zero j)
theorem get_app {P : UInt8 → Prop} {a b : ByteArray} (ha : ∀ (j : Nat) (h : j < a.size), P a[j]) (hb : ∀ (j : Nat) (h : j < b.size), P b[j]) : ∀ (j : Nat) (h : j < (a ++ b).size), P (a ++ b)[j] := fun j h => by
  have hz := size_app a b
  by_cases c : j < a.size
  · rw [ByteArray.getElem_append_left c]; exact ha _ _
  · rw [ByteArray.getElem_append_right (by omega)]; exact hb _ _
theorem bareL_app {a b : ByteArray} (ha : bareL a) (hb : bareL b) : bareL (a ++ b) := get_app (P := fun c => bareB c.toNat = true) ha hb
theorem bareL_list {l : List UInt8} (h : ∀ c ∈ l, bareB c.toNat = true) : bareL ⟨l.toArray⟩ := fun j hj => by
  have hj' : j < l.length := hj
  exact h l[j] (List.getElem_mem hj')
theorem plain_of {s : ByteArray} (h0 : 0 < s.size) (h : bareL s) : plainT s = true := by
  have : ∀ k, k ≤ s.size → barePre s k = true := by
    intro k
    induction k with
    | zero => intro _; exact decide_eq_true h0
    | succ k ih => intro hk; rw [bare_succ (by omega), ih (by omega), h k (by omega)]; rfl
  exact this _ (Nat.le_refl _)
theorem allB_get {p : Nat → Bool} {s : ByteArray} (h : allB p s s.size = true) (j : Nat) (hj : j < s.size) : p s[j].toNat = true := by
  apply Classical.byContradiction
  intro c
  rw [allB_no hj (by simpa using c)] at h
  cases h
theorem kind_bare {l : List Nat} (hl : ∀ x ∈ l, bareB x = true) {c : Nat} (h : kindB l c = true) : bareB c = true := by
  unfold kindB ltrB dgtB at h
  simp only [Bool.or_eq_true, decide_eq_true_eq, List.contains_iff_mem] at h
  rcases h with ((h | h) | h) | h
  · unfold bareB; simp; omega
  · unfold bareB; simp; omega
  · unfold bareB; simp; omega
  · exact hl c h
theorem set_bare {s : ByteArray} (h : setB s = true) : 0 < s.size ∧ s.size ≤ 20 ∧ bareL s := by
  unfold setB at h
  split at h
  · rename_i z
    simp only [Bool.and_eq_true] at h
    exact ⟨z.1, z.2, fun j hj => kind_bare (l := [95, 45]) (by decide) (allB_get h.2 j hj)⟩
  · cases h
theorem letters_bare {s : ByteArray} (h : lettersB s = true) : 0 < s.size ∧ s.size ≤ 8 ∧ bareL s := by
  unfold lettersB at h
  simp only [Bool.and_eq_true, decide_eq_true_eq] at h
  exact ⟨by omega, h.2.2, fun j hj => kind_bare (l := [43, 45]) (by decide) (allB_get h.1 j hj)⟩
theorem plc_bare {s : ByteArray} : ∀ (d k p q : Nat), s.size - k ≤ d → plcGo s k p = some q → ∀ (j : Nat) (hj : j < s.size), k ≤ j → bareB s[j].toNat = true := by
  intro d
  induction d with
  | zero => intro k p q hd _ j hj hk; omega
  | succ d ih =>
    intro k p q hd h j hj hk
    by_cases hk' : k < s.size
    case neg => omega
    by_cases e : s[k].toNat = 47
    · by_cases z : p = 0
      · rw [plc_cut0 hk' e z] at h; cases h
      · rw [plc_cut hk' e z] at h
        by_cases c : j = k
        · subst c; rw [e]; decide
        · exact ih (k + 1) _ q (by omega) h j hj (by omega)
    · by_cases z : kindB [95, 43, 45] s[k].toNat = true
      · rw [plc_on hk' e z] at h
        by_cases c : j = k
        · subst c; exact kind_bare (by decide) z
        · exact ih (k + 1) _ q (by omega) h j hj (by omega)
      · rw [plc_no hk' e (by simpa using z)] at h; cases h
theorem place_bare {s : ByteArray} (h : placeB s = true) : 0 < s.size ∧ s.size ≤ 40 ∧ bareL s := by
  unfold placeB at h
  split at h
  · cases h
  · rename_i p e
    simp only [Bool.and_eq_true, decide_eq_true_eq] at h
    refine ⟨?_, h.2, fun j hj => plc_bare s.size 0 0 p (by omega) e j hj (by omega)⟩
    apply Classical.byContradiction
    intro c
    rw [plc_end (by omega)] at e
    cases e
    exact absurd h.1 (by decide)
theorem fmt_bare {s : ByteArray} : ∀ (d k p q : Nat) (r : Nat × Nat), s.size - k ≤ d → fmtGo s k p q = some r → ∀ (j : Nat) (hj : j < s.size), k ≤ j → bareB s[j].toNat = true := by
  intro d
  induction d with
  | zero => intro k p q r hd _ j hj hk; omega
  | succ d ih =>
    intro k p q r hd h j hj hk
    by_cases hk' : k < s.size
    case neg => omega
    by_cases e : s[k].toNat = 37
    · by_cases h' : k + 1 < s.size
      · by_cases z : s[k + 1].toNat = 115 ∨ s[k + 1].toNat = 122
        · rw [fmt_pc hk' e h' z] at h
          by_cases c : j = k
          · subst c; rw [e]; decide
          · exact ih (k + 1) _ _ r (by omega) h j hj (by omega)
        · rw [fmt_pc1 hk' e h' z] at h; cases h
      · rw [fmt_pc0 hk' e h'] at h; cases h
    by_cases e' : s[k].toNat = 47
    · by_cases z : k = 0 ∨ k + 1 = s.size
      · rw [fmt_sl0 hk' e e' z] at h; cases h
      · rw [fmt_sl hk' e e' z] at h
        by_cases c : j = k
        · subst c; rw [e']; decide
        · exact ih (k + 1) _ _ r (by omega) h j hj (by omega)
    · by_cases z : kindB [43, 45] s[k].toNat = true
      · rw [fmt_on hk' e e' z] at h
        by_cases c : j = k
        · subst c; exact kind_bare (by decide) z
        · exact ih (k + 1) _ _ r (by omega) h j hj (by omega)
      · rw [fmt_no hk' e e' (by simpa using z)] at h; cases h
theorem format_bare {s : ByteArray} (h : formatB s = true) : 0 < s.size ∧ s.size ≤ 20 ∧ bareL s := by
  unfold formatB at h
  split at h
  · cases h
  · rename_i p q e
    simp only [Bool.and_eq_true, decide_eq_true_eq] at h
    exact ⟨h.1.1, h.1.2, fun j hj => fmt_bare s.size 0 0 0 _ (by omega) e j hj (by omega)⟩
theorem digits_bare (n : Nat) : bareL (decB n) ∧ 0 < (decB n).size := by
  refine ⟨bareL_list fun c hc => ?_, ?_⟩
  · have := dec_digit n c hc
    unfold bareB; simp; omega
  · rw [decB_size]
    exact List.length_pos_iff.2 (dec_ne n)
theorem tw_bare (n : Nat) : bareL (twB n) := by
  unfold twB
  split
  · exact bareL_app (bareL_list (by decide)) (digits_bare n).1
  · exact (digits_bare n).1
theorem time_bare (n : Int) : bareL (timeB n) ∧ 0 < (timeB n).size := by
  have sg : bareL (if n < 0 then ⟨[45].toArray⟩ else ⟨[].toArray⟩) := by
    split
    · exact bareL_list (by decide)
    · exact bareL_nil
  have co : bareL ⟨[58].toArray⟩ := bareL_list (by decide)
  have d0 := (digits_bare (n.natAbs / 3600)).2
  unfold timeB
  split
  · exact ⟨bareL_app (bareL_app (bareL_app sg (digits_bare _).1) co) (tw_bare _), by simp only [size_app]; omega⟩
  · exact ⟨bareL_app (bareL_app (bareL_app (bareL_app (bareL_app sg (digits_bare _).1) co) (tw_bare _)) co) (tw_bare _), by simp only [size_app]; omega⟩
theorem mon_bare : ∀ k, k < 12 → bareL (mon3.getD k ⟨#[]⟩) ∧ (mon3.getD k ⟨#[]⟩).size = 3 := by
  have : ∀ k, k < 12 → (∀ c ∈ (mon3.getD k ⟨#[]⟩).data.toList, bareB c.toNat = true) ∧ (mon3.getD k ⟨#[]⟩).size = 3 := by decide
  intro k hk
  refine ⟨fun j hj => (this k hk).1 _ (by rw [ByteArray.getElem_eq_getElem_data]; exact Array.mem_toList_iff.2 (Array.getElem_mem _)), (this k hk).2⟩
theorem wd_bare : ∀ k, k < 8 → bareL (wd3.getD k ⟨#[]⟩) := by
  have : ∀ k, k < 8 → (∀ c ∈ (wd3.getD k ⟨#[]⟩).data.toList, bareB c.toNat = true) := by decide
  intro k hk j hj
  exact this k hk _ (by rw [ByteArray.getElem_eq_getElem_data]; exact Array.mem_toList_iff.2 (Array.getElem_mem _))
theorem spot_bare {x : Sp} (h : x.ok) : ∀ t ∈ spTexts x, bareL t ∧ 0 < t.size ∧ t.size ≤ 27 := by
  obtain ⟨hmo, hki, hti, hre, h1, h2, h3, h4⟩ := h
  have t1 := time_bare x.ti
  have t2 := timeB_le x.ti (by omega) (by omega)
  have d1 := digits_bare x.da.toNat
  have w1 := wd_bare x.wd.toNat (by omega)
  have w2 := wd3_size x.wd.toNat (by omega)
  have dd : (decB x.da.toNat).size ≤ 19 := decB_le (by
    by_cases k : x.ki = 1
    · have := h3 k; omega
    · have := h4 k; omega)
  intro t ht
  unfold spTexts at ht
  simp only [List.mem_cons, List.not_mem_nil, or_false] at ht
  rcases ht with rfl | rfl | rfl
  · have m := mon_bare (x.mo - 1).toNat (by omega)
    exact ⟨m.1, by omega, by omega⟩
  · unfold spDay
    split
    · exact ⟨d1.1, d1.2, by omega⟩
    split
    · refine ⟨bareL_app (bareL_list (l := [108, 97, 115, 116]) (by decide)) w1, ?_, ?_⟩
      · rw [size_app, show (⟨#[108, 97, 115, 116]⟩ : ByteArray).size = 4 from rfl]; omega
      · rw [size_app, show (⟨#[108, 97, 115, 116]⟩ : ByteArray).size = 4 from rfl]; omega
    split
    · refine ⟨bareL_app (bareL_app w1 (bareL_list (l := [62, 61]) (by decide))) d1.1, ?_, ?_⟩
      · rw [size_app]; omega
      · rw [size_app, size_app, show (⟨#[62, 61]⟩ : ByteArray).size = 2 from rfl]; omega
    · refine ⟨bareL_app (bareL_app w1 (bareL_list (l := [60, 61]) (by decide))) d1.1, ?_, ?_⟩
      · rw [size_app]; omega
      · rw [size_app, size_app, show (⟨#[60, 61]⟩ : ByteArray).size = 2 from rfl]; omega
  · unfold spClk
    split
    · exact ⟨t1.1, t1.2, by omega⟩
    split
    · refine ⟨bareL_app t1.1 (bareL_list (l := [115]) (by decide)), ?_, ?_⟩
      · rw [size_app]; omega
      · rw [size_app, show (⟨#[115]⟩ : ByteArray).size = 1 from rfl]; omega
    · refine ⟨bareL_app t1.1 (bareL_list (l := [117]) (by decide)), ?_, ?_⟩
      · rw [size_app]; omega
      · rw [size_app, show (⟨#[117]⟩ : ByteArray).size = 1 from rfl]; omega
theorem spc_snoc (x : ByteArray) : ∀ a : List ByteArray, a ≠ [] → spc (a ++ [x]) = spc a ++ ⟨#[32]⟩ ++ x
  | [], h => absurd rfl h
  | [b], _ => rfl
  | b :: c :: r, _ => by
    show b ++ ⟨#[32]⟩ ++ spc ((c :: r) ++ [x]) = _
    rw [spc_snoc x (c :: r) (by simp)]
    show _ = (b ++ ⟨#[32]⟩ ++ spc (c :: r)) ++ ⟨#[32]⟩ ++ x
    simp only [ByteArray.append_assoc]
theorem join_spc {l : List ByteArray} (h : ∀ t ∈ l, plainT t = true) : ∀ i, i ≤ l.length → joinGo l i = spc (l.take i)
  | 0, _ => by rw [List.take_zero]; rfl
  | i + 1, hi => by
    have hi' : i < l.length := by omega
    rw [join_succ hi', if_pos (h _ (List.getElem_mem hi')), join_spc h i (by omega), List.take_add_one, List.getElem?_eq_getElem hi']
    show _ = spc (l.take i ++ [l[i]])
    by_cases h0 : 0 < i
    · rw [if_pos h0, spc_snoc]
      intro c
      have := congrArg List.length c
      rw [List.length_take, List.length_nil] at this
      omega
    · obtain rfl : i = 0 := by omega
      rw [if_neg h0, List.take_zero]
      exact nil_append _
theorem plain_ok {t : ByteArray} (h : plainT t = true) : okText t := fun j hj _ => by
  have := (plain_pre t.size (Nat.le_refl _) h).2 j hj hj
  unfold bareB at this
  unfold okB
  simp at this ⊢
  omega
theorem spc_size : ∀ (l : List ByteArray) (k : Nat), (∀ t ∈ l, t.size ≤ k) → (spc l).size ≤ (k + 1) * l.length
  | [], _, _ => Nat.le_refl _
  | [a], k, h => by have := h a (by simp); show a.size ≤ _; simp; omega
  | a :: b :: r, k, h => by
    have h1 := h a (by simp)
    have h2 := spc_size (b :: r) k (fun t ht => h t (List.mem_cons_of_mem _ ht))
    show (a ++ ⟨#[32]⟩ ++ spc (b :: r)).size ≤ _
    rw [size_app, size_app, show (⟨#[32]⟩ : ByteArray).size = 1 from rfl]
    rw [List.length_cons, Nat.mul_succ]
    omega
theorem empty_of {s : ByteArray} (h : s.size = 0) : s = ⟨#[]⟩ := by
  obtain ⟨d⟩ := s
  have : d = #[] := Array.eq_empty_of_size_eq_zero h
  rw [this]
theorem dash_of {s : ByteArray} (h : 0 < s.size) : dashB s = s := by unfold dashB; rw [if_neg (by omega)]
theorem year_ok {n : Int} (h1 : 1 ≤ n) (h2 : n ≤ 9999) : bareL (yearT n) ∧ 0 < (yearT n).size ∧ (yearT n).size ≤ 27 := by
  have d := digits_bare n.toNat
  have : (yearT n).size ≤ 19 := decB_le (n := n.toNat) (by omega)
  exact ⟨d.1, d.2, by omega⟩
theorem time_ok {n : Int} (h1 : -9223372036854775808 ≤ n) (h2 : n ≤ 9223372036854775807) : bareL (timeB n) ∧ 0 < (timeB n).size ∧ (timeB n).size ≤ 27 := by
  have := timeB_le n h1 h2
  exact ⟨(time_bare n).1, (time_bare n).2, by omega⟩
def fld (k : Nat) (t : ByteArray) : Prop := bareL t ∧ 0 < t.size ∧ t.size ≤ k
theorem fld_word (l : List UInt8) (h : ∀ c ∈ l, bareB c.toNat = true) (h0 : 0 < l.length) (h1 : l.length ≤ 27) : fld 27 ⟨l.toArray⟩ := ⟨bareL_list h, h0, h1⟩
theorem fld_dash : fld 27 dashT := fld_word [45] (by decide) (by decide) (by decide)
theorem rule_flds {x : Rl} (k : x.ok) : ∀ t ∈ ruleTexts x, fld 27 t := by
  obtain ⟨⟨fr1, fr2⟩, ⟨l1, l2⟩, ks, ⟨s1, s2⟩, kn, nd, kl⟩ := k
  have sb := set_bare kn
  intro t ht
  unfold ruleTexts at ht
  simp only [List.mem_append, List.mem_cons, List.not_mem_nil, or_false] at ht
  rcases ht with ((rfl | rfl | rfl | rfl | rfl) | ht) | rfl | rfl
  · exact fld_word [82, 117, 108, 101] (by decide) (by decide) (by decide)
  · exact ⟨sb.2.2, sb.1, by omega⟩
  · exact year_ok fr1 fr2
  · unfold untilT
    split
    · exact fld_word [111, 110, 108, 121] (by decide) (by decide) (by decide)
    split
    · exact fld_word [109, 97, 120] (by decide) (by decide) (by decide)
    · exact year_ok l1 (by omega)
  · exact fld_dash
  · exact spot_bare ks t ht
  · exact time_ok (by omega) (by omega)
  · by_cases z : x.letter.size = 0
    · rw [empty_of z]; exact fld_dash
    · rw [dash_of (by omega)]
      rcases kl with c | c
      · rw [c] at z; exact absurd rfl z
      · have := letters_bare c
        exact ⟨this.2.2, this.1, by omega⟩
theorem era_flds {x : Er} (k : x.ok) : ∀ t ∈ eraTexts x, fld 27 t := by
  obtain ⟨⟨o1, o2⟩, ⟨s1, s2⟩, kf, ⟨k1, k2⟩, ks, kr, kn, kt, ku⟩ := k
  have fb := format_bare kf
  intro t ht
  unfold eraTexts at ht
  simp only [List.mem_append, List.mem_cons, List.not_mem_nil, or_false] at ht
  rcases ht with (rfl | rfl | rfl) | ht
  · exact time_ok (by omega) (by omega)
  · unfold saveT
    split
    · exact time_ok (by omega) (by omega)
    · rename_i c
      by_cases d : x.kind = 2
      · have := set_bare (kn d)
        rw [dash_of this.1]
        exact ⟨this.2.2, this.1, by omega⟩
      · rw [kr d]; exact fld_dash
  · exact ⟨fb.2.2, fb.1, by omega⟩
  · split at ht
    · rename_i c
      obtain ⟨⟨y1, y2⟩, kp⟩ := kt c
      rcases List.mem_cons.1 ht with rfl | ht
      · exact year_ok y1 y2
      · exact spot_bare kp t ht
    · cases ht
theorem place_fld {s : ByteArray} (h : placeB s = true) : fld 40 s := by
  have := place_bare h
  exact ⟨this.2.2, this.1, this.2.1⟩
theorem fld_mono {a b : Nat} {t : ByteArray} (h : fld a t) (l : a ≤ b) : fld b t := ⟨h.1, h.2.1, by have := h.2.2; omega⟩
theorem era_len (x : Er) : (eraTexts x).length = 3 ∨ (eraTexts x).length = 7 := by
  unfold eraTexts
  split
  · exact .inr rfl
  · exact .inl rfl
structure Own where
  v : Value
  e : TypeId
  size : Nat
  n : Nat
  xs : List Value
def Own.blk (r : Own) : Option Nat := r.v.ownBlock
def Own.own (r : Own) (w : World) (base : Nat) : Prop := w.ownsRow base r.e r.size r.v r.n r.xs
structure OwnAll (w : World) (base : Nat) (R : List Own) : Prop where
  own : ∀ r ∈ R, r.own w base
  apart : (R.filterMap Own.blk).Nodup
section
variable {w w' : World} {base : Nat} {R : List Own}
theorem OwnAll.nil (w : World) (base : Nat) : OwnAll w base [] := ⟨fun _ h => (by cases h), List.nodup_nil⟩
theorem OwnAll.perm {R' : List Own} (h : OwnAll w base R) (p : R'.Perm R) : OwnAll w base R' := ⟨fun r hr => h.own r (p.mem_iff.1 hr), ((p.filterMap _).nodup_iff).2 h.apart⟩
theorem OwnAll.grown (h : OwnAll w base R) (g : w.grownBy w' none) : OwnAll w' base R := ⟨fun r hr => (h.own r hr).kept g (by
    cases e : r.v.ownBlock with
    | none => exact .inl rfl
    | some k => exact .inr (by simp)), h.apart⟩
theorem OwnAll.empty (h : OwnAll w base R) (e : TypeId) (size : Nat) : OwnAll w base (⟨.slice none 0 0, e, size, 0, []⟩ :: R) := by
  refine ⟨fun r hr => ?_, ?_⟩
  · rcases List.mem_cons.1 hr with rfl | hr
    · exact World.ownsRow_nil _ _ _ _
    · exact h.own r hr
  · exact h.apart
theorem OwnAll.cons (h : OwnAll w base R) (g : w.grownBy w' none) (r : Own) (o : r.own w' base) (new : ∀ k, r.v.ownBlock = some k → w.heap.size ≤ k) : OwnAll w' base (r :: R) := by
  have h' := h.grown g
  refine ⟨fun q hq => ?_, ?_⟩
  · rcases List.mem_cons.1 hq with rfl | hq
    · exact o
    · exact h'.own q hq
  · cases e : r.blk with
    | none => rw [List.filterMap_cons_none e]; exact h.apart
    | some k =>
      rw [List.filterMap_cons_some e, List.nodup_cons]
      refine ⟨fun c => ?_, h.apart⟩
      obtain ⟨q, hq, hk⟩ := List.mem_filterMap.1 c
      have := (World.ownsRow.lt (h.own q hq) k hk).2
      have := new k e
      omega
theorem OwnAll.grew {r : Own} (h : OwnAll w base (r :: R)) (v : Value) (n : Nat) (xs : List Value) (o : w'.ownsRow base r.e r.size v n xs) (g : w.grownBy w' r.v.ownBlock) (at_ : v.ownBlock = r.v.ownBlock ∨ v.ownBlock = some w.heap.size) : OwnAll w' base (⟨v, r.e, r.size, n, xs⟩ :: R) := by
  have ne : ∀ q ∈ R, q.v.ownBlock = none ∨ q.v.ownBlock ≠ r.v.ownBlock := by
    intro q hq
    cases e : q.v.ownBlock with
    | none => exact .inl rfl
    | some k =>
      right
      intro c
      have ap := h.apart
      rw [List.filterMap_cons_some (show r.blk = some k from c.symm), List.nodup_cons] at ap
      exact ap.1 (List.mem_filterMap.2 ⟨q, hq, e⟩)
  refine ⟨fun q hq => ?_, ?_⟩
  · rcases List.mem_cons.1 hq with rfl | hq
    · exact o
    · exact (h.own q (List.mem_cons_of_mem _ hq)).kept g (ne q hq)
  · have apR : (R.filterMap Own.blk).Nodup := by
      have ap := h.apart
      cases e : r.blk with
      | none => rwa [List.filterMap_cons_none e] at ap
      | some k => rw [List.filterMap_cons_some e, List.nodup_cons] at ap; exact ap.2
    cases e : v.ownBlock with
    | none => rw [List.filterMap_cons_none (show (Own.blk ⟨v, r.e, r.size, n, xs⟩) = none from e)]; exact apR
    | some k =>
      rw [List.filterMap_cons_some (show (Own.blk ⟨v, r.e, r.size, n, xs⟩) = some k from e), List.nodup_cons]
      refine ⟨fun c => ?_, apR⟩
      obtain ⟨q, hq, hk⟩ := List.mem_filterMap.1 c
      have lt := (World.ownsRow.lt (h.own q (List.mem_cons_of_mem _ hq)) k hk).2
      rcases at_ with a | a
      · rcases ne q hq with b | b
        · exact absurd (b.symm.trans hk) (by simp)
        · exact b ((show q.v.ownBlock = some k from hk).trans (e.symm.trans a))
      · rw [e] at a
        cases a
        omega
end
def rulesO (v : Value) (l : List Rl) : Own := ⟨v, 57, 11, l.length, l.flatMap Rl.vals⟩
def erasO (v : Value) (l : List Er) : Own := ⟨v, 52, 13, l.length, l.flatMap Er.vals⟩
def linksO (v : Value) (l : List Lk) : Own := ⟨v, 59, 2, l.length, l.flatMap Lk.vals⟩
def zonesO (v : Value) (ze : List (Zn × Value)) : Own := ⟨v, 55, 2, ze.length, ze.flatMap fun p => p.1.vals p.2⟩
def SrcAt (w : World) (base : Nat) (S : Sr) (vr vz vl : Value) : Prop :=
  ∃ ze : List (Zn × Value), ze.map (·.1) = S.zones ∧ OwnAll w base (rulesO vr S.rules :: linksO vl S.links :: zonesO vz ze :: ze.map fun p => erasO p.2 p.1.eras)
theorem SrcAt.empty (w : World) (base : Nat) : SrcAt w base .none (.slice none 0 0) (.slice none 0 0) (.slice none 0 0) :=
  ⟨[], rfl, (((OwnAll.nil w base).empty _ _).empty _ _).empty _ _⟩
theorem SrcAt.grown {w w' : World} {base : Nat} {S : Sr} {vr vz vl : Value} (h : SrcAt w base S vr vz vl) (g : w.grownBy w' none) : SrcAt w' base S vr vz vl := by
  obtain ⟨ze, e, o⟩ := h
  exact ⟨ze, e, o.grown g⟩
theorem SrcAt.rule {w w' : World} {base : Nat} {S : Sr} {vr vz vl v : Value} (h : SrcAt w base S vr vz vl) (x : Rl) (o : w'.ownsRow base 57 11 v (S.rules.length + 1) (S.rules.flatMap Rl.vals ++ x.vals)) (g : w.grownBy w' vr.ownBlock) (at_ : v.ownBlock = vr.ownBlock ∨ v.ownBlock = some w.heap.size) :
    SrcAt w' base ⟨S.rules ++ [x], S.zones, S.links⟩ v vz vl := by
  obtain ⟨ze, e, a⟩ := h
  refine ⟨ze, e, ?_⟩
  have := OwnAll.grew a v (S.rules.length + 1) (S.rules.flatMap Rl.vals ++ x.vals) o g at_
  have e2 : rulesO v (S.rules ++ [x]) = ⟨v, 57, 11, S.rules.length + 1, S.rules.flatMap Rl.vals ++ x.vals⟩ := by
    unfold rulesO
    rw [List.length_append, List.flatMap_append, List.flatMap_singleton]
    rfl
  show OwnAll w' base (rulesO v (S.rules ++ [x]) :: linksO vl S.links :: zonesO vz ze :: ze.map fun p => erasO p.2 p.1.eras)
  rw [e2]
  exact this
theorem SrcAt.link {w w' : World} {base : Nat} {S : Sr} {vr vz vl v : Value} (h : SrcAt w base S vr vz vl) (x : Lk) (o : w'.ownsRow base 59 2 v (S.links.length + 1) (S.links.flatMap Lk.vals ++ x.vals)) (g : w.grownBy w' vl.ownBlock) (at_ : v.ownBlock = vl.ownBlock ∨ v.ownBlock = some w.heap.size) :
    SrcAt w' base ⟨S.rules, S.zones, S.links ++ [x]⟩ vr vz v := by
  obtain ⟨ze, e, a⟩ := h
  refine ⟨ze, e, ?_⟩
  have p := a.perm (List.Perm.swap (rulesO vr S.rules) (linksO vl S.links) _)
  have := OwnAll.grew p v (S.links.length + 1) (S.links.flatMap Lk.vals ++ x.vals) o g at_
  have e2 : linksO v (S.links ++ [x]) = ⟨v, 59, 2, S.links.length + 1, S.links.flatMap Lk.vals ++ x.vals⟩ := by
    unfold linksO
    rw [List.length_append, List.flatMap_append, List.flatMap_singleton]
    rfl
  show OwnAll w' base (rulesO vr S.rules :: linksO v (S.links ++ [x]) :: zonesO vz ze :: ze.map fun p => erasO p.2 p.1.eras)
  rw [e2]
  exact this.perm (List.Perm.swap _ _ _)
theorem perm_z {a b c : Own} {L : List Own} : (c :: a :: b :: L).Perm (a :: b :: c :: L) := (List.Perm.swap a c (b :: L)).trans ((List.Perm.swap b c L).cons a)
theorem SrcAt.zone {w w1 w2 : World} {base : Nat} {S : Sr} {vr vz vl ve v : Value} (h : SrcAt w base S vr vz vl) (nm : ByteArray) (x : Er) (g1 : w.grownBy w1 none) (oe : w1.ownsRow base 52 13 ve 1 x.vals) (new : ∀ k, ve.ownBlock = some k → w.heap.size ≤ k)
    (oz : ∀ ze : List (Zn × Value), ze.map (·.1) = S.zones → w1.ownsRow base 55 2 vz ze.length (ze.flatMap fun p => p.1.vals p.2) → w2.ownsRow base 55 2 v (ze.length + 1) ((ze.flatMap fun p => p.1.vals p.2) ++ [.string nm, ve]))
    (g2 : w1.grownBy w2 vz.ownBlock) (at_ : v.ownBlock = vz.ownBlock ∨ v.ownBlock = some w1.heap.size) : SrcAt w2 base ⟨S.rules, S.zones ++ [⟨nm, [x]⟩], S.links⟩ vr v vl := by
  obtain ⟨ze, e, a⟩ := h
  refine ⟨ze ++ [(⟨nm, [x]⟩, ve)], by rw [List.map_append, e]; rfl, ?_⟩
  have oe' : (erasO ve [x]).own w1 base := by
    unfold Own.own erasO
    rw [List.flatMap_singleton]
    exact oe
  have a1 := a.cons g1 (erasO ve [x]) oe' new
  have p1 : (zonesO vz ze :: rulesO vr S.rules :: linksO vl S.links :: erasO ve [x] :: ze.map fun p => erasO p.2 p.1.eras).Perm (erasO ve [x] :: rulesO vr S.rules :: linksO vl S.links :: zonesO vz ze :: ze.map fun p => erasO p.2 p.1.eras) :=
    perm_z.trans ((List.Perm.swap (erasO ve [x]) (zonesO vz ze) _).cons _ |>.cons _ |>.trans perm_z.symm)
  have a2 := a1.perm p1
  have a3 := OwnAll.grew a2 v (ze.length + 1) ((ze.flatMap fun p => p.1.vals p.2) ++ [.string nm, ve]) (oz ze e (a2.own _ (List.mem_cons_self ..))) g2 at_
  have e2 : zonesO v (ze ++ [(⟨nm, [x]⟩, ve)]) = ⟨v, 55, 2, ze.length + 1, (ze.flatMap fun p => p.1.vals p.2) ++ [.string nm, ve]⟩ := by
    unfold zonesO
    rw [List.length_append, List.flatMap_append, List.flatMap_singleton]
    rfl
  show OwnAll w2 base (rulesO vr S.rules :: linksO vl S.links :: zonesO v (ze ++ [(⟨nm, [x]⟩, ve)]) :: (ze ++ [((⟨nm, [x]⟩ : Zn), ve)]).map fun p => erasO p.2 p.1.eras)
  rw [e2, List.map_append]
  refine a3.perm ?_
  refine List.Perm.trans ?_ perm_z.symm
  exact ((List.perm_append_singleton _ _).cons _ |>.cons _ |>.cons _)
theorem SrcAt.last {w : World} {base : Nat} {S : Sr} {vr vz vl : Value} {Z : List Zn} {z : Zn} (h : SrcAt w base S vr vz vl) (e : S.zones = Z ++ [z]) :
    ∃ (ze : List (Zn × Value)) (v0 : Value), ze.map (·.1) = Z ∧ OwnAll w base (erasO v0 z.eras :: zonesO vz (ze ++ [(z, v0)]) :: rulesO vr S.rules :: linksO vl S.links :: ze.map fun p => erasO p.2 p.1.eras) := by
  obtain ⟨ze, e1, a⟩ := h
  rw [e] at e1
  obtain ⟨ys, y, rfl⟩ : ∃ ys y, ze = ys ++ [y] := by
    rcases List.eq_nil_or_concat ze with rfl | ⟨ys, y, h⟩
    · exact absurd (congrArg List.length e1) (by simp)
    · exact ⟨ys, y, by rw [h, List.concat_eq_append]⟩
  rw [List.map_append] at e1
  have e2 := List.append_inj' e1 rfl
  obtain ⟨y1, v0⟩ := y
  have e3 : y1 = z := by simpa using e2.2
  subst e3
  refine ⟨ys, v0, e2.1, a.perm ?_⟩
  rw [List.map_append]
  exact (perm_z.cons _).trans (List.perm_append_singleton (erasO v0 y1.eras) (rulesO vr S.rules :: linksO vl S.links :: zonesO vz (ys ++ [(y1, v0)]) :: ys.map fun p => erasO p.2 p.1.eras)).symm
theorem zcells_set (ze : List (Zn × Value)) (z z' : Zn) (v0 v' : Value) (en : z'.name = z.name) : ((ze ++ [(z, v0)]).flatMap fun p => p.1.vals p.2).set (2 * ze.length + 1) v' = (ze ++ [(z', v')]).flatMap fun p => p.1.vals p.2 := by
  have hl : (ze.flatMap fun p => p.1.vals p.2).length = 2 * ze.length := by
    induction ze with
    | nil => rfl
    | cons p r ih => rw [List.flatMap_cons, List.length_append, ih, List.length_cons]; show 2 + _ = _; omega
  rw [List.flatMap_append, List.flatMap_append, List.flatMap_singleton, List.flatMap_singleton, List.set_append_right _ _ (by omega), hl, show 2 * ze.length + 1 - 2 * ze.length = 1 by omega]
  unfold Zn.vals
  rw [en]
  rfl
theorem SrcAt.era {w w1 : World} {base : Nat} {S : Sr} {vr vl : Value} {gz n c : Nat} {Z : List Zn} {z : Zn} {ze : List (Zn × Value)} {v0 v' : Value} (e : ze.map (·.1) = Z) (x : Er)
    (a : OwnAll w base (erasO v0 z.eras :: zonesO (.slice (some ⟨gz, 0, none⟩) n c) (ze ++ [(z, v0)]) :: rulesO vr S.rules :: linksO vl S.links :: ze.map fun p => erasO p.2 p.1.eras)) (hn : n = ze.length + 1)
    (o : w1.ownsRow base 52 13 v' (z.eras.length + 1) (z.eras.flatMap Er.vals ++ x.vals)) (g1 : w.grownBy w1 v0.ownBlock) (at_ : v'.ownBlock = v0.ownBlock ∨ v'.ownBlock = some w.heap.size) :
    SrcAt (w1.setCell ⟨gz, 2 * ze.length + 1, none⟩ v') base ⟨S.rules, Z ++ [⟨z.name, z.eras ++ [x]⟩], S.links⟩ vr (.slice (some ⟨gz, 0, none⟩) n c) vl := by
  have a1 := OwnAll.grew a v' (z.eras.length + 1) (z.eras.flatMap Er.vals ++ x.vals) o g1 at_
  have e2 : erasO v' (z.eras ++ [x]) = ⟨v', 52, 13, z.eras.length + 1, z.eras.flatMap Er.vals ++ x.vals⟩ := by
    unfold erasO
    rw [List.length_append, List.flatMap_append, List.flatMap_singleton]
    rfl
  have a2 : OwnAll w1 base (erasO v' (z.eras ++ [x]) :: zonesO (.slice (some ⟨gz, 0, none⟩) n c) (ze ++ [(z, v0)]) :: rulesO vr S.rules :: linksO vl S.links :: ze.map fun p => erasO p.2 p.1.eras) := by rw [e2]; exact a1
  have a3 := a2.perm (List.Perm.swap (erasO v' (z.eras ++ [x])) (zonesO (.slice (some ⟨gz, 0, none⟩) n c) (ze ++ [(z, v0)])) _)
  have oz : w1.ownsRow base 55 2 (.slice (some ⟨gz, 0, none⟩) n c) n ((ze ++ [(z, v0)]).flatMap fun p => p.1.vals p.2) := by
    have := a3.own _ (List.mem_cons_self ..)
    unfold Own.own zonesO at this
    rw [List.length_append, List.length_singleton, ← hn] at this
    exact this
  obtain ⟨s1, s2⟩ := oz.stored (2 * ze.length + 1) v'
  rw [zcells_set ze z ⟨z.name, z.eras ++ [x]⟩ v0 v' rfl] at s1
  have a4 := OwnAll.grew a3 (.slice (some ⟨gz, 0, none⟩) n c) n _ s1 s2 (.inl rfl)
  refine ⟨ze ++ [(⟨z.name, z.eras ++ [x]⟩, v')], by rw [List.map_append, e]; rfl, ?_⟩
  have e3 : zonesO (.slice (some ⟨gz, 0, none⟩) n c) (ze ++ [(⟨z.name, z.eras ++ [x]⟩, v')]) = ⟨.slice (some ⟨gz, 0, none⟩) n c, 55, 2, n, (ze ++ [((⟨z.name, z.eras ++ [x]⟩ : Zn), v')]).flatMap fun p => p.1.vals p.2⟩ := by
    unfold zonesO
    rw [List.length_append, List.length_singleton, hn]
  rw [e3, List.map_append]
  refine a4.perm ?_
  exact (List.perm_append_singleton (erasO v' (z.eras ++ [x])) (rulesO vr S.rules :: linksO vl S.links :: _ :: ze.map fun p => erasO p.2 p.1.eras)).trans ((perm_z.symm.cons _).trans (List.Perm.swap _ _ _))
section
variable {w w' : World} {base lo hi : Nat} {S : Sr} {vr vz vl : Value}
end
end Go.Proofs.YtnkmlfbnfndfpaaGreatDoor
