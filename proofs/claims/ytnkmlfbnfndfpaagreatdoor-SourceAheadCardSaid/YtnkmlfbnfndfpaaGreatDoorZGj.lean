import Derived.Test.YtnkmlfbnfndfpaaGreatDoorZGu
import Derived.Test.YtnkmlfbnfndfpaaGreatDoorZGany
import Derived.Test.YtnkmlfbnfndfpaaGreatDoorZGq
import Derived.Deep.RegionHeld3
import Derived.Outline
import Derived.Test.YtnkmlfbnfndfpaaGreatDoorZUdig
import Derived.Test.YtnkmlfbnfndfpaaGreatDoorZUparsed
import Derived.BigQuiet
import Derived.Test.YtnkmlfbnfndfpaaGreatDoorZGc
import Derived.Test.YtnkmlfbnfndfpaaGreatDoorZHdata
import Derived.Test.YtnkmlfbnfndfpaaGreatDoorZUback
import Derived.Test.YtnkmlfbnfndfpaaGreatDoorZUright
import Derived.Test.YtnkmlfbnfndfpaaGreatDoorZGm
import Derived.Maps.AppendAt
/- The document's answer of layer 10: names' signs. -/
namespace Go.Proofs.YtnkmlfbnfndfpaaGreatDoor
open Go.RowKit
/-- letters, digits -/
def ltrB (c : Nat) : Bool := decide (97 ≤ c ∧ c ≤ 122) || decide (65 ≤ c ∧ c ≤ 90)
def dgtB (c : Nat) : Bool := decide (48 ≤ c ∧ c ≤ 57)
/-- the first k bytes are of a kind -/
def allB (p : Nat → Bool) (s : ByteArray) : Nat → Bool
  | 0 => true
  | k + 1 => allB p s k && (if h : k < s.size then p s[k].toNat else true)
theorem allB_succ {p : Nat → Bool} {s : ByteArray} {k : Nat} (h : k < s.size) : allB p s (k + 1) = (allB p s k && p s[k].toNat) := by
  show (allB p s k && (if h : k < s.size then _ else true)) = _
  rw [dif_pos h]
theorem allB_off {p : Nat → Bool} {s : ByteArray} {k : Nat} : ∀ (d : Nat), allB p s k = false → allB p s (k + d) = false := by
  intro d
  induction d with
  | zero => intro h; exact h
  | succ d ih => intro h; show (allB p s (k + d) && _) = false; rw [ih h]; rfl
/-- a byte that is not of the kind -/
theorem allB_no {p : Nat → Bool} {s : ByteArray} {k : Nat} (h : k < s.size) (e : p s[k].toNat = false) : allB p s s.size = false := by
  have h1 : allB p s (k + 1) = false := by rw [allB_succ h, e, Bool.and_false]
  have := allB_off (s.size - (k + 1)) h1
  rwa [show k + 1 + (s.size - (k + 1)) = s.size by omega] at this
theorem allB_on {p : Nat → Bool} {s : ByteArray} {k : Nat} (h : k < s.size) (a : allB p s k = true) (e : p s[k].toNat = true) : allB p s (k + 1) = true := by rw [allB_succ h, a, e]; rfl
def SameV (w : World) (v : Value) (e : Ending) (w' : World) : Prop := e = .returned v ∧ w = w'
set_option maxRecDepth 100000 in
set_option maxHeartbeats 4000000 in
theorem letterR (c : Nat) (w : World) : Calls Tryz.prog 38 #[.int .u8 c] w (SameV w (.bool (ltrB c))) := by
  by_cases h1 : 97 ≤ c
  · have d1 : decide ((97 : Int) ≤ c) = true := decide_eq_true (by omega)
    by_cases h2 : c ≤ 122
    · have d2 : decide ((c : Int) ≤ 122) = true := decide_eq_true (by omega)
      have E := Lib.hid (show ltrB c = true by unfold ltrB; rw [decide_eq_true ⟨h1, h2⟩]; rfl)
      go_enter Tryz.func38, Tryz.ntmps38
      go_wp2
      go_ret
      exact ⟨by rw [E.out]; rfl, rfl⟩
    · have d2 : decide ((c : Int) ≤ 122) = false := decide_eq_false (by omega)
      have d3 : decide ((65 : Int) ≤ c) = true := decide_eq_true (by omega)
      have d4 : decide ((c : Int) ≤ 90) = false := decide_eq_false (by omega)
      have E := Lib.hid (show ltrB c = false by unfold ltrB; rw [decide_eq_false (by omega), decide_eq_false (by omega)]; rfl)
      go_enter Tryz.func38, Tryz.ntmps38
      go_wp2
      go_ret
      exact ⟨by rw [E.out]; rfl, rfl⟩
  have d1 : decide ((97 : Int) ≤ c) = false := decide_eq_false (by omega)
  by_cases h3 : 65 ≤ c
  · have d3 : decide ((65 : Int) ≤ c) = true := decide_eq_true (by omega)
    by_cases h4 : c ≤ 90
    · have d4 : decide ((c : Int) ≤ 90) = true := decide_eq_true (by omega)
      have E := Lib.hid (show ltrB c = true by unfold ltrB; rw [decide_eq_true (p := 65 ≤ c ∧ c ≤ 90) ⟨h3, h4⟩, Bool.or_true])
      go_enter Tryz.func38, Tryz.ntmps38
      go_wp2
      go_ret
      exact ⟨by rw [E.out]; rfl, rfl⟩
    · have d4 : decide ((c : Int) ≤ 90) = false := decide_eq_false (by omega)
      have E := Lib.hid (show ltrB c = false by unfold ltrB; rw [decide_eq_false (by omega), decide_eq_false (by omega)]; rfl)
      go_enter Tryz.func38, Tryz.ntmps38
      go_wp2
      go_ret
      exact ⟨by rw [E.out]; rfl, rfl⟩
  · have d3 : decide ((65 : Int) ≤ c) = false := decide_eq_false (by omega)
    have E := Lib.hid (show ltrB c = false by unfold ltrB; rw [decide_eq_false (by omega), decide_eq_false (by omega)]; rfl)
    go_enter Tryz.func38, Tryz.ntmps38
    go_wp2
    go_ret
    exact ⟨by rw [E.out]; rfl, rfl⟩
set_option maxRecDepth 100000 in
set_option maxHeartbeats 4000000 in
theorem digitR (c : Nat) (w : World) : Calls Tryz.prog 37 #[.int .u8 c] w (SameV w (.bool (dgtB c))) := by
  by_cases h1 : 48 ≤ c
  · have d1 : decide ((48 : Int) ≤ c) = true := decide_eq_true (by omega)
    by_cases h2 : c ≤ 57
    · have d2 : decide ((c : Int) ≤ 57) = true := decide_eq_true (by omega)
      have E := Lib.hid (show dgtB c = true by unfold dgtB; rw [decide_eq_true ⟨h1, h2⟩])
      go_enter Tryz.func37, Tryz.ntmps37
      go_wp2
      go_ret
      exact ⟨by rw [E.out]; rfl, rfl⟩
    · have d2 : decide ((c : Int) ≤ 57) = false := decide_eq_false (by omega)
      have E := Lib.hid (show dgtB c = false by unfold dgtB; rw [decide_eq_false (by omega)])
      go_enter Tryz.func37, Tryz.ntmps37
      go_wp2
      go_ret
      exact ⟨by rw [E.out]; rfl, rfl⟩
  · have d1 : decide ((48 : Int) ≤ c) = false := decide_eq_false (by omega)
    have E := Lib.hid (show dgtB c = false by unfold dgtB; rw [decide_eq_false (by omega)])
    go_enter Tryz.func37, Tryz.ntmps37
    go_wp2
    go_ret
    exact ⟨by rw [E.out]; rfl, rfl⟩
end Go.Proofs.YtnkmlfbnfndfpaaGreatDoor
/- The document's answer of layer 10: sets' names, letters. -/
namespace Go.Proofs.YtnkmlfbnfndfpaaGreatDoor
open Go.RowKit
/-- letters, digits, and some signs -/
def kindB (l : List Nat) (c : Nat) : Bool := ltrB c || dgtB c || l.contains c
def setB (s : ByteArray) : Bool := if h : 0 < s.size ∧ s.size ≤ 20 then !dgtB s[0].toNat && !(s[0].toNat == 45) && allB (kindB [95, 45]) s s.size else false
set_option maxRecDepth 100000 in
set_option maxHeartbeats 8000000 in
theorem setR (s : ByteArray) (hs : s.size ≤ maxLen) (w : World) : Calls Tryz.prog 19 #[.string s] w (SameV w (.bool (setB s))) := by
  have sz : s.size ≤ 9223372036854775807 := hs
  by_cases h1 : s.size < 1
  · have E := Lib.hid (show setB s = false by unfold setB; rw [dif_neg (by omega)])
    have d1 : decide ((s.size : Int) < 1) = true := decide_eq_true (by omega)
    go_enter Tryz.func19, Tryz.ntmps19
    go_wp2
    go_ret
    exact ⟨by rw [E.out]; rfl, rfl⟩
  have d1 : decide ((s.size : Int) < 1) = false := decide_eq_false (by omega)
  by_cases h2 : 20 < s.size
  · have E := Lib.hid (show setB s = false by unfold setB; rw [dif_neg (by omega)])
    have d2 : decide (20 < (s.size : Int)) = true := decide_eq_true (by omega)
    go_enter Tryz.func19, Tryz.ntmps19
    go_wp2
    go_ret
    exact ⟨by rw [E.out]; rfl, rfl⟩
  have d2 : decide (20 < (s.size : Int)) = false := decide_eq_false (by omega)
  have E : Hid (setB s = (!dgtB s[0].toNat && !(s[0].toNat == 45) && allB (kindB [95, 45]) s s.size)) := Lib.hid (by unfold setB; rw [dif_pos ⟨by omega, by omega⟩])
  cases eb : dgtB s[0].toNat with
  | true =>
    have E2 := Lib.hid (show setB s = false by rw [E.out, eb]; rfl)
    clear E
    have DG := Lib.hid (fun W => (eb ▸ digitR s[0].toNat W : Calls Tryz.prog 37 #[.int .u8 s[0].toNat] W (SameV W (.bool true))))
    clear eb
    go_enter Tryz.func19, Tryz.ntmps19
    go_wp2_with fail
    refine (DG.out _).mono ?_
    rintro e _w ⟨rfl, rfl⟩
    clear DG
    go_wp2
    go_ret
    exact ⟨by rw [E2.out]; rfl, rfl⟩
  | false =>
    by_cases q : s[0].toNat = 45
    · have E2 := Lib.hid (show setB s = false by rw [E.out, q]; simp)
      clear E
      have DG := Lib.hid (fun W => (eb ▸ digitR s[0].toNat W : Calls Tryz.prog 37 #[.int .u8 s[0].toNat] W (SameV W (.bool false))))
      have f : ((s[0].toNat : Int) == 45) = true := by rw [beq_iff_eq]; omega
      clear eb q
      go_enter Tryz.func19, Tryz.ntmps19
      go_wp2_with fail
      refine (DG.out _).mono ?_
      rintro e _w ⟨rfl, rfl⟩
      clear DG
      go_wp2
      go_ret
      exact ⟨by rw [E2.out]; rfl, rfl⟩
    · have E2 : Hid (setB s = allB (kindB [95, 45]) s s.size) := Lib.hid (by rw [E.out, eb, show (s[0].toNat == 45) = false from beq_eq_false_iff_ne.2 q]; rfl)
      clear E
      have DG := Lib.hid (fun W => (eb ▸ digitR s[0].toNat W : Calls Tryz.prog 37 #[.int .u8 s[0].toNat] W (SameV W (.bool false))))
      have f : ((s[0].toNat : Int) == 45) = false := by rw [beq_eq_false_iff_ne]; omega
      clear eb q
      have EF := Lib.hid (fun (h : allB (kindB [95, 45]) s s.size = false) => show setB s = false by rw [E2.out, h])
      go_enter Tryz.func19, Tryz.ntmps19
      go_wp2_with fail
      refine (DG.out _).mono ?_
      rintro e _w ⟨rfl, rfl⟩
      clear DG
      go_wp2_with fail
      clear f d1 d2
      go_loop [3] (fun v => ∃ k : Nat, k ≤ s.size ∧ v = .int .i64 k ∧ allB (kindB [95, 45]) s k = true) (fun v => s.size - (intOf v).toNat)
      case atStart => exact ⟨0, by omega, rfl, rfl⟩
      case round =>
        obtain ⟨k, hk, rfl, ha⟩ := hrel
        have HA := Lib.hid ha
        clear ha
        by_cases h1 : k < s.size
        · have d1 : decide ((k : Int) < s.size) = true := decide_eq_true (by omega)
          cases ea : ltrB s[k].toNat with
          | true =>
            have HK := Lib.hid (show kindB [95, 45] s[k].toNat = true by unfold kindB; rw [ea]; rfl)
            have LT := Lib.hid (fun W => (ea ▸ letterR s[k].toNat W : Calls Tryz.prog 38 #[.int .u8 s[k].toNat] W (SameV W (.bool true))))
            clear ea
            go_wp2_with fail
            refine (LT.out _).mono ?_
            rintro e _w ⟨rfl, rfl⟩
            clear LT
            have HN := Lib.hid (allB_on h1 HA.out HK.out)
            clear HA HK
            go_wp2_with fail
            go_round
            case rel => exact ⟨k + 1, by omega, int_eqS (by omega), HN.out⟩
            case measure => simp only [intOf]; omega
          | false =>
            cases eb : dgtB s[k].toNat with
            | true =>
              have HK := Lib.hid (show kindB [95, 45] s[k].toNat = true by unfold kindB; rw [ea, eb]; rfl)
              have LT := Lib.hid (fun W => (ea ▸ letterR s[k].toNat W : Calls Tryz.prog 38 #[.int .u8 s[k].toNat] W (SameV W (.bool false))))
              have DG := Lib.hid (fun W => (eb ▸ digitR s[k].toNat W : Calls Tryz.prog 37 #[.int .u8 s[k].toNat] W (SameV W (.bool true))))
              clear ea eb
              go_wp2_with fail
              refine (LT.out _).mono ?_
              rintro e _w ⟨rfl, rfl⟩
              clear LT
              go_wp2_with fail
              refine (DG.out _).mono ?_
              rintro e _w ⟨rfl, rfl⟩
              clear DG
              have HN := Lib.hid (allB_on h1 HA.out HK.out)
              clear HA HK
              go_wp2_with fail
              go_round
              case rel => exact ⟨k + 1, by omega, int_eqS (by omega), HN.out⟩
              case measure => simp only [intOf]; omega
            | false =>
              by_cases q0 : s[k].toNat = 95
              · have HK := Lib.hid (show kindB [95, 45] s[k].toNat = true by unfold kindB; rw [ea, eb, q0]; rfl)
                have LT := Lib.hid (fun W => (ea ▸ letterR s[k].toNat W : Calls Tryz.prog 38 #[.int .u8 s[k].toNat] W (SameV W (.bool false))))
                have DG := Lib.hid (fun W => (eb ▸ digitR s[k].toNat W : Calls Tryz.prog 37 #[.int .u8 s[k].toNat] W (SameV W (.bool false))))
                have f0 : ((s[k].toNat : Int) != 95) = false := by rw [bne_eq_false_iff_eq]; omega
                clear ea eb q0
                go_wp2_with fail
                refine (LT.out _).mono ?_
                rintro e _w ⟨rfl, rfl⟩
                clear LT
                go_wp2_with fail
                refine (DG.out _).mono ?_
                rintro e _w ⟨rfl, rfl⟩
                clear DG
                have HN := Lib.hid (allB_on h1 HA.out HK.out)
                clear HA HK
                go_wp2_with fail
                go_round
                case rel => exact ⟨k + 1, by omega, int_eqS (by omega), HN.out⟩
                case measure => simp only [intOf]; omega
              · by_cases q1 : s[k].toNat = 45
                · have HK := Lib.hid (show kindB [95, 45] s[k].toNat = true by unfold kindB; rw [ea, eb, q1]; rfl)
                  have LT := Lib.hid (fun W => (ea ▸ letterR s[k].toNat W : Calls Tryz.prog 38 #[.int .u8 s[k].toNat] W (SameV W (.bool false))))
                  have DG := Lib.hid (fun W => (eb ▸ digitR s[k].toNat W : Calls Tryz.prog 37 #[.int .u8 s[k].toNat] W (SameV W (.bool false))))
                  have f0 : ((s[k].toNat : Int) != 95) = true := by rw [bne_iff_ne]; omega
                  have f1 : ((s[k].toNat : Int) != 45) = false := by rw [bne_eq_false_iff_eq]; omega
                  clear ea eb q0 q1
                  go_wp2_with fail
                  refine (LT.out _).mono ?_
                  rintro e _w ⟨rfl, rfl⟩
                  clear LT
                  go_wp2_with fail
                  refine (DG.out _).mono ?_
                  rintro e _w ⟨rfl, rfl⟩
                  clear DG
                  have HN := Lib.hid (allB_on h1 HA.out HK.out)
                  clear HA HK
                  go_wp2_with fail
                  go_round
                  case rel => exact ⟨k + 1, by omega, int_eqS (by omega), HN.out⟩
                  case measure => simp only [intOf]; omega
                · have HK := Lib.hid (show kindB [95, 45] s[k].toNat = false by unfold kindB; rw [ea, eb]; simp [q0, q1])
                  have LT := Lib.hid (fun W => (ea ▸ letterR s[k].toNat W : Calls Tryz.prog 38 #[.int .u8 s[k].toNat] W (SameV W (.bool false))))
                  have DG := Lib.hid (fun W => (eb ▸ digitR s[k].toNat W : Calls Tryz.prog 37 #[.int .u8 s[k].toNat] W (SameV W (.bool false))))
                  have f0 : ((s[k].toNat : Int) != 95) = true := by rw [bne_iff_ne]; omega
                  have f1 : ((s[k].toNat : Int) != 45) = true := by rw [bne_iff_ne]; omega
                  clear ea eb q0 q1
                  go_wp2_with fail
                  refine (LT.out _).mono ?_
                  rintro e _w ⟨rfl, rfl⟩
                  clear LT
                  go_wp2_with fail
                  refine (DG.out _).mono ?_
                  rintro e _w ⟨rfl, rfl⟩
                  clear DG
                  have HE := Lib.hid (allB_no h1 HK.out)
                  clear HA HK
                  go_wp2
                  go_ret
                  exact ⟨by rw [EF.out HE.out]; rfl, rfl⟩
        · have e : k = s.size := by omega
          subst e
          have d1 : decide ((s.size : Int) < s.size) = false := decide_eq_false (by omega)
          go_wp2
          go_ret
          exact ⟨by rw [E2.out, HA.out]; rfl, rfl⟩
def lettersB (s : ByteArray) : Bool := allB (kindB [43, 45]) s s.size && decide (1 ≤ s.size ∧ s.size ≤ 8)
end Go.Proofs.YtnkmlfbnfndfpaaGreatDoor
/- The document's answer of layer 10: faults; how many fields a line has. -/
namespace Go.Proofs.YtnkmlfbnfndfpaaGreatDoor
open Go.RowKit
/-- a fault: the error, the line, the byte -/
abbrev Flt := Int × Int × Int
def Flt.val (f : Flt) : Value := .agg #[.int .i64 f.1, .int .i64 f.2.1, .int .i64 f.2.2]
/-- the fields' cells -/
theorem Fs.at {w : World} {A : Option Addr} {n c : Nat} {l : List (ByteArray × Int)} (h : Fs w A n c l) (h0 : 0 < n) : ∃ g o, A = some ⟨g, o, none⟩ ∧ ∀ (j : Nat) (hj : j < l.length) (W : World), Below w.heap.size w W → W.cell? ⟨g, o + j * 2, none⟩ = some (.string l[j].1) ∧ W.cell? ⟨g, o + j * 2 + 1, none⟩ = some (.int .i64 l[j].2) := by
  obtain ⟨g, o, e, hg, hc⟩ := h.cells h0
  refine ⟨g, o, e, fun j hj W hb => ?_⟩
  have := hc j hj
  rw [Nat.mul_comm 2 j] at this
  exact ⟨(hb.cell (p := ⟨g, o + j * 2, none⟩) hg).trans this.1, (hb.cell (p := ⟨g, o + j * 2 + 1, none⟩) hg).trans this.2⟩
/-- how many fields a line has: a fault, or none -/
def countRes (l : List (ByteArray × Int)) (all : ByteArray) (ln : Int) (x y : Nat) : Flt := if l.length < x then (14, ln, (all.size : Int)) else if h : y < l.length then (15, ln, l[y].2) else (0, 0, 0)
end Go.Proofs.YtnkmlfbnfndfpaaGreatDoor
/- The document's answer of layer 10: digits of numbers above 0, a text or -. -/
namespace Go.Proofs.YtnkmlfbnfndfpaaGreatDoor
open Go.RowKit
end Go.Proofs.YtnkmlfbnfndfpaaGreatDoor
/- The document's answer of layer 10: formats. -/
namespace Go.Proofs.YtnkmlfbnfndfpaaGreatDoor
open Go.RowKit
/-- how many percent signs and slashes from k on, p and q ahead of it; none: it is no format -/
def fmtGo (s : ByteArray) (k p q : Nat) : Option (Nat × Nat) :=
  if h : k < s.size then
    (if s[k].toNat = 37 then (if h' : k + 1 < s.size then (if s[k + 1].toNat = 115 ∨ s[k + 1].toNat = 122 then fmtGo s (k + 1) (p + 1) q else none) else none)
    else if s[k].toNat = 47 then (if k = 0 ∨ k + 1 = s.size then none else fmtGo s (k + 1) p (q + 1))
    else if kindB [43, 45] s[k].toNat = true then fmtGo s (k + 1) p q else none) else some (p, q)
termination_by s.size - k
theorem fmt_pc {s : ByteArray} {k p q : Nat} (h : k < s.size) (e : s[k].toNat = 37) (h' : k + 1 < s.size) (z : s[k + 1].toNat = 115 ∨ s[k + 1].toNat = 122) : fmtGo s k p q = fmtGo s (k + 1) (p + 1) q := by rw [fmtGo, dif_pos h, if_pos e, dif_pos h', if_pos z]
theorem fmt_pc0 {s : ByteArray} {k p q : Nat} (h : k < s.size) (e : s[k].toNat = 37) (h' : ¬ k + 1 < s.size) : fmtGo s k p q = none := by rw [fmtGo, dif_pos h, if_pos e, dif_neg h']
theorem fmt_pc1 {s : ByteArray} {k p q : Nat} (h : k < s.size) (e : s[k].toNat = 37) (h' : k + 1 < s.size) (z : ¬ (s[k + 1].toNat = 115 ∨ s[k + 1].toNat = 122)) : fmtGo s k p q = none := by rw [fmtGo, dif_pos h, if_pos e, dif_pos h', if_neg z]
theorem fmt_sl0 {s : ByteArray} {k p q : Nat} (h : k < s.size) (n : ¬ s[k].toNat = 37) (e : s[k].toNat = 47) (z : k = 0 ∨ k + 1 = s.size) : fmtGo s k p q = none := by rw [fmtGo, dif_pos h, if_neg n, if_pos e, if_pos z]
theorem fmt_sl {s : ByteArray} {k p q : Nat} (h : k < s.size) (n : ¬ s[k].toNat = 37) (e : s[k].toNat = 47) (z : ¬ (k = 0 ∨ k + 1 = s.size)) : fmtGo s k p q = fmtGo s (k + 1) p (q + 1) := by rw [fmtGo, dif_pos h, if_neg n, if_pos e, if_neg z]
theorem fmt_on {s : ByteArray} {k p q : Nat} (h : k < s.size) (n : ¬ s[k].toNat = 37) (e : ¬ s[k].toNat = 47) (z : kindB [43, 45] s[k].toNat = true) : fmtGo s k p q = fmtGo s (k + 1) p q := by rw [fmtGo, dif_pos h, if_neg n, if_neg e, if_pos z]
theorem fmt_no {s : ByteArray} {k p q : Nat} (h : k < s.size) (n : ¬ s[k].toNat = 37) (e : ¬ s[k].toNat = 47) (z : kindB [43, 45] s[k].toNat = false) : fmtGo s k p q = none := by rw [fmtGo, dif_pos h, if_neg n, if_neg e, if_neg (by rw [z]; decide)]
theorem fmt_end {s : ByteArray} {k p q : Nat} (h : ¬ k < s.size) : fmtGo s k p q = some (p, q) := by rw [fmtGo, dif_neg h]
def formatB (s : ByteArray) : Bool := match fmtGo s 0 0 0 with | none => false | some (p, q) => decide (1 ≤ s.size) && decide (s.size ≤ 20) && decide (p + q ≤ 1)
end Go.Proofs.YtnkmlfbnfndfpaaGreatDoor
/- The document's answer of layer 10: zones' names. -/
namespace Go.Proofs.YtnkmlfbnfndfpaaGreatDoor
open Go.RowKit
/-- the parts of a zone's name from k on: how long the last one is; none: it is no name -/
def plcGo (s : ByteArray) (k p : Nat) : Option Nat :=
  if h : k < s.size then (if s[k].toNat = 47 then (if p = 0 then none else plcGo s (k + 1) 0) else if kindB [95, 43, 45] s[k].toNat = true then plcGo s (k + 1) (p + 1) else none) else some p
termination_by s.size - k
theorem plc_cut0 {s : ByteArray} {k p : Nat} (h : k < s.size) (e : s[k].toNat = 47) (z : p = 0) : plcGo s k p = none := by rw [plcGo, dif_pos h, if_pos e, if_pos z]
theorem plc_cut {s : ByteArray} {k p : Nat} (h : k < s.size) (e : s[k].toNat = 47) (z : ¬ p = 0) : plcGo s k p = plcGo s (k + 1) 0 := by rw [plcGo, dif_pos h, if_pos e, if_neg z]
theorem plc_on {s : ByteArray} {k p : Nat} (h : k < s.size) (e : ¬ s[k].toNat = 47) (z : kindB [95, 43, 45] s[k].toNat = true) : plcGo s k p = plcGo s (k + 1) (p + 1) := by rw [plcGo, dif_pos h, if_neg e, if_pos z]
theorem plc_no {s : ByteArray} {k p : Nat} (h : k < s.size) (e : ¬ s[k].toNat = 47) (z : kindB [95, 43, 45] s[k].toNat = false) : plcGo s k p = none := by rw [plcGo, dif_pos h, if_neg e, if_neg (by rw [z]; decide)]
theorem plc_end {s : ByteArray} {k p : Nat} (h : ¬ k < s.size) : plcGo s k p = some p := by rw [plcGo, dif_neg h]
def placeB (s : ByteArray) : Bool := match plcGo s 0 0 with | none => false | some p => decide (0 < p) && decide (s.size ≤ 40)
set_option maxRecDepth 100000 in
set_option maxHeartbeats 8000000 in
theorem placeR (s : ByteArray) (hs : s.size ≤ maxLen) (w : World) : Calls Tryz.prog 21 #[.string s] w (SameV w (.bool (placeB s))) := by
  have sz : s.size ≤ 9223372036854775807 := hs
  have EF := Lib.hid (fun (h : plcGo s 0 0 = none) => show placeB s = false by unfold placeB; rw [h])
  have ET := Lib.hid (fun (p : Nat) (h : plcGo s 0 0 = some p) => show placeB s = (decide (0 < p) && decide (s.size ≤ 40)) by unfold placeB; rw [h])
  go_enter Tryz.func21, Tryz.ntmps21
  go_wp2_with fail
  go_loop [3, 4] (fun v3 v4 => ∃ k p : Nat, k ≤ s.size ∧ p ≤ k ∧ v4 = .int .i64 k ∧ v3 = .int .i64 p ∧ plcGo s 0 0 = plcGo s k p) (fun _ v => s.size - (intOf v).toNat)
  case atStart => exact ⟨0, 0, by omega, by omega, rfl, rfl, rfl⟩
  case round =>
    obtain ⟨k, p, hk, hp, rfl, rfl, ha⟩ := hrel
    have HA := Lib.hid ha
    clear ha
    by_cases h1 : k < s.size
    · have d1 : decide ((k : Int) < s.size) = true := decide_eq_true (by omega)
      by_cases h2 : s[k].toNat = 47
      · have f : ((s[k].toNat : Int) == 47) = true := by rw [beq_iff_eq]; omega
        by_cases h3 : p = 0
        · have HE := Lib.hid (HA.out.trans (plc_cut0 h1 h2 h3))
          have g : ((p : Int) == 0) = true := by rw [beq_iff_eq]; omega
          clear HA h2 h3
          go_wp2
          go_ret
          exact ⟨by rw [EF.out HE.out]; rfl, rfl⟩
        · have HE := Lib.hid (HA.out.trans (plc_cut h1 h2 h3))
          have g : ((p : Int) == 0) = false := by rw [beq_eq_false_iff_ne]; omega
          clear HA h2 h3
          go_wp2_with fail
          go_round
          case rel => exact ⟨k + 1, 0, by omega, by omega, int_eqS (by omega), rfl, HE.out⟩
          case measure => simp only [intOf]; omega
      · have f : ((s[k].toNat : Int) == 47) = false := by rw [beq_eq_false_iff_ne]; omega
        have H2 := Lib.hid h2
        clear h2
        cases ea : ltrB s[k].toNat with
        | true =>
          have HK := Lib.hid (show kindB [95, 43, 45] s[k].toNat = true by unfold kindB; rw [ea]; rfl)
          have LT := Lib.hid (fun W => (ea ▸ letterR s[k].toNat W : Calls Tryz.prog 38 #[.int .u8 s[k].toNat] W (SameV W (.bool true))))
          clear ea
          go_wp2_with fail
          refine (LT.out _).mono ?_
          rintro e _w ⟨rfl, rfl⟩
          clear LT
          have HE := Lib.hid (HA.out.trans (plc_on h1 H2.out HK.out))
          clear HA HK H2
          go_wp2_with fail
          go_round
          case rel => exact ⟨k + 1, p + 1, by omega, by omega, int_eqS (by omega), int_eqS (by omega), HE.out⟩
          case measure => simp only [intOf]; omega
        | false =>
          cases eb : dgtB s[k].toNat with
          | true =>
            have HK := Lib.hid (show kindB [95, 43, 45] s[k].toNat = true by unfold kindB; rw [ea, eb]; rfl)
            have LT := Lib.hid (fun W => (ea ▸ letterR s[k].toNat W : Calls Tryz.prog 38 #[.int .u8 s[k].toNat] W (SameV W (.bool false))))
            have DG := Lib.hid (fun W => (eb ▸ digitR s[k].toNat W : Calls Tryz.prog 37 #[.int .u8 s[k].toNat] W (SameV W (.bool true))))
            clear ea eb
            go_wp2_with fail
            refine (LT.out _).mono ?_
            rintro e _w ⟨rfl, rfl⟩
            clear LT
            go_wp2_with fail
            refine (DG.out _).mono ?_
            rintro e _w ⟨rfl, rfl⟩
            clear DG
            have HE := Lib.hid (HA.out.trans (plc_on h1 H2.out HK.out))
            clear HA HK H2
            go_wp2_with fail
            go_round
            case rel => exact ⟨k + 1, p + 1, by omega, by omega, int_eqS (by omega), int_eqS (by omega), HE.out⟩
            case measure => simp only [intOf]; omega
          | false =>
            by_cases q0 : s[k].toNat = 95
            · have HK := Lib.hid (show kindB [95, 43, 45] s[k].toNat = true by unfold kindB; rw [ea, eb, q0]; rfl)
              have LT := Lib.hid (fun W => (ea ▸ letterR s[k].toNat W : Calls Tryz.prog 38 #[.int .u8 s[k].toNat] W (SameV W (.bool false))))
              have DG := Lib.hid (fun W => (eb ▸ digitR s[k].toNat W : Calls Tryz.prog 37 #[.int .u8 s[k].toNat] W (SameV W (.bool false))))
              have f0 : ((s[k].toNat : Int) != 95) = false := by rw [bne_eq_false_iff_eq]; omega
              clear ea eb q0
              go_wp2_with fail
              refine (LT.out _).mono ?_
              rintro e _w ⟨rfl, rfl⟩
              clear LT
              go_wp2_with fail
              refine (DG.out _).mono ?_
              rintro e _w ⟨rfl, rfl⟩
              clear DG
              have HE := Lib.hid (HA.out.trans (plc_on h1 H2.out HK.out))
              clear HA HK H2
              go_wp2_with fail
              go_round
              case rel => exact ⟨k + 1, p + 1, by omega, by omega, int_eqS (by omega), int_eqS (by omega), HE.out⟩
              case measure => simp only [intOf]; omega
            · by_cases q1 : s[k].toNat = 43
              · have HK := Lib.hid (show kindB [95, 43, 45] s[k].toNat = true by unfold kindB; rw [ea, eb, q1]; rfl)
                have LT := Lib.hid (fun W => (ea ▸ letterR s[k].toNat W : Calls Tryz.prog 38 #[.int .u8 s[k].toNat] W (SameV W (.bool false))))
                have DG := Lib.hid (fun W => (eb ▸ digitR s[k].toNat W : Calls Tryz.prog 37 #[.int .u8 s[k].toNat] W (SameV W (.bool false))))
                have f0 : ((s[k].toNat : Int) != 95) = true := by rw [bne_iff_ne]; omega
                have f1 : ((s[k].toNat : Int) != 43) = false := by rw [bne_eq_false_iff_eq]; omega
                clear ea eb q0 q1
                go_wp2_with fail
                refine (LT.out _).mono ?_
                rintro e _w ⟨rfl, rfl⟩
                clear LT
                go_wp2_with fail
                refine (DG.out _).mono ?_
                rintro e _w ⟨rfl, rfl⟩
                clear DG
                have HE := Lib.hid (HA.out.trans (plc_on h1 H2.out HK.out))
                clear HA HK H2
                go_wp2_with fail
                go_round
                case rel => exact ⟨k + 1, p + 1, by omega, by omega, int_eqS (by omega), int_eqS (by omega), HE.out⟩
                case measure => simp only [intOf]; omega
              · by_cases q2 : s[k].toNat = 45
                · have HK := Lib.hid (show kindB [95, 43, 45] s[k].toNat = true by unfold kindB; rw [ea, eb, q2]; rfl)
                  have LT := Lib.hid (fun W => (ea ▸ letterR s[k].toNat W : Calls Tryz.prog 38 #[.int .u8 s[k].toNat] W (SameV W (.bool false))))
                  have DG := Lib.hid (fun W => (eb ▸ digitR s[k].toNat W : Calls Tryz.prog 37 #[.int .u8 s[k].toNat] W (SameV W (.bool false))))
                  have f0 : ((s[k].toNat : Int) != 95) = true := by rw [bne_iff_ne]; omega
                  have f1 : ((s[k].toNat : Int) != 43) = true := by rw [bne_iff_ne]; omega
                  have f2 : ((s[k].toNat : Int) != 45) = false := by rw [bne_eq_false_iff_eq]; omega
                  clear ea eb q0 q1 q2
                  go_wp2_with fail
                  refine (LT.out _).mono ?_
                  rintro e _w ⟨rfl, rfl⟩
                  clear LT
                  go_wp2_with fail
                  refine (DG.out _).mono ?_
                  rintro e _w ⟨rfl, rfl⟩
                  clear DG
                  have HE := Lib.hid (HA.out.trans (plc_on h1 H2.out HK.out))
                  clear HA HK H2
                  go_wp2_with fail
                  go_round
                  case rel => exact ⟨k + 1, p + 1, by omega, by omega, int_eqS (by omega), int_eqS (by omega), HE.out⟩
                  case measure => simp only [intOf]; omega
                · have HK := Lib.hid (show kindB [95, 43, 45] s[k].toNat = false by unfold kindB; rw [ea, eb]; simp [q0, q1, q2])
                  have LT := Lib.hid (fun W => (ea ▸ letterR s[k].toNat W : Calls Tryz.prog 38 #[.int .u8 s[k].toNat] W (SameV W (.bool false))))
                  have DG := Lib.hid (fun W => (eb ▸ digitR s[k].toNat W : Calls Tryz.prog 37 #[.int .u8 s[k].toNat] W (SameV W (.bool false))))
                  have f0 : ((s[k].toNat : Int) != 95) = true := by rw [bne_iff_ne]; omega
                  have f1 : ((s[k].toNat : Int) != 43) = true := by rw [bne_iff_ne]; omega
                  have f2 : ((s[k].toNat : Int) != 45) = true := by rw [bne_iff_ne]; omega
                  clear ea eb q0 q1 q2
                  go_wp2_with fail
                  refine (LT.out _).mono ?_
                  rintro e _w ⟨rfl, rfl⟩
                  clear LT
                  go_wp2_with fail
                  refine (DG.out _).mono ?_
                  rintro e _w ⟨rfl, rfl⟩
                  clear DG
                  have HE := Lib.hid (HA.out.trans (plc_no h1 H2.out HK.out))
                  clear HA HK H2
                  go_wp2
                  go_ret
                  exact ⟨by rw [EF.out HE.out]; rfl, rfl⟩
    · have e : k = s.size := by omega
      subst e
      have HT := Lib.hid (ET.out p (HA.out.trans (plc_end (by omega))))
      clear HA
      have d1 : decide ((s.size : Int) < s.size) = false := decide_eq_false (by omega)
      by_cases h2 : 0 < p
      · have d2 : decide (0 < (p : Int)) = true := decide_eq_true (by omega)
        by_cases h3 : s.size ≤ 40
        · have d3 : decide ((s.size : Int) ≤ 40) = true := decide_eq_true (by omega)
          have HD := Lib.hid (show (decide (0 < p) && decide (s.size ≤ 40)) = true by rw [decide_eq_true h2, decide_eq_true h3]; rfl)
          go_wp2
          go_ret
          exact ⟨by rw [HT.out, HD.out]; rfl, rfl⟩
        · have d3 : decide ((s.size : Int) ≤ 40) = false := decide_eq_false (by omega)
          have HD := Lib.hid (show (decide (0 < p) && decide (s.size ≤ 40)) = false by rw [decide_eq_false h3, Bool.and_false])
          go_wp2
          go_ret
          exact ⟨by rw [HT.out, HD.out]; rfl, rfl⟩
      · have d2 : decide (0 < (p : Int)) = false := decide_eq_false (by omega)
        have HD := Lib.hid (show (decide (0 < p) && decide (s.size ≤ 40)) = false by rw [decide_eq_false h2]; rfl)
        go_wp2
        go_ret
        exact ⟨by rw [HT.out, HD.out]; rfl, rfl⟩
end Go.Proofs.YtnkmlfbnfndfpaaGreatDoor
/- The document's answer of layer 10: the spot that some fields tell. -/
namespace Go.Proofs.YtnkmlfbnfndfpaaGreatDoor
open Go.RowKit
/-- the texts of at most j fields from the f-th one on -/
def TX (l : List (ByteArray × Int)) (f : Nat) : Nat → List ByteArray
  | 0 => []
  | j + 1 => TX l f j ++ (if h : f + j < l.length then [l[f + j].1] else [])
section
variable {l : List (ByteArray × Int)} {f : Nat}
end
/-- the spot of at most three fields from the f-th one on, the fault -/
def spotRes (l : List (ByteArray × Int)) (f : Nat) (ln : Int) : Sp × Flt := if (parseRes (TX l f 3)).2.2 = 0 then ((parseRes (TX l f 3)).1, (0, 0, 0)) else (.zero, ((parseRes (TX l f 3)).2.2, ln, (l.getD (f + (parseRes (TX l f 3)).2.1.toNat) (⟨#[]⟩, 0)).2))
end Go.Proofs.YtnkmlfbnfndfpaaGreatDoor
/- The document's answer of layer 10: years, offsets and savings. -/
namespace Go.Proofs.YtnkmlfbnfndfpaaGreatDoor
open Go.RowKit
/-- a year; 0: it is none -/
def yearN (s : ByteArray) : Int := if digB s s.size = true then (if 4 < s.size then 0 else digN s s.size) else 0
/-- an offset, a saving: its seconds and the error -/
def offN (s : ByteArray) (most : Int) : Int × Int := match spanRes s with | none => (0, 6) | some n => if n ≤ -86400 ∨ 86400 ≤ n ∨ most < n ∨ n < -most then (0, 11) else (n, 0)
end Go.Proofs.YtnkmlfbnfndfpaaGreatDoor
/- Layer 10: sources of time zones as data; what reading a text answers, line by line, field by field. No program here. -/
namespace Go.Proofs.YtnkmlfbnfndfpaaGreatDoor
open Go.RowKit
theorem Rl.ext' {a b : Rl} (h1 : a.name = b.name) (h2 : a.fr = b.fr) (h3 : a.last = b.last) (h4 : a.sp = b.sp) (h5 : a.save = b.save) (h6 : a.letter = b.letter) : a = b := by
  cases a; cases b; simp_all
theorem Er.ext' {a b : Er} (h1 : a.off = b.off) (h2 : a.kind = b.kind) (h3 : a.save = b.save) (h4 : a.rules = b.rules) (h5 : a.fmt = b.fmt) (h6 : a.til = b.til) (h7 : a.year = b.year) (h8 : a.sp = b.sp) : a = b := by
  cases a; cases b; simp_all
/-- a field's text, a field's place -/
def fx (l : List (ByteArray × Int)) (j : Nat) : ByteArray := (l.getD j (⟨#[]⟩, 0)).1
def fa (l : List (ByteArray × Int)) (j : Nat) : Int := (l.getD j (⟨#[]⟩, 0)).2
/-- no fault; a fault where a test fails; the first of two faults -/
def Flt.no : Flt := (0, 0, 0)
def chk (b : Bool) (f : Flt) : Flt := if b = true then Flt.no else f
def orF (a b : Flt) : Flt := if a.1 = 0 then b else a
theorem chk_yes {b : Bool} (f : Flt) (h : b = true) : chk b f = Flt.no := if_pos h
theorem chk_no {b : Bool} (f : Flt) (h : b = false) : chk b f = f := if_neg (by rw [h]; decide)
theorem orF_no {a b : Flt} (h : a.1 = 0) : orF a b = b := if_pos h
theorem orF_yes {a b : Flt} (h : ¬ a.1 = 0) : orF a b = a := if_neg h
theorem orF_zero {a b : Flt} : (orF a b).1 = 0 ↔ a.1 = 0 ∧ b.1 = 0 := by
  unfold orF
  by_cases h : a.1 = 0
  · rw [if_pos h]; exact ⟨fun k => ⟨h, k⟩, fun k => k.2⟩
  · rw [if_neg h]; exact ⟨fun k => absurd k h, fun k => absurd k.1 h⟩
theorem chk_zero {b : Bool} {f : Flt} (hf : ¬ f.1 = 0) : (chk b f).1 = 0 ↔ b = true := by
  unfold chk
  by_cases h : b = true
  · rw [if_pos h]; exact ⟨fun _ => h, fun _ => rfl⟩
  · rw [if_neg h]; exact ⟨fun k => absurd k hf, fun k => absurd k h⟩
def dashT : ByteArray := ⟨#[45]⟩
def onlyT : ByteArray := ⟨#[111, 110, 108, 121]⟩
def maxT : ByteArray := ⟨#[109, 97, 120]⟩
/-- the last year of a rule; 0: it is none -/
def toN (t2 t3 : ByteArray) : Int := if t3 = maxT then 1000000 else if t3 = onlyT then yearN t2 else yearN t3
def ruleFlt (l : List (ByteArray × Int)) (ln : Int) : Flt :=
  orF (chk (setB (fx l 1)) (6, ln, fa l 1)) <| orF (chk (decide (¬ yearN (fx l 2) = 0)) (6, ln, fa l 2)) <| orF (chk (decide (¬ toN (fx l 2) (fx l 3) = 0)) (6, ln, fa l 3)) <|
  orF (chk (decide (fx l 4 = dashT)) (6, ln, fa l 4)) <| orF (spotRes l 5 ln).2 <| orF ((offN (fx l 8) 43200).2, ln, fa l 8) <| chk (lettersB (fx l 9)) (6, ln, fa l 9)
def ruleVal (l : List (ByteArray × Int)) (ln : Int) : Rl := ⟨fx l 1, yearN (fx l 2), toN (fx l 2) (fx l 3), (spotRes l 5 ln).1, (offN (fx l 8) 43200).1, if fx l 9 = dashT then ⟨#[]⟩ else fx l 9⟩
/-- does a text tell a set of rules? -/
def namely (s : ByteArray) : Bool := if h : 0 < s.size then ltrB s[0].toNat || s[0].toNat == 95 else false
def eraSave (r : ByteArray) (ln a : Int) : Flt := if r = dashT then Flt.no else if namely r = true then chk (setB r) (6, ln, a) else ((offN r 43200).2, ln, a)
def eraFlt (l : List (ByteArray × Int)) (i : Nat) (ln : Int) : Flt :=
  orF ((offN (fx l i) 86400).2, ln, fa l i) <| orF (eraSave (fx l (i + 1)) ln (fa l (i + 1))) <| orF (chk (formatB (fx l (i + 2))) (6, ln, fa l (i + 2))) <|
  if i + 3 < l.length then orF (chk (decide (¬ yearN (fx l (i + 3)) = 0)) (6, ln, fa l (i + 3))) (spotRes l (i + 4) ln).2 else Flt.no
def eraKind (r : ByteArray) : Int := if r = dashT then 0 else if namely r = true then 2 else 1
def eraVal (l : List (ByteArray × Int)) (i : Nat) (ln : Int) : Er :=
  ⟨(offN (fx l i) 86400).1, eraKind (fx l (i + 1)), if eraKind (fx l (i + 1)) = 1 then (offN (fx l (i + 1)) 43200).1 else 0, if eraKind (fx l (i + 1)) = 2 then fx l (i + 1) else ⟨#[]⟩, fx l (i + 2), decide (i + 3 < l.length),
    if i + 3 < l.length then yearN (fx l (i + 3)) else 0, if i + 3 < l.length then (spotRes l (i + 4) ln).1 else .zero⟩
/-- does a zone want another era? -/
def Zn.til (z : Zn) : Bool := match z.eras.getLast? with | .none => false | some x => x.til
def Sr.til (S : Sr) : Bool := match S.zones.getLast? with | .none => false | some z => z.til
def Sr.eras (S : Sr) : Nat := match S.zones.getLast? with | .none => 0 | some z => z.eras.length
def addTo (x : Er) : List Zn → List Zn
  | [] => []
  | [z] => [⟨z.name, z.eras ++ [x]⟩]
  | z :: y :: r => z :: addTo x (y :: r)
def ruleT : ByteArray := ⟨#[82, 117, 108, 101]⟩
def zoneT : ByteArray := ⟨#[90, 111, 110, 101]⟩
def linkT : ByteArray := ⟨#[76, 105, 110, 107]⟩
def lineFlt (S : Sr) (l : List (ByteArray × Int)) (all : ByteArray) (n : Int) : Flt :=
  if S.til = true then orF (chk (decide (S.eras < 40)) (12, n, fa l 0)) (orF (countRes l all n 3 7) (eraFlt l 0 n))
  else if fx l 0 = ruleT then orF (chk (decide (S.rules.length < 200)) (12, n, fa l 0)) (orF (countRes l all n 10 10) (ruleFlt l n))
  else if fx l 0 = zoneT then orF (chk (decide (S.zones.length < 50)) (12, n, fa l 0)) (orF (countRes l all n 5 9) (orF (chk (placeB (fx l 1)) (6, n, fa l 1)) (eraFlt l 2 n)))
  else if fx l 0 = linkT then orF (chk (decide (S.links.length < 100)) (12, n, fa l 0)) (orF (countRes l all n 3 3) (orF (chk (placeB (fx l 1)) (6, n, fa l 1)) (chk (placeB (fx l 2)) (6, n, fa l 2))))
  else (13, n, fa l 0)
def lineSrc (S : Sr) (l : List (ByteArray × Int)) (n : Int) : Sr :=
  if S.til = true then ⟨S.rules, addTo (eraVal l 0 n) S.zones, S.links⟩
  else if fx l 0 = ruleT then ⟨S.rules ++ [ruleVal l n], S.zones, S.links⟩
  else if fx l 0 = zoneT then ⟨S.rules, S.zones ++ [⟨fx l 1, [eraVal l 2 n]⟩], S.links⟩
  else ⟨S.rules, S.zones, S.links ++ [⟨fx l 1, fx l 2⟩]⟩
/-- what a line turns: the fault, the source -/
def lineStep (S : Sr) (t : ByteArray) (n : Int) : Flt × Sr :=
  if ¬ (splitC t).2.2 = 0 then (((splitC t).2.2, n, (splitC t).2.1), S)
  else if (splitC t).1 = [] then (Flt.no, S)
  else (lineFlt S (splitC t).1 t n, lineSrc S (splitC t).1 n)
/-- the lines from the n-th one on -/
def linesGo : List ByteArray → Int → Sr → Flt × Sr
  | [], _, S => (Flt.no, S)
  | t :: r, n, S => if (lineStep S t n).1.1 = 0 then linesGo r (n + 1) (lineStep S t n).2 else ((lineStep S t n).1, S)
def srcRes (s : ByteArray) : Sr × Flt :=
  if 100000 < s.size then (.none, (12, 0, 0))
  else if ¬ (linesGo (lnsFrom s 0 0) 1 .none).1.1 = 0 then (.none, (linesGo (lnsFrom s 0 0) 1 .none).1)
  else if (linesGo (lnsFrom s 0 0) 1 .none).2.til = true then (.none, (14, ((lnsFrom s 0 0).length : Int) + 1, 0))
  else ((linesGo (lnsFrom s 0 0) 1 .none).2, Flt.no)
/-- a rule that may be; an era; a source -/
def Rl.ok (x : Rl) : Prop := (1 ≤ x.fr ∧ x.fr ≤ 9999) ∧ (1 ≤ x.last ∧ (x.last ≤ 9999 ∨ x.last = 1000000)) ∧ x.sp.ok ∧ (-43200 ≤ x.save ∧ x.save ≤ 43200) ∧ setB x.name = true ∧ ¬ x.letter = dashT ∧ (x.letter = ⟨#[]⟩ ∨ lettersB x.letter = true)
def Er.ok (x : Er) : Prop := (-86400 < x.off ∧ x.off < 86400) ∧ (-43200 ≤ x.save ∧ x.save ≤ 43200) ∧ formatB x.fmt = true ∧ (0 ≤ x.kind ∧ x.kind ≤ 2) ∧ (x.kind ≠ 1 → x.save = 0) ∧ (x.kind ≠ 2 → x.rules = ⟨#[]⟩) ∧ (x.kind = 2 → setB x.rules = true) ∧
  (x.til = true → (1 ≤ x.year ∧ x.year ≤ 9999) ∧ x.sp.ok) ∧ (x.til = false → x.year = 0 ∧ x.sp = .zero)
/-- every era but the last one wants another -/
def tilOk : List Er → Prop
  | [] => False
  | [x] => x.til = false
  | x :: y :: r => x.til = true ∧ tilOk (y :: r)
def Zn.ok (z : Zn) : Prop := placeB z.name = true ∧ z.eras.length ≤ 40 ∧ (∀ x ∈ z.eras, x.ok) ∧ tilOk z.eras
def Lk.ok (x : Lk) : Prop := placeB x.target = true ∧ placeB x.name = true
def Sr.ok (S : Sr) : Prop := S.rules.length ≤ 200 ∧ S.zones.length ≤ 50 ∧ S.links.length ≤ 100 ∧ (∀ x ∈ S.rules, x.ok) ∧ (∀ z ∈ S.zones, z.ok) ∧ (∀ x ∈ S.links, x.ok)
def nlT : ByteArray := ⟨#[10]⟩
end Go.Proofs.YtnkmlfbnfndfpaaGreatDoor
/- Layer 10: lines of plain fields: split into the same; a text of lines: the same lines. No program here. -/
namespace Go.Proofs.YtnkmlfbnfndfpaaGreatDoor
open Go.RowKit
/-! ### bytes of plain fields -/
theorem get_app {P : UInt8 → Prop} {a b : ByteArray} (ha : ∀ (j : Nat) (h : j < a.size), P a[j]) (hb : ∀ (j : Nat) (h : j < b.size), P b[j]) : ∀ (j : Nat) (h : j < (a ++ b).size), P (a ++ b)[j] := fun j h => by
  have hz := size_app a b
  by_cases c : j < a.size
  · rw [ByteArray.getElem_append_left c]; exact ha _ _
  · rw [ByteArray.getElem_append_right (by omega)]; exact hb _ _
/-! ### a line of plain fields is split into the same -/
/-! ### the lines of a text that ends every line -/
theorem lns_run {s : ByteArray} {a : Nat} : ∀ (m k : Nat), k + m ≤ s.size → (∀ (j : Nat) (h : j < s.size), k ≤ j → j < k + m → ¬ s[j] = 10) → lnsFrom s a k = lnsFrom s a (k + m) := by
  intro m
  induction m with
  | zero => intro k _ _; rfl
  | succ m ih =>
    intro k hk h
    rw [lns_on (by omega) (h k (by omega) (Nat.le_refl _) (by omega)), ih (k + 1) (by omega) (fun j hj h1 h2 => h j hj (by omega) (by omega)), show k + 1 + m = k + (m + 1) by omega]
def no10 (t : ByteArray) : Prop := ∀ (j : Nat) (h : j < t.size), ¬ t[j] = 10
theorem lns_at {s t : ByteArray} {a : Nat} (h : AtB s a (t ++ nlT)) (n : no10 t) : lnsFrom s a a = t :: lnsFrom s (a + t.size + 1) (a + t.size + 1) := by
  have hz := at_size h
  rw [size_app, show nlT.size = 1 from rfl] at hz
  have hl := at_left h
  rw [lns_run t.size a (by omega) (at_get (P := fun c => ¬ c = 10) hl n)]
  have h10 : s[a + t.size]'(by omega) = 10 := by
    have := at_byte (at_right h) 0 (by decide) (by omega)
    exact this
  rw [lns_cut (by omega) h10, at_extract hl]
/-- lines, each with its end -/
def textB : List ByteArray → ByteArray
  | [] => ⟨#[]⟩
  | t :: r => t ++ nlT ++ textB r
theorem textB_app : ∀ a b : List ByteArray, textB (a ++ b) = textB a ++ textB b
  | [], b => (nil_append _).symm
  | t :: r, b => by show t ++ nlT ++ textB (r ++ b) = t ++ nlT ++ textB r ++ textB b; rw [textB_app r b]; simp only [ByteArray.append_assoc]
theorem lns_text : ∀ (ts : List ByteArray) (p m : ByteArray), (∀ t ∈ ts, no10 t) → lnsFrom (p ++ (textB ts ++ m)) p.size p.size = ts ++ lnsFrom (p ++ (textB ts ++ m)) (p.size + (textB ts).size) (p.size + (textB ts).size)
  | [], p, m, _ => by rw [show (textB []).size = 0 from rfl]; rfl
  | t :: r, p, m, h => by
    have e : p ++ (textB (t :: r) ++ m) = (p ++ (t ++ nlT)) ++ (textB r ++ m) := by
      show p ++ ((t ++ nlT ++ textB r) ++ m) = _
      simp only [ByteArray.append_assoc]
    have ih := lns_text r (p ++ (t ++ nlT)) m (fun u hu => h u (List.mem_cons_of_mem _ hu))
    rw [e, lns_at ⟨p, textB r ++ m, rfl, rfl⟩ (h t (by simp))]
    have z : (p ++ (t ++ nlT)).size = p.size + t.size + 1 := by rw [size_app, size_app, show nlT.size = 1 from rfl]; omega
    rw [z] at ih
    rw [ih, show (textB (t :: r)).size = t.size + 1 + (textB r).size by show (t ++ nlT ++ textB r).size = _; rw [size_app, size_app]; rfl]
    rw [List.cons_append, show p.size + t.size + 1 + (textB r).size = p.size + (t.size + 1 + (textB r).size) by omega]
theorem lns_all {ts : List ByteArray} (h : ∀ t ∈ ts, no10 t) : lnsFrom (textB ts) 0 0 = ts := by
  have := lns_text ts ⟨#[]⟩ ⟨#[]⟩ h
  rw [nil_append, append_nil', show (⟨#[]⟩ : ByteArray).size = 0 from rfl, Nat.zero_add] at this
  rw [this, lns_end (by omega), if_neg (by omega), List.append_nil]
end Go.Proofs.YtnkmlfbnfndfpaaGreatDoor
/- Layer 10: what was written is read as it was. No program here. -/
namespace Go.Proofs.YtnkmlfbnfndfpaaGreatDoor
open Go.RowKit
theorem empty_of {s : ByteArray} (h : s.size = 0) : s = ⟨#[]⟩ := by
  obtain ⟨d⟩ := s
  have : d = #[] := Array.eq_empty_of_size_eq_zero h
  rw [this]
/-! ### a rule's line -/
/-! ### an era's fields -/
end Go.Proofs.YtnkmlfbnfndfpaaGreatDoor
/- Layer 10: a source's text is read as that source. No program here. -/
namespace Go.Proofs.YtnkmlfbnfndfpaaGreatDoor
open Go.RowKit
/-! ### each line's fields are plain, few, short -/
/-! ### all lines -/
theorem go_step {t : ByteArray} {r : List ByteArray} {n : Int} {S S' : Sr} (h : lineStep S t n = (Flt.no, S')) : linesGo (t :: r) n S = linesGo r (n + 1) S' := by
  show (if (lineStep S t n).1.1 = 0 then _ else _) = _
  rw [h]
  exact if_pos rfl
theorem til_last (R : List Rl) (Z : List Zn) (z : Zn) (K : List Lk) : (⟨R, Z ++ [z], K⟩ : Sr).til = z.til ∧ (⟨R, Z ++ [z], K⟩ : Sr).eras = z.eras.length := by
  unfold Sr.til Sr.eras
  rw [List.getLast?_concat]
  exact ⟨rfl, rfl⟩
end Go.Proofs.YtnkmlfbnfndfpaaGreatDoor
/- Layer 10: what is read is right. No program here. -/
namespace Go.Proofs.YtnkmlfbnfndfpaaGreatDoor
open Go.RowKit
/-! ### a spot that is read is right -/
/-! ### rules, eras -/
/-! ### all lines -/
def chainE : List Er → Prop
  | [] => False
  | [_] => True
  | x :: y :: r => x.til = true ∧ chainE (y :: r)
theorem chain_til : ∀ es : List Er, chainE es → (⟨⟨#[]⟩, es⟩ : Zn).til = false → tilOk es
  | [], h, _ => h
  | [_], _, t => t
  | _ :: u :: r, h, t => ⟨h.1, chain_til (u :: r) h.2 t⟩
def preZ (z : Zn) : Prop := placeB z.name = true ∧ z.eras.length ≤ 40 ∧ (∀ x ∈ z.eras, x.ok) ∧ chainE z.eras
/-- what has been read so far is right, but that the last zone may want another era -/
structure preS (S : Sr) : Prop where
  n1 : S.rules.length ≤ 200
  n2 : S.zones.length ≤ 50
  n3 : S.links.length ≤ 100
  kr : ∀ x ∈ S.rules, x.ok
  kk : ∀ x ∈ S.links, x.ok
  kz : S.zones = [] ∨ ∃ Z z, S.zones = Z ++ [z] ∧ preZ z ∧ ∀ u ∈ Z, u.ok
theorem preS.ok {S : Sr} (h : preS S) (t : S.til = false) : S.ok := by
  refine ⟨h.n1, h.n2, h.n3, h.kr, ?_, h.kk⟩
  rcases h.kz with e | ⟨Z, z, e, pz, pu⟩
  · rw [e]; intro z hz; cases hz
  · intro u hu
    rw [e] at hu
    rcases List.mem_append.1 hu with hu | hu
    · exact pu u hu
    · obtain rfl := List.mem_singleton.1 hu
      have : u.til = false := by
        have a := (til_last S.rules Z u S.links).1
        rw [← e] at a
        exact a.symm.trans t
      exact ⟨pz.1, pz.2.1, pz.2.2.1, chain_til _ pz.2.2.2 this⟩
/-- with a fault there is no source -/
theorem src_none {s : ByteArray} (h : ¬ (srcRes s).2.1 = 0) : (srcRes s).1 = .none := by
  unfold srcRes at h ⊢
  (repeat' split) <;> first | rfl | skip
  rename_i c d e
  rw [if_neg c, if_neg d, if_neg e] at h
  exact absurd rfl h
end Go.Proofs.YtnkmlfbnfndfpaaGreatDoor
/- Layer 10: what is read of a short text is short when it is written. No program here. -/
namespace Go.Proofs.YtnkmlfbnfndfpaaGreatDoor
open Go.RowKit
def tot : List ByteArray → Nat
  | [] => 0
  | t :: r => t.size + 1 + tot r
end Go.Proofs.YtnkmlfbnfndfpaaGreatDoor
/- Layer 10: rows that a call has made, pairwise apart; a source in such rows. No walk here. -/
namespace Go.Proofs.YtnkmlfbnfndfpaaGreatDoor
open Go.RowKit
/-- a row: the slice value, its elements' type and size in cells, how many there are, their cells -/
structure Own where
  v : Value
  e : TypeId
  size : Nat
  n : Nat
  xs : List Value
def Own.blk (r : Own) : Option Nat := r.v.ownBlock
def Own.own (r : Own) (w : World) (base : Nat) : Prop := w.ownsRow base r.e r.size r.v r.n r.xs
/-- the rows are owned, and apart -/
structure OwnAll (w : World) (base : Nat) (R : List Own) : Prop where
  own : ∀ r ∈ R, r.own w base
  apart : (R.filterMap Own.blk).Nodup
section
variable {w w' : World} {base : Nat} {R : List Own}
theorem OwnAll.nil (w : World) (base : Nat) : OwnAll w base [] := ⟨fun _ h => (by cases h), List.nodup_nil⟩
theorem OwnAll.sub {R' : List Own} (h : OwnAll w base R) (s : R'.Sublist R) : OwnAll w base R' := ⟨fun r hr => h.own r (s.subset hr), h.apart.sublist (s.filterMap _)⟩
theorem OwnAll.perm {R' : List Own} (h : OwnAll w base R) (p : R'.Perm R) : OwnAll w base R' := ⟨fun r hr => h.own r (p.mem_iff.1 hr), ((p.filterMap _).nodup_iff).2 h.apart⟩
theorem OwnAll.grown (h : OwnAll w base R) (g : w.grownBy w' none) : OwnAll w' base R := ⟨fun r hr => (h.own r hr).kept g (by
    cases e : r.v.ownBlock with
    | none => exact .inl rfl
    | some k => exact .inr (by simp)), h.apart⟩
theorem OwnAll.drew (h : OwnAll w base R) : OwnAll w.drew base R := ⟨fun r hr => (h.own r hr).drew, h.apart⟩
theorem OwnAll.alloc (h : OwnAll w base R) (o : Obj) : OwnAll (w.alloc o) base R := h.grown (World.grownBy_alloc _ _ _)
/-- a row with nothing in it -/
theorem OwnAll.empty (h : OwnAll w base R) (e : TypeId) (size : Nat) : OwnAll w base (⟨.slice none 0 0, e, size, 0, []⟩ :: R) := by
  refine ⟨fun r hr => ?_, ?_⟩
  · rcases List.mem_cons.1 hr with rfl | hr
    · exact World.ownsRow_nil _ _ _ _
    · exact h.own r hr
  · exact h.apart
/-- a new row, of a block made since -/
theorem OwnAll.cons (h : OwnAll w base R) (g : w.grownBy w' none) (r : Own) (o : r.own w' base) (new : ∀ k, r.v.ownBlock = some k → w.heap.size ≤ k) : OwnAll w' base (r :: R) := by
  have h' := h.grown g
  refine ⟨fun q hq => ?_, ?_⟩
  · rcases List.mem_cons.1 hq with rfl | hq
    · exact o
    · exact h'.own q hq
  · cases e : r.blk with
    | none => rw [List.filterMap_cons_none e]; exact h.apart
    | some k =>
      rw [List.filterMap_cons_some e, List.nodup_cons]
      refine ⟨fun c => ?_, h.apart⟩
      obtain ⟨q, hq, hk⟩ := List.mem_filterMap.1 c
      have := (World.ownsRow.lt (h.own q hq) k hk).2
      have := new k e
      omega
/-- the first row has grown (append): it lies where it lay, or in a new block; the others are as they were -/
theorem OwnAll.grew {r : Own} (h : OwnAll w base (r :: R)) (v : Value) (n : Nat) (xs : List Value) (o : w'.ownsRow base r.e r.size v n xs) (g : w.grownBy w' r.v.ownBlock) (at_ : v.ownBlock = r.v.ownBlock ∨ v.ownBlock = some w.heap.size) : OwnAll w' base (⟨v, r.e, r.size, n, xs⟩ :: R) := by
  have ne : ∀ q ∈ R, q.v.ownBlock = none ∨ q.v.ownBlock ≠ r.v.ownBlock := by
    intro q hq
    cases e : q.v.ownBlock with
    | none => exact .inl rfl
    | some k =>
      right
      intro c
      have ap := h.apart
      rw [List.filterMap_cons_some (show r.blk = some k from c.symm), List.nodup_cons] at ap
      exact ap.1 (List.mem_filterMap.2 ⟨q, hq, e⟩)
  refine ⟨fun q hq => ?_, ?_⟩
  · rcases List.mem_cons.1 hq with rfl | hq
    · exact o
    · exact (h.own q (List.mem_cons_of_mem _ hq)).kept g (ne q hq)
  · have apR : (R.filterMap Own.blk).Nodup := by
      have ap := h.apart
      cases e : r.blk with
      | none => rwa [List.filterMap_cons_none e] at ap
      | some k => rw [List.filterMap_cons_some e, List.nodup_cons] at ap; exact ap.2
    cases e : v.ownBlock with
    | none => rw [List.filterMap_cons_none (show (Own.blk ⟨v, r.e, r.size, n, xs⟩) = none from e)]; exact apR
    | some k =>
      rw [List.filterMap_cons_some (show (Own.blk ⟨v, r.e, r.size, n, xs⟩) = some k from e), List.nodup_cons]
      refine ⟨fun c => ?_, apR⟩
      obtain ⟨q, hq, hk⟩ := List.mem_filterMap.1 c
      have lt := (World.ownsRow.lt (h.own q (List.mem_cons_of_mem _ hq)) k hk).2
      rcases at_ with a | a
      · rcases ne q hq with b | b
        · exact absurd (b.symm.trans hk) (by simp)
        · exact b ((show q.v.ownBlock = some k from hk).trans (e.symm.trans a))
      · rw [e] at a
        cases a
        omega
end
/-! ### a source -/
def rulesO (v : Value) (l : List Rl) : Own := ⟨v, 57, 11, l.length, l.flatMap Rl.vals⟩
def erasO (v : Value) (l : List Er) : Own := ⟨v, 52, 13, l.length, l.flatMap Er.vals⟩
def linksO (v : Value) (l : List Lk) : Own := ⟨v, 59, 2, l.length, l.flatMap Lk.vals⟩
/-- the zones' row; ze: each zone with the slice of its eras -/
def zonesO (v : Value) (ze : List (Zn × Value)) : Own := ⟨v, 55, 2, ze.length, ze.flatMap fun p => p.1.vals p.2⟩
/-- a source that a call has made, in rows of its own -/
def SrcAt (w : World) (base : Nat) (S : Sr) (vr vz vl : Value) : Prop :=
  ∃ ze : List (Zn × Value), ze.map (·.1) = S.zones ∧ OwnAll w base (rulesO vr S.rules :: linksO vl S.links :: zonesO vz ze :: ze.map fun p => erasO p.2 p.1.eras)
theorem SrcAt.empty (w : World) (base : Nat) : SrcAt w base .none (.slice none 0 0) (.slice none 0 0) (.slice none 0 0) :=
  ⟨[], rfl, (((OwnAll.nil w base).empty _ _).empty _ _).empty _ _⟩
theorem SrcAt.grown {w w' : World} {base : Nat} {S : Sr} {vr vz vl : Value} (h : SrcAt w base S vr vz vl) (g : w.grownBy w' none) : SrcAt w' base S vr vz vl := by
  obtain ⟨ze, e, o⟩ := h
  exact ⟨ze, e, o.grown g⟩
/-- a rule is put to it -/
theorem SrcAt.rule {w w' : World} {base : Nat} {S : Sr} {vr vz vl v : Value} (h : SrcAt w base S vr vz vl) (x : Rl) (o : w'.ownsRow base 57 11 v (S.rules.length + 1) (S.rules.flatMap Rl.vals ++ x.vals)) (g : w.grownBy w' vr.ownBlock) (at_ : v.ownBlock = vr.ownBlock ∨ v.ownBlock = some w.heap.size) :
    SrcAt w' base ⟨S.rules ++ [x], S.zones, S.links⟩ v vz vl := by
  obtain ⟨ze, e, a⟩ := h
  refine ⟨ze, e, ?_⟩
  have := OwnAll.grew a v (S.rules.length + 1) (S.rules.flatMap Rl.vals ++ x.vals) o g at_
  have e2 : rulesO v (S.rules ++ [x]) = ⟨v, 57, 11, S.rules.length + 1, S.rules.flatMap Rl.vals ++ x.vals⟩ := by
    unfold rulesO
    rw [List.length_append, List.flatMap_append, List.flatMap_singleton]
    rfl
  show OwnAll w' base (rulesO v (S.rules ++ [x]) :: linksO vl S.links :: zonesO vz ze :: ze.map fun p => erasO p.2 p.1.eras)
  rw [e2]
  exact this
/-- a link is put to it -/
theorem SrcAt.link {w w' : World} {base : Nat} {S : Sr} {vr vz vl v : Value} (h : SrcAt w base S vr vz vl) (x : Lk) (o : w'.ownsRow base 59 2 v (S.links.length + 1) (S.links.flatMap Lk.vals ++ x.vals)) (g : w.grownBy w' vl.ownBlock) (at_ : v.ownBlock = vl.ownBlock ∨ v.ownBlock = some w.heap.size) :
    SrcAt w' base ⟨S.rules, S.zones, S.links ++ [x]⟩ vr vz v := by
  obtain ⟨ze, e, a⟩ := h
  refine ⟨ze, e, ?_⟩
  have p := a.perm (List.Perm.swap (rulesO vr S.rules) (linksO vl S.links) _)
  have := OwnAll.grew p v (S.links.length + 1) (S.links.flatMap Lk.vals ++ x.vals) o g at_
  have e2 : linksO v (S.links ++ [x]) = ⟨v, 59, 2, S.links.length + 1, S.links.flatMap Lk.vals ++ x.vals⟩ := by
    unfold linksO
    rw [List.length_append, List.flatMap_append, List.flatMap_singleton]
    rfl
  show OwnAll w' base (rulesO vr S.rules :: linksO v (S.links ++ [x]) :: zonesO vz ze :: ze.map fun p => erasO p.2 p.1.eras)
  rw [e2]
  exact this.perm (List.Perm.swap _ _ _)
theorem perm_z {a b c : Own} {L : List Own} : (c :: a :: b :: L).Perm (a :: b :: c :: L) := (List.Perm.swap a c (b :: L)).trans ((List.Perm.swap b c L).cons a)
/-- a zone with one era is put to it: the era's row first, then the zones' -/
theorem SrcAt.zone {w w1 w2 : World} {base : Nat} {S : Sr} {vr vz vl ve v : Value} (h : SrcAt w base S vr vz vl) (nm : ByteArray) (x : Er) (g1 : w.grownBy w1 none) (oe : w1.ownsRow base 52 13 ve 1 x.vals) (new : ∀ k, ve.ownBlock = some k → w.heap.size ≤ k)
    (oz : ∀ ze : List (Zn × Value), ze.map (·.1) = S.zones → w1.ownsRow base 55 2 vz ze.length (ze.flatMap fun p => p.1.vals p.2) → w2.ownsRow base 55 2 v (ze.length + 1) ((ze.flatMap fun p => p.1.vals p.2) ++ [.string nm, ve]))
    (g2 : w1.grownBy w2 vz.ownBlock) (at_ : v.ownBlock = vz.ownBlock ∨ v.ownBlock = some w1.heap.size) : SrcAt w2 base ⟨S.rules, S.zones ++ [⟨nm, [x]⟩], S.links⟩ vr v vl := by
  obtain ⟨ze, e, a⟩ := h
  refine ⟨ze ++ [(⟨nm, [x]⟩, ve)], by rw [List.map_append, e]; rfl, ?_⟩
  have oe' : (erasO ve [x]).own w1 base := by
    unfold Own.own erasO
    rw [List.flatMap_singleton]
    exact oe
  have a1 := a.cons g1 (erasO ve [x]) oe' new
  have p1 : (zonesO vz ze :: rulesO vr S.rules :: linksO vl S.links :: erasO ve [x] :: ze.map fun p => erasO p.2 p.1.eras).Perm (erasO ve [x] :: rulesO vr S.rules :: linksO vl S.links :: zonesO vz ze :: ze.map fun p => erasO p.2 p.1.eras) :=
    perm_z.trans ((List.Perm.swap (erasO ve [x]) (zonesO vz ze) _).cons _ |>.cons _ |>.trans perm_z.symm)
  have a2 := a1.perm p1
  have a3 := OwnAll.grew a2 v (ze.length + 1) ((ze.flatMap fun p => p.1.vals p.2) ++ [.string nm, ve]) (oz ze e (a2.own _ (List.mem_cons_self ..))) g2 at_
  have e2 : zonesO v (ze ++ [(⟨nm, [x]⟩, ve)]) = ⟨v, 55, 2, ze.length + 1, (ze.flatMap fun p => p.1.vals p.2) ++ [.string nm, ve]⟩ := by
    unfold zonesO
    rw [List.length_append, List.flatMap_append, List.flatMap_singleton]
    rfl
  show OwnAll w2 base (rulesO vr S.rules :: linksO vl S.links :: zonesO v (ze ++ [(⟨nm, [x]⟩, ve)]) :: (ze ++ [((⟨nm, [x]⟩ : Zn), ve)]).map fun p => erasO p.2 p.1.eras)
  rw [e2, List.map_append]
  refine a3.perm ?_
  refine List.Perm.trans ?_ perm_z.symm
  exact ((List.perm_append_singleton _ _).cons _ |>.cons _ |>.cons _)
/-- the last zone's eras come first -/
theorem SrcAt.last {w : World} {base : Nat} {S : Sr} {vr vz vl : Value} {Z : List Zn} {z : Zn} (h : SrcAt w base S vr vz vl) (e : S.zones = Z ++ [z]) :
    ∃ (ze : List (Zn × Value)) (v0 : Value), ze.map (·.1) = Z ∧ OwnAll w base (erasO v0 z.eras :: zonesO vz (ze ++ [(z, v0)]) :: rulesO vr S.rules :: linksO vl S.links :: ze.map fun p => erasO p.2 p.1.eras) := by
  obtain ⟨ze, e1, a⟩ := h
  rw [e] at e1
  obtain ⟨ys, y, rfl⟩ : ∃ ys y, ze = ys ++ [y] := by
    rcases List.eq_nil_or_concat ze with rfl | ⟨ys, y, h⟩
    · exact absurd (congrArg List.length e1) (by simp)
    · exact ⟨ys, y, by rw [h, List.concat_eq_append]⟩
  rw [List.map_append] at e1
  have e2 := List.append_inj' e1 rfl
  obtain ⟨y1, v0⟩ := y
  have e3 : y1 = z := by simpa using e2.2
  subst e3
  refine ⟨ys, v0, e2.1, a.perm ?_⟩
  rw [List.map_append]
  exact (perm_z.cons _).trans (List.perm_append_singleton (erasO v0 y1.eras) (rulesO vr S.rules :: linksO vl S.links :: zonesO vz (ys ++ [(y1, v0)]) :: ys.map fun p => erasO p.2 p.1.eras)).symm
theorem zcells_set (ze : List (Zn × Value)) (z z' : Zn) (v0 v' : Value) (en : z'.name = z.name) : ((ze ++ [(z, v0)]).flatMap fun p => p.1.vals p.2).set (2 * ze.length + 1) v' = (ze ++ [(z', v')]).flatMap fun p => p.1.vals p.2 := by
  have hl : (ze.flatMap fun p => p.1.vals p.2).length = 2 * ze.length := by
    induction ze with
    | nil => rfl
    | cons p r ih => rw [List.flatMap_cons, List.length_append, ih, List.length_cons]; show 2 + _ = _; omega
  rw [List.flatMap_append, List.flatMap_append, List.flatMap_singleton, List.flatMap_singleton, List.set_append_right _ _ (by omega), hl, show 2 * ze.length + 1 - 2 * ze.length = 1 by omega]
  unfold Zn.vals
  rw [en]
  rfl
/-- an era is put to the last zone: its eras' row first (w1), then the zone's cell (w2) -/
theorem SrcAt.era {w w1 : World} {base : Nat} {S : Sr} {vr vl : Value} {gz n c : Nat} {Z : List Zn} {z : Zn} {ze : List (Zn × Value)} {v0 v' : Value} (e : ze.map (·.1) = Z) (x : Er)
    (a : OwnAll w base (erasO v0 z.eras :: zonesO (.slice (some ⟨gz, 0, none⟩) n c) (ze ++ [(z, v0)]) :: rulesO vr S.rules :: linksO vl S.links :: ze.map fun p => erasO p.2 p.1.eras)) (hn : n = ze.length + 1)
    (o : w1.ownsRow base 52 13 v' (z.eras.length + 1) (z.eras.flatMap Er.vals ++ x.vals)) (g1 : w.grownBy w1 v0.ownBlock) (at_ : v'.ownBlock = v0.ownBlock ∨ v'.ownBlock = some w.heap.size) :
    SrcAt (w1.setCell ⟨gz, 2 * ze.length + 1, none⟩ v') base ⟨S.rules, Z ++ [⟨z.name, z.eras ++ [x]⟩], S.links⟩ vr (.slice (some ⟨gz, 0, none⟩) n c) vl := by
  have a1 := OwnAll.grew a v' (z.eras.length + 1) (z.eras.flatMap Er.vals ++ x.vals) o g1 at_
  have e2 : erasO v' (z.eras ++ [x]) = ⟨v', 52, 13, z.eras.length + 1, z.eras.flatMap Er.vals ++ x.vals⟩ := by
    unfold erasO
    rw [List.length_append, List.flatMap_append, List.flatMap_singleton]
    rfl
  have a2 : OwnAll w1 base (erasO v' (z.eras ++ [x]) :: zonesO (.slice (some ⟨gz, 0, none⟩) n c) (ze ++ [(z, v0)]) :: rulesO vr S.rules :: linksO vl S.links :: ze.map fun p => erasO p.2 p.1.eras) := by rw [e2]; exact a1
  have a3 := a2.perm (List.Perm.swap (erasO v' (z.eras ++ [x])) (zonesO (.slice (some ⟨gz, 0, none⟩) n c) (ze ++ [(z, v0)])) _)
  have oz : w1.ownsRow base 55 2 (.slice (some ⟨gz, 0, none⟩) n c) n ((ze ++ [(z, v0)]).flatMap fun p => p.1.vals p.2) := by
    have := a3.own _ (List.mem_cons_self ..)
    unfold Own.own zonesO at this
    rw [List.length_append, List.length_singleton, ← hn] at this
    exact this
  obtain ⟨s1, s2⟩ := oz.stored (2 * ze.length + 1) v'
  rw [zcells_set ze z ⟨z.name, z.eras ++ [x]⟩ v0 v' rfl] at s1
  have a4 := OwnAll.grew a3 (.slice (some ⟨gz, 0, none⟩) n c) n _ s1 s2 (.inl rfl)
  refine ⟨ze ++ [(⟨z.name, z.eras ++ [x]⟩, v')], by rw [List.map_append, e]; rfl, ?_⟩
  have e3 : zonesO (.slice (some ⟨gz, 0, none⟩) n c) (ze ++ [(⟨z.name, z.eras ++ [x]⟩, v')]) = ⟨.slice (some ⟨gz, 0, none⟩) n c, 55, 2, n, (ze ++ [((⟨z.name, z.eras ++ [x]⟩ : Zn), v')]).flatMap fun p => p.1.vals p.2⟩ := by
    unfold zonesO
    rw [List.length_append, List.length_singleton, hn]
  rw [e3, List.map_append]
  refine a4.perm ?_
  exact (List.perm_append_singleton (erasO v' (z.eras ++ [x])) (rulesO vr S.rules :: linksO vl S.links :: _ :: ze.map fun p => erasO p.2 p.1.eras)).trans ((perm_z.symm.cons _).trans (List.Perm.swap _ _ _))
/-! ### a source whose rows lie ahead of lo, or from hi on: what is written between is none of it -/
def rowsOf (S : Sr) (vr vz vl : Value) (ze : List (Zn × Value)) : List Own := rulesO vr S.rules :: linksO vl S.links :: zonesO vz ze :: ze.map fun p => erasO p.2 p.1.eras
def SrcIn (w : World) (base lo hi : Nat) (S : Sr) (vr vz vl : Value) : Prop :=
  ∃ ze : List (Zn × Value), ze.map (·.1) = S.zones ∧ OwnAll w base (rowsOf S vr vz vl ze) ∧ ∀ r ∈ rowsOf S vr vz vl ze, ∀ k, r.blk = some k → k < lo ∨ hi ≤ k
section
variable {w w' : World} {base lo hi : Nat} {S : Sr} {vr vz vl : Value}
theorem SrcIn.src (h : SrcIn w base lo hi S vr vz vl) : SrcAt w base S vr vz vl := by
  obtain ⟨ze, e, o, _⟩ := h
  exact ⟨ze, e, o⟩
theorem SrcIn.grown (h : SrcIn w base lo hi S vr vz vl) (g : w.grownBy w' none) : SrcIn w' base lo hi S vr vz vl := by
  obtain ⟨ze, e, o, b⟩ := h
  exact ⟨ze, e, o.grown g, b⟩
theorem SrcIn.drew (h : SrcIn w base lo hi S vr vz vl) : SrcIn w.drew base lo hi S vr vz vl := by
  obtain ⟨ze, e, o, b⟩ := h
  exact ⟨ze, e, o.drew, b⟩
theorem SrcIn.below (h : SrcIn w base lo hi S vr vz vl) (k : Below w.heap.size w w') : SrcIn w' base lo hi S vr vz vl := h.grown ⟨k.os, k.tape, k.output, k.size, fun i hi _ => k.block i hi⟩
theorem SrcIn.store (h : SrcIn w base lo hi S vr vz vl) {b : Nat} (l : lo ≤ b) (u : b < hi) (i : Nat) (v : Value) : SrcIn (w.setCell ⟨b, i, none⟩ v) base lo hi S vr vz vl := by
  obtain ⟨ze, e, o, hb⟩ := h
  refine ⟨ze, e, ⟨fun r hr => ?_, o.apart⟩, hb⟩
  refine World.ownsRow.kept (row := some b) (o.own r hr) ⟨rfl, rfl, rfl, by simp, fun k _ hk => heap_setCell_other w ⟨b, i, none⟩ k v (fun e => hk (by simp [e]))⟩ ?_
  cases eb : r.v.ownBlock with
  | none => exact .inl rfl
  | some k =>
    right
    intro c
    cases c
    rcases hb r hr b eb with c | c <;> omega
theorem SrcIn.stores (h : SrcIn w base lo hi S vr vz vl) {b : Nat} (l : lo ≤ b) (u : b < hi) : ∀ (vs : List Value) (i : Nat), SrcIn (setAll w b i vs) base lo hi S vr vz vl := by
  intro vs
  induction vs generalizing w with
  | nil => intro i; exact h
  | cons v r ih => intro i; exact ih (h.store l u i v) (i + 1)
theorem SrcIn.rule (h : SrcIn w base lo hi S vr vz vl) {v : Value} (x : Rl) (o : w'.ownsRow base 57 11 v (S.rules.length + 1) (S.rules.flatMap Rl.vals ++ x.vals)) (g : w.grownBy w' vr.ownBlock) (at_ : v.ownBlock = vr.ownBlock ∨ v.ownBlock = some w.heap.size) (hh : hi ≤ w.heap.size) :
    SrcIn w' base lo hi ⟨S.rules ++ [x], S.zones, S.links⟩ v vz vl := by
  obtain ⟨ze, e, a, b⟩ := h
  refine ⟨ze, e, ?_, fun r hr k hk => ?_⟩
  · have := OwnAll.grew a v (S.rules.length + 1) (S.rules.flatMap Rl.vals ++ x.vals) o g at_
    have e2 : rulesO v (S.rules ++ [x]) = ⟨v, 57, 11, S.rules.length + 1, S.rules.flatMap Rl.vals ++ x.vals⟩ := by
      unfold rulesO
      rw [List.length_append, List.flatMap_append, List.flatMap_singleton]
      rfl
    show OwnAll w' base (rulesO v (S.rules ++ [x]) :: linksO vl S.links :: zonesO vz ze :: ze.map fun p => erasO p.2 p.1.eras)
    rw [e2]
    exact this
  · rcases List.mem_cons.1 hr with rfl | hr
    · have hk' : v.ownBlock = some k := hk
      rcases at_ with c | c
      · exact b _ (List.mem_cons_self ..) k (c.symm.trans hk')
      · rw [hk'] at c
        cases c
        exact .inr hh
    · exact b r (List.mem_cons_of_mem _ hr) k hk
end
end Go.Proofs.YtnkmlfbnfndfpaaGreatDoor
