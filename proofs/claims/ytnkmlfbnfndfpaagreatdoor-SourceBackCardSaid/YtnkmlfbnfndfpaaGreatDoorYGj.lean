import Derived.Test.YtnkmlfbnfndfpaaGreatDoorYGu
import Derived.Test.YtnkmlfbnfndfpaaGreatDoorYGany
import Derived.Test.YtnkmlfbnfndfpaaGreatDoorYGq
import Derived.Deep.RegionHeld3
import Derived.Outline
import Derived.Test.YtnkmlfbnfndfpaaGreatDoorYUdig
import Derived.Test.YtnkmlfbnfndfpaaGreatDoorYUparsed
import Derived.BigQuiet
import Derived.Test.YtnkmlfbnfndfpaaGreatDoorYGc
import Derived.Test.YtnkmlfbnfndfpaaGreatDoorYHdata
import Derived.Test.YtnkmlfbnfndfpaaGreatDoorYUback
import Derived.Test.YtnkmlfbnfndfpaaGreatDoorYUright
import Derived.Test.YtnkmlfbnfndfpaaGreatDoorYGm
import Derived.Maps.AppendAt
/- The document's answer of layer 10: names' signs. -/
namespace Go.Proofs.YtnkmlfbnfndfpaaGreatDoor
open Go.RowKit
/-- letters, digits -/
def ltrB (c : Nat) : Bool := decide (97 ≤ c ∧ c ≤ 122) || decide (65 ≤ c ∧ c ≤ 90)
def dgtB (c : Nat) : Bool := decide (48 ≤ c ∧ c ≤ 57)
/-- the first k bytes are of a kind -/
def allB (p : Nat → Bool) (s : ByteArray) : Nat → Bool
  | 0 => true
  | k + 1 => allB p s k && (if h : k < s.size then p s[k].toNat else true)
theorem allB_succ {p : Nat → Bool} {s : ByteArray} {k : Nat} (h : k < s.size) : allB p s (k + 1) = (allB p s k && p s[k].toNat) := by
  show (allB p s k && (if h : k < s.size then _ else true)) = _
  rw [dif_pos h]
theorem allB_off {p : Nat → Bool} {s : ByteArray} {k : Nat} : ∀ (d : Nat), allB p s k = false → allB p s (k + d) = false := by
  intro d
  induction d with
  | zero => intro h; exact h
  | succ d ih => intro h; show (allB p s (k + d) && _) = false; rw [ih h]; rfl
/-- a byte that is not of the kind -/
theorem allB_no {p : Nat → Bool} {s : ByteArray} {k : Nat} (h : k < s.size) (e : p s[k].toNat = false) : allB p s s.size = false := by
  have h1 : allB p s (k + 1) = false := by rw [allB_succ h, e, Bool.and_false]
  have := allB_off (s.size - (k + 1)) h1
  rwa [show k + 1 + (s.size - (k + 1)) = s.size by omega] at this
theorem allB_on {p : Nat → Bool} {s : ByteArray} {k : Nat} (h : k < s.size) (a : allB p s k = true) (e : p s[k].toNat = true) : allB p s (k + 1) = true := by rw [allB_succ h, a, e]; rfl
def SameV (w : World) (v : Value) (e : Ending) (w' : World) : Prop := e = .returned v ∧ w = w'
end Go.Proofs.YtnkmlfbnfndfpaaGreatDoor
/- The document's answer of layer 10: sets' names, letters. -/
namespace Go.Proofs.YtnkmlfbnfndfpaaGreatDoor
open Go.RowKit
/-- letters, digits, and some signs -/
def kindB (l : List Nat) (c : Nat) : Bool := ltrB c || dgtB c || l.contains c
def setB (s : ByteArray) : Bool := if h : 0 < s.size ∧ s.size ≤ 20 then !dgtB s[0].toNat && !(s[0].toNat == 45) && allB (kindB [95, 45]) s s.size else false
def lettersB (s : ByteArray) : Bool := allB (kindB [43, 45]) s s.size && decide (1 ≤ s.size ∧ s.size ≤ 8)
end Go.Proofs.YtnkmlfbnfndfpaaGreatDoor
/- The document's answer of layer 10: faults; how many fields a line has. -/
namespace Go.Proofs.YtnkmlfbnfndfpaaGreatDoor
open Go.RowKit
/-- a fault: the error, the line, the byte -/
abbrev Flt := Int × Int × Int
def Flt.val (f : Flt) : Value := .agg #[.int .i64 f.1, .int .i64 f.2.1, .int .i64 f.2.2]
/-- the fields' cells -/
theorem Fs.at {w : World} {A : Option Addr} {n c : Nat} {l : List (ByteArray × Int)} (h : Fs w A n c l) (h0 : 0 < n) : ∃ g o, A = some ⟨g, o, none⟩ ∧ ∀ (j : Nat) (hj : j < l.length) (W : World), Below w.heap.size w W → W.cell? ⟨g, o + j * 2, none⟩ = some (.string l[j].1) ∧ W.cell? ⟨g, o + j * 2 + 1, none⟩ = some (.int .i64 l[j].2) := by
  obtain ⟨g, o, e, hg, hc⟩ := h.cells h0
  refine ⟨g, o, e, fun j hj W hb => ?_⟩
  have := hc j hj
  rw [Nat.mul_comm 2 j] at this
  exact ⟨(hb.cell (p := ⟨g, o + j * 2, none⟩) hg).trans this.1, (hb.cell (p := ⟨g, o + j * 2 + 1, none⟩) hg).trans this.2⟩
/-- how many fields a line has: a fault, or none -/
def countRes (l : List (ByteArray × Int)) (all : ByteArray) (ln : Int) (x y : Nat) : Flt := if l.length < x then (14, ln, (all.size : Int)) else if h : y < l.length then (15, ln, l[y].2) else (0, 0, 0)
end Go.Proofs.YtnkmlfbnfndfpaaGreatDoor
/- The document's answer of layer 10: digits of numbers above 0, a text or -. -/
namespace Go.Proofs.YtnkmlfbnfndfpaaGreatDoor
open Go.RowKit
/-- a text, - for none -/
def dashB (s : ByteArray) : ByteArray := if s.size = 0 then ⟨#[45]⟩ else s
end Go.Proofs.YtnkmlfbnfndfpaaGreatDoor
/- The document's answer of layer 10: formats. -/
namespace Go.Proofs.YtnkmlfbnfndfpaaGreatDoor
open Go.RowKit
/-- how many percent signs and slashes from k on, p and q ahead of it; none: it is no format -/
def fmtGo (s : ByteArray) (k p q : Nat) : Option (Nat × Nat) :=
  if h : k < s.size then
    (if s[k].toNat = 37 then (if h' : k + 1 < s.size then (if s[k + 1].toNat = 115 ∨ s[k + 1].toNat = 122 then fmtGo s (k + 1) (p + 1) q else none) else none)
    else if s[k].toNat = 47 then (if k = 0 ∨ k + 1 = s.size then none else fmtGo s (k + 1) p (q + 1))
    else if kindB [43, 45] s[k].toNat = true then fmtGo s (k + 1) p q else none) else some (p, q)
termination_by s.size - k
theorem fmt_pc {s : ByteArray} {k p q : Nat} (h : k < s.size) (e : s[k].toNat = 37) (h' : k + 1 < s.size) (z : s[k + 1].toNat = 115 ∨ s[k + 1].toNat = 122) : fmtGo s k p q = fmtGo s (k + 1) (p + 1) q := by rw [fmtGo, dif_pos h, if_pos e, dif_pos h', if_pos z]
theorem fmt_pc0 {s : ByteArray} {k p q : Nat} (h : k < s.size) (e : s[k].toNat = 37) (h' : ¬ k + 1 < s.size) : fmtGo s k p q = none := by rw [fmtGo, dif_pos h, if_pos e, dif_neg h']
theorem fmt_pc1 {s : ByteArray} {k p q : Nat} (h : k < s.size) (e : s[k].toNat = 37) (h' : k + 1 < s.size) (z : ¬ (s[k + 1].toNat = 115 ∨ s[k + 1].toNat = 122)) : fmtGo s k p q = none := by rw [fmtGo, dif_pos h, if_pos e, dif_pos h', if_neg z]
theorem fmt_sl0 {s : ByteArray} {k p q : Nat} (h : k < s.size) (n : ¬ s[k].toNat = 37) (e : s[k].toNat = 47) (z : k = 0 ∨ k + 1 = s.size) : fmtGo s k p q = none := by rw [fmtGo, dif_pos h, if_neg n, if_pos e, if_pos z]
theorem fmt_sl {s : ByteArray} {k p q : Nat} (h : k < s.size) (n : ¬ s[k].toNat = 37) (e : s[k].toNat = 47) (z : ¬ (k = 0 ∨ k + 1 = s.size)) : fmtGo s k p q = fmtGo s (k + 1) p (q + 1) := by rw [fmtGo, dif_pos h, if_neg n, if_pos e, if_neg z]
theorem fmt_on {s : ByteArray} {k p q : Nat} (h : k < s.size) (n : ¬ s[k].toNat = 37) (e : ¬ s[k].toNat = 47) (z : kindB [43, 45] s[k].toNat = true) : fmtGo s k p q = fmtGo s (k + 1) p q := by rw [fmtGo, dif_pos h, if_neg n, if_neg e, if_pos z]
theorem fmt_no {s : ByteArray} {k p q : Nat} (h : k < s.size) (n : ¬ s[k].toNat = 37) (e : ¬ s[k].toNat = 47) (z : kindB [43, 45] s[k].toNat = false) : fmtGo s k p q = none := by rw [fmtGo, dif_pos h, if_neg n, if_neg e, if_neg (by rw [z]; decide)]
theorem fmt_end {s : ByteArray} {k p q : Nat} (h : ¬ k < s.size) : fmtGo s k p q = some (p, q) := by rw [fmtGo, dif_neg h]
def formatB (s : ByteArray) : Bool := match fmtGo s 0 0 0 with | none => false | some (p, q) => decide (1 ≤ s.size) && decide (s.size ≤ 20) && decide (p + q ≤ 1)
end Go.Proofs.YtnkmlfbnfndfpaaGreatDoor
/- The document's answer of layer 10: zones' names. -/
namespace Go.Proofs.YtnkmlfbnfndfpaaGreatDoor
open Go.RowKit
/-- the parts of a zone's name from k on: how long the last one is; none: it is no name -/
def plcGo (s : ByteArray) (k p : Nat) : Option Nat :=
  if h : k < s.size then (if s[k].toNat = 47 then (if p = 0 then none else plcGo s (k + 1) 0) else if kindB [95, 43, 45] s[k].toNat = true then plcGo s (k + 1) (p + 1) else none) else some p
termination_by s.size - k
theorem plc_cut0 {s : ByteArray} {k p : Nat} (h : k < s.size) (e : s[k].toNat = 47) (z : p = 0) : plcGo s k p = none := by rw [plcGo, dif_pos h, if_pos e, if_pos z]
theorem plc_cut {s : ByteArray} {k p : Nat} (h : k < s.size) (e : s[k].toNat = 47) (z : ¬ p = 0) : plcGo s k p = plcGo s (k + 1) 0 := by rw [plcGo, dif_pos h, if_pos e, if_neg z]
theorem plc_on {s : ByteArray} {k p : Nat} (h : k < s.size) (e : ¬ s[k].toNat = 47) (z : kindB [95, 43, 45] s[k].toNat = true) : plcGo s k p = plcGo s (k + 1) (p + 1) := by rw [plcGo, dif_pos h, if_neg e, if_pos z]
theorem plc_no {s : ByteArray} {k p : Nat} (h : k < s.size) (e : ¬ s[k].toNat = 47) (z : kindB [95, 43, 45] s[k].toNat = false) : plcGo s k p = none := by rw [plcGo, dif_pos h, if_neg e, if_neg (by rw [z]; decide)]
theorem plc_end {s : ByteArray} {k p : Nat} (h : ¬ k < s.size) : plcGo s k p = some p := by rw [plcGo, dif_neg h]
def placeB (s : ByteArray) : Bool := match plcGo s 0 0 with | none => false | some p => decide (0 < p) && decide (s.size ≤ 40)
end Go.Proofs.YtnkmlfbnfndfpaaGreatDoor
/- The document's answer of layer 10: the spot that some fields tell. -/
namespace Go.Proofs.YtnkmlfbnfndfpaaGreatDoor
open Go.RowKit
/-- the texts of at most j fields from the f-th one on -/
def TX (l : List (ByteArray × Int)) (f : Nat) : Nat → List ByteArray
  | 0 => []
  | j + 1 => TX l f j ++ (if h : f + j < l.length then [l[f + j].1] else [])
section
variable {l : List (ByteArray × Int)} {f : Nat}
theorem TX_on {j : Nat} (h : f + j < l.length) : TX l f (j + 1) = TX l f j ++ [l[f + j].1] := by
  show TX l f j ++ (if h : f + j < l.length then _ else []) = _
  rw [dif_pos h]
end
/-- the spot of at most three fields from the f-th one on, the fault -/
def spotRes (l : List (ByteArray × Int)) (f : Nat) (ln : Int) : Sp × Flt := if (parseRes (TX l f 3)).2.2 = 0 then ((parseRes (TX l f 3)).1, (0, 0, 0)) else (.zero, ((parseRes (TX l f 3)).2.2, ln, (l.getD (f + (parseRes (TX l f 3)).2.1.toNat) (⟨#[]⟩, 0)).2))
end Go.Proofs.YtnkmlfbnfndfpaaGreatDoor
/- The document's answer of layer 10: years, offsets and savings. -/
namespace Go.Proofs.YtnkmlfbnfndfpaaGreatDoor
open Go.RowKit
/-- a year; 0: it is none -/
def yearN (s : ByteArray) : Int := if digB s s.size = true then (if 4 < s.size then 0 else digN s s.size) else 0
theorem year_le (s : ByteArray) : 0 ≤ yearN s ∧ yearN s ≤ 9999 := by
  unfold yearN
  split
  · rename_i h
    split
    · omega
    · rename_i h4
      have lt2 : digN s s.size < 10000 := Nat.lt_of_lt_of_le (digN_lt s.size h) (by
        have : s.size = 0 ∨ s.size = 1 ∨ s.size = 2 ∨ s.size = 3 ∨ s.size = 4 := by omega
        rcases this with e | e | e | e | e <;> rw [e] <;> decide)
      omega
  · omega
/-- an offset, a saving: its seconds and the error -/
def offN (s : ByteArray) (most : Int) : Int × Int := match spanRes s with | none => (0, 6) | some n => if n ≤ -86400 ∨ 86400 ≤ n ∨ most < n ∨ n < -most then (0, 11) else (n, 0)
theorem off_in (s : ByteArray) (m : Int) (m0 : 0 ≤ m) : -86400 < (offN s m).1 ∧ (offN s m).1 < 86400 ∧ -m ≤ (offN s m).1 ∧ (offN s m).1 ≤ m := by
  unfold offN
  split
  · exact ⟨by decide, by decide, by show -m ≤ 0; omega, m0⟩
  · split
    · exact ⟨by decide, by decide, by show -m ≤ 0; omega, m0⟩
    · dsimp only; omega
end Go.Proofs.YtnkmlfbnfndfpaaGreatDoor
/- Layer 10: sources of time zones as data; what reading a text answers, line by line, field by field. No program here. -/
namespace Go.Proofs.YtnkmlfbnfndfpaaGreatDoor
open Go.RowKit
theorem Rl.ext' {a b : Rl} (h1 : a.name = b.name) (h2 : a.fr = b.fr) (h3 : a.last = b.last) (h4 : a.sp = b.sp) (h5 : a.save = b.save) (h6 : a.letter = b.letter) : a = b := by
  cases a; cases b; simp_all
theorem Er.ext' {a b : Er} (h1 : a.off = b.off) (h2 : a.kind = b.kind) (h3 : a.save = b.save) (h4 : a.rules = b.rules) (h5 : a.fmt = b.fmt) (h6 : a.til = b.til) (h7 : a.year = b.year) (h8 : a.sp = b.sp) : a = b := by
  cases a; cases b; simp_all
/-- a field's text, a field's place -/
def fx (l : List (ByteArray × Int)) (j : Nat) : ByteArray := (l.getD j (⟨#[]⟩, 0)).1
def fa (l : List (ByteArray × Int)) (j : Nat) : Int := (l.getD j (⟨#[]⟩, 0)).2
/-- no fault; a fault where a test fails; the first of two faults -/
def Flt.no : Flt := (0, 0, 0)
def chk (b : Bool) (f : Flt) : Flt := if b = true then Flt.no else f
def orF (a b : Flt) : Flt := if a.1 = 0 then b else a
theorem chk_yes {b : Bool} (f : Flt) (h : b = true) : chk b f = Flt.no := if_pos h
theorem chk_no {b : Bool} (f : Flt) (h : b = false) : chk b f = f := if_neg (by rw [h]; decide)
theorem orF_no {a b : Flt} (h : a.1 = 0) : orF a b = b := if_pos h
theorem orF_yes {a b : Flt} (h : ¬ a.1 = 0) : orF a b = a := if_neg h
theorem orF_zero {a b : Flt} : (orF a b).1 = 0 ↔ a.1 = 0 ∧ b.1 = 0 := by
  unfold orF
  by_cases h : a.1 = 0
  · rw [if_pos h]; exact ⟨fun k => ⟨h, k⟩, fun k => k.2⟩
  · rw [if_neg h]; exact ⟨fun k => absurd k h, fun k => absurd k.1 h⟩
theorem chk_zero {b : Bool} {f : Flt} (hf : ¬ f.1 = 0) : (chk b f).1 = 0 ↔ b = true := by
  unfold chk
  by_cases h : b = true
  · rw [if_pos h]; exact ⟨fun _ => h, fun _ => rfl⟩
  · rw [if_neg h]; exact ⟨fun k => absurd k hf, fun k => absurd k h⟩
def dashT : ByteArray := ⟨#[45]⟩
def onlyT : ByteArray := ⟨#[111, 110, 108, 121]⟩
def maxT : ByteArray := ⟨#[109, 97, 120]⟩
/-- the last year of a rule; 0: it is none -/
def toN (t2 t3 : ByteArray) : Int := if t3 = maxT then 1000000 else if t3 = onlyT then yearN t2 else yearN t3
def ruleFlt (l : List (ByteArray × Int)) (ln : Int) : Flt :=
  orF (chk (setB (fx l 1)) (6, ln, fa l 1)) <| orF (chk (decide (¬ yearN (fx l 2) = 0)) (6, ln, fa l 2)) <| orF (chk (decide (¬ toN (fx l 2) (fx l 3) = 0)) (6, ln, fa l 3)) <|
  orF (chk (decide (fx l 4 = dashT)) (6, ln, fa l 4)) <| orF (spotRes l 5 ln).2 <| orF ((offN (fx l 8) 43200).2, ln, fa l 8) <| chk (lettersB (fx l 9)) (6, ln, fa l 9)
def ruleVal (l : List (ByteArray × Int)) (ln : Int) : Rl := ⟨fx l 1, yearN (fx l 2), toN (fx l 2) (fx l 3), (spotRes l 5 ln).1, (offN (fx l 8) 43200).1, if fx l 9 = dashT then ⟨#[]⟩ else fx l 9⟩
/-- does a text tell a set of rules? -/
def namely (s : ByteArray) : Bool := if h : 0 < s.size then ltrB s[0].toNat || s[0].toNat == 95 else false
def eraSave (r : ByteArray) (ln a : Int) : Flt := if r = dashT then Flt.no else if namely r = true then chk (setB r) (6, ln, a) else ((offN r 43200).2, ln, a)
def eraFlt (l : List (ByteArray × Int)) (i : Nat) (ln : Int) : Flt :=
  orF ((offN (fx l i) 86400).2, ln, fa l i) <| orF (eraSave (fx l (i + 1)) ln (fa l (i + 1))) <| orF (chk (formatB (fx l (i + 2))) (6, ln, fa l (i + 2))) <|
  if i + 3 < l.length then orF (chk (decide (¬ yearN (fx l (i + 3)) = 0)) (6, ln, fa l (i + 3))) (spotRes l (i + 4) ln).2 else Flt.no
def eraKind (r : ByteArray) : Int := if r = dashT then 0 else if namely r = true then 2 else 1
def eraVal (l : List (ByteArray × Int)) (i : Nat) (ln : Int) : Er :=
  ⟨(offN (fx l i) 86400).1, eraKind (fx l (i + 1)), if eraKind (fx l (i + 1)) = 1 then (offN (fx l (i + 1)) 43200).1 else 0, if eraKind (fx l (i + 1)) = 2 then fx l (i + 1) else ⟨#[]⟩, fx l (i + 2), decide (i + 3 < l.length),
    if i + 3 < l.length then yearN (fx l (i + 3)) else 0, if i + 3 < l.length then (spotRes l (i + 4) ln).1 else .zero⟩
/-- does a zone want another era? -/
def Zn.til (z : Zn) : Bool := match z.eras.getLast? with | .none => false | some x => x.til
def Sr.til (S : Sr) : Bool := match S.zones.getLast? with | .none => false | some z => z.til
def Sr.eras (S : Sr) : Nat := match S.zones.getLast? with | .none => 0 | some z => z.eras.length
def addTo (x : Er) : List Zn → List Zn
  | [] => []
  | [z] => [⟨z.name, z.eras ++ [x]⟩]
  | z :: y :: r => z :: addTo x (y :: r)
def ruleT : ByteArray := ⟨#[82, 117, 108, 101]⟩
def zoneT : ByteArray := ⟨#[90, 111, 110, 101]⟩
def linkT : ByteArray := ⟨#[76, 105, 110, 107]⟩
def lineFlt (S : Sr) (l : List (ByteArray × Int)) (all : ByteArray) (n : Int) : Flt :=
  if S.til = true then orF (chk (decide (S.eras < 40)) (12, n, fa l 0)) (orF (countRes l all n 3 7) (eraFlt l 0 n))
  else if fx l 0 = ruleT then orF (chk (decide (S.rules.length < 200)) (12, n, fa l 0)) (orF (countRes l all n 10 10) (ruleFlt l n))
  else if fx l 0 = zoneT then orF (chk (decide (S.zones.length < 50)) (12, n, fa l 0)) (orF (countRes l all n 5 9) (orF (chk (placeB (fx l 1)) (6, n, fa l 1)) (eraFlt l 2 n)))
  else if fx l 0 = linkT then orF (chk (decide (S.links.length < 100)) (12, n, fa l 0)) (orF (countRes l all n 3 3) (orF (chk (placeB (fx l 1)) (6, n, fa l 1)) (chk (placeB (fx l 2)) (6, n, fa l 2))))
  else (13, n, fa l 0)
def lineSrc (S : Sr) (l : List (ByteArray × Int)) (n : Int) : Sr :=
  if S.til = true then ⟨S.rules, addTo (eraVal l 0 n) S.zones, S.links⟩
  else if fx l 0 = ruleT then ⟨S.rules ++ [ruleVal l n], S.zones, S.links⟩
  else if fx l 0 = zoneT then ⟨S.rules, S.zones ++ [⟨fx l 1, [eraVal l 2 n]⟩], S.links⟩
  else ⟨S.rules, S.zones, S.links ++ [⟨fx l 1, fx l 2⟩]⟩
/-- what a line turns: the fault, the source -/
def lineStep (S : Sr) (t : ByteArray) (n : Int) : Flt × Sr :=
  if ¬ (splitC t).2.2 = 0 then (((splitC t).2.2, n, (splitC t).2.1), S)
  else if (splitC t).1 = [] then (Flt.no, S)
  else (lineFlt S (splitC t).1 t n, lineSrc S (splitC t).1 n)
/-- the lines from the n-th one on -/
def linesGo : List ByteArray → Int → Sr → Flt × Sr
  | [], _, S => (Flt.no, S)
  | t :: r, n, S => if (lineStep S t n).1.1 = 0 then linesGo r (n + 1) (lineStep S t n).2 else ((lineStep S t n).1, S)
def srcRes (s : ByteArray) : Sr × Flt :=
  if 100000 < s.size then (.none, (12, 0, 0))
  else if ¬ (linesGo (lnsFrom s 0 0) 1 .none).1.1 = 0 then (.none, (linesGo (lnsFrom s 0 0) 1 .none).1)
  else if (linesGo (lnsFrom s 0 0) 1 .none).2.til = true then (.none, (14, ((lnsFrom s 0 0).length : Int) + 1, 0))
  else ((linesGo (lnsFrom s 0 0) 1 .none).2, Flt.no)
/-- a rule that may be; an era; a source -/
def Rl.ok (x : Rl) : Prop := (1 ≤ x.fr ∧ x.fr ≤ 9999) ∧ (1 ≤ x.last ∧ (x.last ≤ 9999 ∨ x.last = 1000000)) ∧ x.sp.ok ∧ (-43200 ≤ x.save ∧ x.save ≤ 43200) ∧ setB x.name = true ∧ ¬ x.letter = dashT ∧ (x.letter = ⟨#[]⟩ ∨ lettersB x.letter = true)
def Er.ok (x : Er) : Prop := (-86400 < x.off ∧ x.off < 86400) ∧ (-43200 ≤ x.save ∧ x.save ≤ 43200) ∧ formatB x.fmt = true ∧ (0 ≤ x.kind ∧ x.kind ≤ 2) ∧ (x.kind ≠ 1 → x.save = 0) ∧ (x.kind ≠ 2 → x.rules = ⟨#[]⟩) ∧ (x.kind = 2 → setB x.rules = true) ∧
  (x.til = true → (1 ≤ x.year ∧ x.year ≤ 9999) ∧ x.sp.ok) ∧ (x.til = false → x.year = 0 ∧ x.sp = .zero)
/-- every era but the last one wants another -/
def tilOk : List Er → Prop
  | [] => False
  | [x] => x.til = false
  | x :: y :: r => x.til = true ∧ tilOk (y :: r)
def Zn.ok (z : Zn) : Prop := placeB z.name = true ∧ z.eras.length ≤ 40 ∧ (∀ x ∈ z.eras, x.ok) ∧ tilOk z.eras
def Lk.ok (x : Lk) : Prop := placeB x.target = true ∧ placeB x.name = true
def Sr.ok (S : Sr) : Prop := S.rules.length ≤ 200 ∧ S.zones.length ≤ 50 ∧ S.links.length ≤ 100 ∧ (∀ x ∈ S.rules, x.ok) ∧ (∀ z ∈ S.zones, z.ok) ∧ (∀ x ∈ S.links, x.ok)
/-- fields with one blank between two -/
def spc : List ByteArray → ByteArray
  | [] => ⟨#[]⟩
  | [a] => a
  | a :: b :: r => a ++ ⟨#[32]⟩ ++ spc (b :: r)
def yearT (n : Int) : ByteArray := decB n.toNat
def untilT (x : Rl) : ByteArray := if x.last = x.fr then onlyT else if x.last = 1000000 then maxT else yearT x.last
def ruleTexts (x : Rl) : List ByteArray := [ruleT, x.name, yearT x.fr, untilT x, dashT] ++ spTexts x.sp ++ [timeB x.save, dashB x.letter]
def saveT (x : Er) : ByteArray := if x.kind = 1 then timeB x.save else dashB x.rules
def eraTexts (x : Er) : List ByteArray := [timeB x.off, saveT x, x.fmt] ++ if x.til = true then yearT x.year :: spTexts x.sp else []
def linkTexts (x : Lk) : List ByteArray := [linkT, x.target, x.name]
def zoneLines (z : Zn) : List (List ByteArray) := match z.eras with
  | [] => [[zoneT, z.name]]
  | x :: r => ([zoneT, z.name] ++ eraTexts x) :: r.map eraTexts
/-- a source's lines, as fields -/
def srcLines (S : Sr) : List (List ByteArray) := S.rules.map ruleTexts ++ S.zones.flatMap zoneLines ++ S.links.map linkTexts
def nlT : ByteArray := ⟨#[10]⟩
def textOf : List (List ByteArray) → ByteArray
  | [] => ⟨#[]⟩
  | l :: r => spc l ++ nlT ++ textOf r
def srcText (S : Sr) : ByteArray := textOf (srcLines S)
end Go.Proofs.YtnkmlfbnfndfpaaGreatDoor
/- Layer 10: lines of plain fields: split into the same; a text of lines: the same lines. No program here. -/
namespace Go.Proofs.YtnkmlfbnfndfpaaGreatDoor
open Go.RowKit
/-! ### bytes of plain fields -/
def bareL (s : ByteArray) : Prop := ∀ (j : Nat) (h : j < s.size), bareB s[j].toNat = true
theorem bareL_nil : bareL ⟨#[]⟩ := fun j h => absurd h (Nat.not_lt_zero j)
theorem get_app {P : UInt8 → Prop} {a b : ByteArray} (ha : ∀ (j : Nat) (h : j < a.size), P a[j]) (hb : ∀ (j : Nat) (h : j < b.size), P b[j]) : ∀ (j : Nat) (h : j < (a ++ b).size), P (a ++ b)[j] := fun j h => by
  have hz := size_app a b
  by_cases c : j < a.size
  · rw [ByteArray.getElem_append_left c]; exact ha _ _
  · rw [ByteArray.getElem_append_right (by omega)]; exact hb _ _
theorem bareL_app {a b : ByteArray} (ha : bareL a) (hb : bareL b) : bareL (a ++ b) := get_app (P := fun c => bareB c.toNat = true) ha hb
theorem bareL_list {l : List UInt8} (h : ∀ c ∈ l, bareB c.toNat = true) : bareL ⟨l.toArray⟩ := fun j hj => by
  have hj' : j < l.length := hj
  exact h l[j] (List.getElem_mem hj')
theorem plain_of {s : ByteArray} (h0 : 0 < s.size) (h : bareL s) : plainT s = true := by
  have : ∀ k, k ≤ s.size → barePre s k = true := by
    intro k
    induction k with
    | zero => intro _; exact decide_eq_true h0
    | succ k ih => intro hk; rw [bare_succ (by omega), ih (by omega), h k (by omega)]; rfl
  exact this _ (Nat.le_refl _)
theorem bare_ten {s : ByteArray} (h : bareL s) (j : Nat) (hj : j < s.size) : ¬ s[j] = 10 := fun e => by
  have := h j hj
  rw [e] at this
  exact absurd this (by decide)
theorem allB_get {p : Nat → Bool} {s : ByteArray} (h : allB p s s.size = true) (j : Nat) (hj : j < s.size) : p s[j].toNat = true := by
  apply Classical.byContradiction
  intro c
  rw [allB_no hj (by simpa using c)] at h
  cases h
theorem kind_bare {l : List Nat} (hl : ∀ x ∈ l, bareB x = true) {c : Nat} (h : kindB l c = true) : bareB c = true := by
  unfold kindB ltrB dgtB at h
  simp only [Bool.or_eq_true, decide_eq_true_eq, List.contains_iff_mem] at h
  rcases h with ((h | h) | h) | h
  · unfold bareB; simp; omega
  · unfold bareB; simp; omega
  · unfold bareB; simp; omega
  · exact hl c h
theorem set_bare {s : ByteArray} (h : setB s = true) : 0 < s.size ∧ s.size ≤ 20 ∧ bareL s := by
  unfold setB at h
  split at h
  · rename_i z
    simp only [Bool.and_eq_true] at h
    exact ⟨z.1, z.2, fun j hj => kind_bare (l := [95, 45]) (by decide) (allB_get h.2 j hj)⟩
  · cases h
theorem letters_bare {s : ByteArray} (h : lettersB s = true) : 0 < s.size ∧ s.size ≤ 8 ∧ bareL s := by
  unfold lettersB at h
  simp only [Bool.and_eq_true, decide_eq_true_eq] at h
  exact ⟨by omega, h.2.2, fun j hj => kind_bare (l := [43, 45]) (by decide) (allB_get h.1 j hj)⟩
theorem plc_bare {s : ByteArray} : ∀ (d k p q : Nat), s.size - k ≤ d → plcGo s k p = some q → ∀ (j : Nat) (hj : j < s.size), k ≤ j → bareB s[j].toNat = true := by
  intro d
  induction d with
  | zero => intro k p q hd _ j hj hk; omega
  | succ d ih =>
    intro k p q hd h j hj hk
    by_cases hk' : k < s.size
    case neg => omega
    by_cases e : s[k].toNat = 47
    · by_cases z : p = 0
      · rw [plc_cut0 hk' e z] at h; cases h
      · rw [plc_cut hk' e z] at h
        by_cases c : j = k
        · subst c; rw [e]; decide
        · exact ih (k + 1) _ q (by omega) h j hj (by omega)
    · by_cases z : kindB [95, 43, 45] s[k].toNat = true
      · rw [plc_on hk' e z] at h
        by_cases c : j = k
        · subst c; exact kind_bare (by decide) z
        · exact ih (k + 1) _ q (by omega) h j hj (by omega)
      · rw [plc_no hk' e (by simpa using z)] at h; cases h
theorem place_bare {s : ByteArray} (h : placeB s = true) : 0 < s.size ∧ s.size ≤ 40 ∧ bareL s := by
  unfold placeB at h
  split at h
  · cases h
  · rename_i p e
    simp only [Bool.and_eq_true, decide_eq_true_eq] at h
    refine ⟨?_, h.2, fun j hj => plc_bare s.size 0 0 p (by omega) e j hj (by omega)⟩
    apply Classical.byContradiction
    intro c
    rw [plc_end (by omega)] at e
    cases e
    exact absurd h.1 (by decide)
theorem fmt_bare {s : ByteArray} : ∀ (d k p q : Nat) (r : Nat × Nat), s.size - k ≤ d → fmtGo s k p q = some r → ∀ (j : Nat) (hj : j < s.size), k ≤ j → bareB s[j].toNat = true := by
  intro d
  induction d with
  | zero => intro k p q r hd _ j hj hk; omega
  | succ d ih =>
    intro k p q r hd h j hj hk
    by_cases hk' : k < s.size
    case neg => omega
    by_cases e : s[k].toNat = 37
    · by_cases h' : k + 1 < s.size
      · by_cases z : s[k + 1].toNat = 115 ∨ s[k + 1].toNat = 122
        · rw [fmt_pc hk' e h' z] at h
          by_cases c : j = k
          · subst c; rw [e]; decide
          · exact ih (k + 1) _ _ r (by omega) h j hj (by omega)
        · rw [fmt_pc1 hk' e h' z] at h; cases h
      · rw [fmt_pc0 hk' e h'] at h; cases h
    by_cases e' : s[k].toNat = 47
    · by_cases z : k = 0 ∨ k + 1 = s.size
      · rw [fmt_sl0 hk' e e' z] at h; cases h
      · rw [fmt_sl hk' e e' z] at h
        by_cases c : j = k
        · subst c; rw [e']; decide
        · exact ih (k + 1) _ _ r (by omega) h j hj (by omega)
    · by_cases z : kindB [43, 45] s[k].toNat = true
      · rw [fmt_on hk' e e' z] at h
        by_cases c : j = k
        · subst c; exact kind_bare (by decide) z
        · exact ih (k + 1) _ _ r (by omega) h j hj (by omega)
      · rw [fmt_no hk' e e' (by simpa using z)] at h; cases h
theorem format_bare {s : ByteArray} (h : formatB s = true) : 0 < s.size ∧ s.size ≤ 20 ∧ bareL s := by
  unfold formatB at h
  split at h
  · cases h
  · rename_i p q e
    simp only [Bool.and_eq_true, decide_eq_true_eq] at h
    exact ⟨h.1.1, h.1.2, fun j hj => fmt_bare s.size 0 0 0 _ (by omega) e j hj (by omega)⟩
theorem digits_bare (n : Nat) : bareL (decB n) ∧ 0 < (decB n).size := by
  refine ⟨bareL_list fun c hc => ?_, ?_⟩
  · have := dec_digit n c hc
    unfold bareB; simp; omega
  · rw [decB_size]
    exact List.length_pos_iff.2 (dec_ne n)
theorem tw_bare (n : Nat) : bareL (twB n) := by
  unfold twB
  split
  · exact bareL_app (bareL_list (by decide)) (digits_bare n).1
  · exact (digits_bare n).1
theorem time_bare (n : Int) : bareL (timeB n) ∧ 0 < (timeB n).size := by
  have sg : bareL (if n < 0 then ⟨[45].toArray⟩ else ⟨[].toArray⟩) := by
    split
    · exact bareL_list (by decide)
    · exact bareL_nil
  have co : bareL ⟨[58].toArray⟩ := bareL_list (by decide)
  have d0 := (digits_bare (n.natAbs / 3600)).2
  unfold timeB
  split
  · exact ⟨bareL_app (bareL_app (bareL_app sg (digits_bare _).1) co) (tw_bare _), by simp only [size_app]; omega⟩
  · exact ⟨bareL_app (bareL_app (bareL_app (bareL_app (bareL_app sg (digits_bare _).1) co) (tw_bare _)) co) (tw_bare _), by simp only [size_app]; omega⟩
theorem mon_bare : ∀ k, k < 12 → bareL (mon3.getD k ⟨#[]⟩) ∧ (mon3.getD k ⟨#[]⟩).size = 3 := by
  have : ∀ k, k < 12 → (∀ c ∈ (mon3.getD k ⟨#[]⟩).data.toList, bareB c.toNat = true) ∧ (mon3.getD k ⟨#[]⟩).size = 3 := by decide
  intro k hk
  refine ⟨fun j hj => (this k hk).1 _ (by rw [ByteArray.getElem_eq_getElem_data]; exact Array.mem_toList_iff.2 (Array.getElem_mem _)), (this k hk).2⟩
theorem wd_bare : ∀ k, k < 8 → bareL (wd3.getD k ⟨#[]⟩) := by
  have : ∀ k, k < 8 → (∀ c ∈ (wd3.getD k ⟨#[]⟩).data.toList, bareB c.toNat = true) := by decide
  intro k hk j hj
  exact this k hk _ (by rw [ByteArray.getElem_eq_getElem_data]; exact Array.mem_toList_iff.2 (Array.getElem_mem _))
theorem spot_bare {x : Sp} (h : x.ok) : ∀ t ∈ spTexts x, bareL t ∧ 0 < t.size ∧ t.size ≤ 27 := by
  obtain ⟨hmo, hki, hti, hre, h1, h2, h3, h4⟩ := h
  have t1 := time_bare x.ti
  have t2 := timeB_le x.ti (by omega) (by omega)
  have d1 := digits_bare x.da.toNat
  have w1 := wd_bare x.wd.toNat (by omega)
  have w2 := wd3_size x.wd.toNat (by omega)
  have dd : (decB x.da.toNat).size ≤ 19 := decB_le (by
    by_cases k : x.ki = 1
    · have := h3 k; omega
    · have := h4 k; omega)
  intro t ht
  unfold spTexts at ht
  simp only [List.mem_cons, List.not_mem_nil, or_false] at ht
  rcases ht with rfl | rfl | rfl
  · have m := mon_bare (x.mo - 1).toNat (by omega)
    exact ⟨m.1, by omega, by omega⟩
  · unfold spDay
    split
    · exact ⟨d1.1, d1.2, by omega⟩
    split
    · refine ⟨bareL_app (bareL_list (l := [108, 97, 115, 116]) (by decide)) w1, ?_, ?_⟩
      · rw [size_app, show (⟨#[108, 97, 115, 116]⟩ : ByteArray).size = 4 from rfl]; omega
      · rw [size_app, show (⟨#[108, 97, 115, 116]⟩ : ByteArray).size = 4 from rfl]; omega
    split
    · refine ⟨bareL_app (bareL_app w1 (bareL_list (l := [62, 61]) (by decide))) d1.1, ?_, ?_⟩
      · rw [size_app]; omega
      · rw [size_app, size_app, show (⟨#[62, 61]⟩ : ByteArray).size = 2 from rfl]; omega
    · refine ⟨bareL_app (bareL_app w1 (bareL_list (l := [60, 61]) (by decide))) d1.1, ?_, ?_⟩
      · rw [size_app]; omega
      · rw [size_app, size_app, show (⟨#[60, 61]⟩ : ByteArray).size = 2 from rfl]; omega
  · unfold spClk
    split
    · exact ⟨t1.1, t1.2, by omega⟩
    split
    · refine ⟨bareL_app t1.1 (bareL_list (l := [115]) (by decide)), ?_, ?_⟩
      · rw [size_app]; omega
      · rw [size_app, show (⟨#[115]⟩ : ByteArray).size = 1 from rfl]; omega
    · refine ⟨bareL_app t1.1 (bareL_list (l := [117]) (by decide)), ?_, ?_⟩
      · rw [size_app]; omega
      · rw [size_app, show (⟨#[117]⟩ : ByteArray).size = 1 from rfl]; omega
/-! ### a line of plain fields is split into the same -/
theorem spc_snoc (x : ByteArray) : ∀ a : List ByteArray, a ≠ [] → spc (a ++ [x]) = spc a ++ ⟨#[32]⟩ ++ x
  | [], h => absurd rfl h
  | [b], _ => rfl
  | b :: c :: r, _ => by
    show b ++ ⟨#[32]⟩ ++ spc ((c :: r) ++ [x]) = _
    rw [spc_snoc x (c :: r) (by simp)]
    show _ = (b ++ ⟨#[32]⟩ ++ spc (c :: r)) ++ ⟨#[32]⟩ ++ x
    simp only [ByteArray.append_assoc]
theorem join_spc {l : List ByteArray} (h : ∀ t ∈ l, plainT t = true) : ∀ i, i ≤ l.length → joinGo l i = spc (l.take i)
  | 0, _ => by rw [List.take_zero]; rfl
  | i + 1, hi => by
    have hi' : i < l.length := by omega
    rw [join_succ hi', if_pos (h _ (List.getElem_mem hi')), join_spc h i (by omega), List.take_add_one, List.getElem?_eq_getElem hi']
    show _ = spc (l.take i ++ [l[i]])
    by_cases h0 : 0 < i
    · rw [if_pos h0, spc_snoc]
      intro c
      have := congrArg List.length c
      rw [List.length_take, List.length_nil] at this
      omega
    · obtain rfl : i = 0 := by omega
      rw [if_neg h0, List.take_zero]
      exact nil_append _
theorem plain_ok {t : ByteArray} (h : plainT t = true) : okText t := fun j hj _ => by
  have := (plain_pre t.size (Nat.le_refl _) h).2 j hj hj
  unfold bareB at this
  unfold okB
  simp at this ⊢
  omega
theorem split_spc {l : List ByteArray} (h : ∀ t ∈ l, plainT t = true) (n : l.length ≤ 16) (z : (spc l).size ≤ 500) : ∃ r, splitRes (spc l) = (r, 0, 0) ∧ r.map (·.1) = l := by
  apply back
  have e := join_spc h l.length (Nat.le_refl _)
  rw [List.take_length] at e
  unfold joinRes
  rw [if_pos (show allOk l from fun i hi => plain_ok (h _ (List.getElem_mem hi))), e, if_neg (by omega)]
theorem spc_size : ∀ (l : List ByteArray) (k : Nat), (∀ t ∈ l, t.size ≤ k) → (spc l).size ≤ (k + 1) * l.length
  | [], _, _ => Nat.le_refl _
  | [a], k, h => by have := h a (by simp); show a.size ≤ _; simp; omega
  | a :: b :: r, k, h => by
    have h1 := h a (by simp)
    have h2 := spc_size (b :: r) k (fun t ht => h t (List.mem_cons_of_mem _ ht))
    show (a ++ ⟨#[32]⟩ ++ spc (b :: r)).size ≤ _
    rw [size_app, size_app, show (⟨#[32]⟩ : ByteArray).size = 1 from rfl]
    rw [List.length_cons, Nat.mul_succ]
    omega
theorem spc_ten : ∀ (l : List ByteArray), (∀ t ∈ l, bareL t) → ∀ (j : Nat) (hj : j < (spc l).size), ¬ (spc l)[j] = 10
  | [], _, j, hj => absurd hj (Nat.not_lt_zero j)
  | [a], h, j, hj => bare_ten (h a (by simp)) j hj
  | a :: b :: r, h, j, hj => get_app (P := fun c => ¬ c = 10) (get_app (P := fun c => ¬ c = 10) (bare_ten (h a (by simp))) (fun j hj => by
      obtain rfl : j = 0 := by have : j < 1 := hj; omega
      show ¬ (32 : UInt8) = 10
      decide)) (spc_ten (b :: r) (fun t ht => h t (List.mem_cons_of_mem _ ht))) j hj
/-! ### the lines of a text that ends every line -/
theorem lns_run {s : ByteArray} {a : Nat} : ∀ (m k : Nat), k + m ≤ s.size → (∀ (j : Nat) (h : j < s.size), k ≤ j → j < k + m → ¬ s[j] = 10) → lnsFrom s a k = lnsFrom s a (k + m) := by
  intro m
  induction m with
  | zero => intro k _ _; rfl
  | succ m ih =>
    intro k hk h
    rw [lns_on (by omega) (h k (by omega) (Nat.le_refl _) (by omega)), ih (k + 1) (by omega) (fun j hj h1 h2 => h j hj (by omega) (by omega)), show k + 1 + m = k + (m + 1) by omega]
def no10 (t : ByteArray) : Prop := ∀ (j : Nat) (h : j < t.size), ¬ t[j] = 10
theorem lns_at {s t : ByteArray} {a : Nat} (h : AtB s a (t ++ nlT)) (n : no10 t) : lnsFrom s a a = t :: lnsFrom s (a + t.size + 1) (a + t.size + 1) := by
  have hz := at_size h
  rw [size_app, show nlT.size = 1 from rfl] at hz
  have hl := at_left h
  rw [lns_run t.size a (by omega) (at_get (P := fun c => ¬ c = 10) hl n)]
  have h10 : s[a + t.size]'(by omega) = 10 := by
    have := at_byte (at_right h) 0 (by decide) (by omega)
    exact this
  rw [lns_cut (by omega) h10, at_extract hl]
/-- lines, each with its end -/
def textB : List ByteArray → ByteArray
  | [] => ⟨#[]⟩
  | t :: r => t ++ nlT ++ textB r
theorem text_is : ∀ L : List (List ByteArray), textOf L = textB (L.map spc)
  | [] => rfl
  | l :: r => by show spc l ++ nlT ++ textOf r = _; rw [text_is r]; rfl
theorem lns_text : ∀ (ts : List ByteArray) (p m : ByteArray), (∀ t ∈ ts, no10 t) → lnsFrom (p ++ (textB ts ++ m)) p.size p.size = ts ++ lnsFrom (p ++ (textB ts ++ m)) (p.size + (textB ts).size) (p.size + (textB ts).size)
  | [], p, m, _ => by rw [show (textB []).size = 0 from rfl]; rfl
  | t :: r, p, m, h => by
    have e : p ++ (textB (t :: r) ++ m) = (p ++ (t ++ nlT)) ++ (textB r ++ m) := by
      show p ++ ((t ++ nlT ++ textB r) ++ m) = _
      simp only [ByteArray.append_assoc]
    have ih := lns_text r (p ++ (t ++ nlT)) m (fun u hu => h u (List.mem_cons_of_mem _ hu))
    rw [e, lns_at ⟨p, textB r ++ m, rfl, rfl⟩ (h t (by simp))]
    have z : (p ++ (t ++ nlT)).size = p.size + t.size + 1 := by rw [size_app, size_app, show nlT.size = 1 from rfl]; omega
    rw [z] at ih
    rw [ih, show (textB (t :: r)).size = t.size + 1 + (textB r).size by show (t ++ nlT ++ textB r).size = _; rw [size_app, size_app]; rfl]
    rw [List.cons_append, show p.size + t.size + 1 + (textB r).size = p.size + (t.size + 1 + (textB r).size) by omega]
theorem lns_all {ts : List ByteArray} (h : ∀ t ∈ ts, no10 t) : lnsFrom (textB ts) 0 0 = ts := by
  have := lns_text ts ⟨#[]⟩ ⟨#[]⟩ h
  rw [nil_append, append_nil', show (⟨#[]⟩ : ByteArray).size = 0 from rfl, Nat.zero_add] at this
  rw [this, lns_end (by omega), if_neg (by omega), List.append_nil]
end Go.Proofs.YtnkmlfbnfndfpaaGreatDoor
/- Layer 10: what was written is read as it was. No program here. -/
namespace Go.Proofs.YtnkmlfbnfndfpaaGreatDoor
open Go.RowKit
theorem fx_map {r : List (ByteArray × Int)} {l : List ByteArray} (h : r.map (·.1) = l) (j : Nat) : fx r j = l.getD j ⟨#[]⟩ := by
  subst h
  unfold fx
  rw [List.getD_eq_getElem?_getD, List.getD_eq_getElem?_getD, List.getElem?_map]
  cases r[j]? <;> rfl
theorem fx_at {r : List (ByteArray × Int)} {j : Nat} (h : j < r.length) : fx r j = r[j].1 := by
  unfold fx
  rw [List.getD_eq_getElem?_getD, List.getElem?_eq_getElem h]
  rfl
theorem TX3 {r : List (ByteArray × Int)} {f : Nat} (h : f + 3 ≤ r.length) : TX r f 3 = [fx r f, fx r (f + 1), fx r (f + 2)] := by
  rw [TX_on (by omega), TX_on (by omega), TX_on (by omega), fx_at (by omega), fx_at (by omega), fx_at (by omega)]
  rfl
theorem spot_back {x : Sp} (k : x.ok) {r : List (ByteArray × Int)} {f : Nat} (h : f + 3 ≤ r.length) (e : [fx r f, fx r (f + 1), fx r (f + 2)] = spTexts x) (n : Int) : spotRes r f n = (x, Flt.no) := by
  unfold spotRes
  rw [TX3 h, e, parse_print x k]
  exact if_pos rfl
theorem digN_list (l : List UInt8) : ∀ k, k ≤ l.length → digN ⟨l.toArray⟩ k = accD 0 (l.take k) := by
  intro k
  induction k with
  | zero => intro _; rfl
  | succ k ih =>
    intro hk
    have hk' : k < l.length := by omega
    rw [digN_succ (s := ⟨l.toArray⟩) (show k < l.length from hk'), ih (by omega), List.take_add_one, List.getElem?_eq_getElem hk']
    show _ = accD 0 (l.take k ++ [l[k]])
    rw [accD_snoc]
    rfl
theorem digB_list (l : List UInt8) (h : ∀ c ∈ l, 48 ≤ c.toNat ∧ c.toNat ≤ 57) : ∀ k, k ≤ l.length → digB ⟨l.toArray⟩ k = true := by
  intro k
  induction k with
  | zero => intro _; rfl
  | succ k ih =>
    intro hk
    have hk' : k < l.length := by omega
    rw [digB_succ (s := ⟨l.toArray⟩) (show k < l.length from hk'), ih (by omega), Bool.true_and]
    exact decide_eq_true (h l[k] (List.getElem_mem hk'))
theorem year_back {n : Nat} (h : n ≤ 9999) : yearN (decB n) = n := by
  have z : (dec n).length ≤ 4 := dec_len (k := 3) (by omega)
  have hs : (decB n).size = (dec n).length := rfl
  unfold yearN
  rw [if_pos (by rw [hs]; exact digB_list _ (dec_digit n) _ (Nat.le_refl _)), if_neg (by rw [hs]; omega), hs]
  show ((digN ⟨(dec n).toArray⟩ (dec n).length : Nat) : Int) = n
  rw [digN_list _ _ (Nat.le_refl _), List.take_length, accD_dec]
theorem dig_ne {n : Nat} {c : UInt8} {l : List UInt8} (hc : 57 < c.toNat) : ¬ decB n = ⟨(c :: l).toArray⟩ := fun e => by
  have e2 : dec n = c :: l := by
    have := congrArg (fun b : ByteArray => b.data.toList) e
    simpa [decB] using this
  have := dec_digit n c (by rw [e2]; simp)
  omega
theorem off_back {n m : Int} (h1 : -m ≤ n) (h2 : n ≤ m) (h3 : -86400 < n) (h4 : n < 86400) : offN (timeB n) m = (n, 0) := by
  unfold offN
  rw [(span_time (n := n) (by omega) (by omega)).1]
  exact if_neg (by omega)
theorem count_no {l : List (ByteArray × Int)} {all : ByteArray} {n : Int} {x y : Nat} (h1 : x ≤ l.length) (h2 : l.length ≤ y) : countRes l all n x y = Flt.no := by
  unfold countRes
  rw [if_neg (by omega), dif_neg (by omega)]
  rfl
theorem empty_of {s : ByteArray} (h : s.size = 0) : s = ⟨#[]⟩ := by
  obtain ⟨d⟩ := s
  have : d = #[] := Array.eq_empty_of_size_eq_zero h
  rw [this]
theorem dash_of {s : ByteArray} (h : 0 < s.size) : dashB s = s := by unfold dashB; rw [if_neg (by omega)]
theorem time_first (n : Int) : ∃ c l, timeB n = ⟨(c :: l).toArray⟩ ∧ (c = 45 ∨ 48 ≤ c.toNat ∧ c.toNat ≤ 57) := by
  rw [timeB_is]
  by_cases h : n < 0
  · rw [if_pos h]; exact ⟨45, _, rfl, .inl rfl⟩
  · rw [if_neg h, List.nil_append]
    unfold bodyL
    obtain ⟨c, l, e⟩ := List.exists_cons_of_ne_nil (dec_ne (n.natAbs / 3600))
    rw [e]
    exact ⟨c, _, rfl, .inr (dec_digit (n.natAbs / 3600) c (by rw [e]; simp))⟩
theorem time_dash {n : Int} (h1 : -604799 ≤ n) (h2 : n ≤ 604799) : ¬ timeB n = dashT := by
  obtain ⟨_, _, _, _, _, h⟩ := span_time h1 h2
  exact h
theorem namely_time (n : Int) : namely (timeB n) = false := by
  obtain ⟨c, l, e, h⟩ := time_first n
  rw [e]
  have hz : 0 < (⟨(c :: l).toArray⟩ : ByteArray).size := Nat.succ_pos _
  unfold namely
  rw [dif_pos hz]
  show (ltrB c.toNat || c.toNat == 95) = false
  unfold ltrB
  rcases h with rfl | h
  · decide
  · simp only [Bool.or_eq_false_iff, decide_eq_false_iff_not, beq_eq_false_iff_ne]
    omega
theorem set_first {s : ByteArray} (h : setB s = true) : namely s = true ∧ ¬ s = dashT := by
  unfold setB at h
  split at h
  · rename_i z
    simp only [Bool.and_eq_true, Bool.not_eq_true', beq_eq_false_iff_ne] at h
    obtain ⟨⟨h1, h2⟩, h3⟩ := h
    have h4 := allB_get h3 0 z.1
    refine ⟨?_, fun e => ?_⟩
    · unfold namely
      rw [dif_pos z.1]
      unfold kindB at h4
      simp only [Bool.or_eq_true, List.contains_iff_mem, List.mem_cons, List.not_mem_nil, or_false] at h4
      rcases h4 with (h4 | h4) | h4 | h4
      · rw [h4]; rfl
      · rw [h4] at h1; cases h1
      · rw [h4]; simp
      · exact absurd h4 h2
    · subst e
      exact h2 rfl
  · cases h
theorem letter_dash : lettersB dashT = true := by decide
/-! ### a rule's line -/
theorem until_back {x : Rl} (k : x.ok) : toN (yearT x.fr) (untilT x) = x.last := by
  obtain ⟨⟨f1, f2⟩, ⟨l1, l2⟩, _⟩ := k
  have yb : yearN (yearT x.fr) = x.fr := by
    have := year_back (n := x.fr.toNat) (by omega)
    unfold yearT
    omega
  unfold toN untilT
  by_cases e : x.last = x.fr
  · rw [if_pos e, if_neg (by decide), if_pos rfl, yb, e]
  rw [if_neg e]
  by_cases m : x.last = 1000000
  · rw [if_pos m, if_pos rfl, m]
  · rw [if_neg m]
    unfold yearT
    rw [if_neg (show ¬ decB x.last.toNat = maxT from dig_ne (c := 109) (l := [97, 120]) (by decide)), if_neg (show ¬ decB x.last.toNat = onlyT from dig_ne (c := 111) (l := [110, 108, 121]) (by decide))]
    have := year_back (n := x.last.toNat) (by omega)
    omega
theorem rule_back {x : Rl} (k : x.ok) {r : List (ByteArray × Int)} (h : r.map (·.1) = ruleTexts x) (n : Int) : ruleFlt r n = Flt.no ∧ ruleVal r n = x := by
  have hl : r.length = 10 := by
    have := congrArg List.length h
    rw [List.length_map] at this
    exact this
  have f := fun j => fx_map h j
  have f1 : fx r 1 = x.name := f 1
  have f2 : fx r 2 = yearT x.fr := f 2
  have f3 : fx r 3 = untilT x := f 3
  have f4 : fx r 4 = dashT := f 4
  have f8 : fx r 8 = timeB x.save := f 8
  have f9 : fx r 9 = dashB x.letter := f 9
  have ub := until_back k
  obtain ⟨⟨fr1, fr2⟩, ⟨l1, l2⟩, ks, ⟨s1, s2⟩, kn, nd, kl⟩ := k
  have yb : yearN (yearT x.fr) = x.fr := by
    have := year_back (n := x.fr.toNat) (by omega)
    unfold yearT
    omega
  have sp : spotRes r 5 n = (x.sp, Flt.no) := spot_back ks (by omega) (by rw [f 5, f 6, f 7]; rfl) n
  have of : offN (fx r 8) 43200 = (x.save, 0) := by rw [f8]; exact off_back (by omega) (by omega) (by omega) (by omega)
  have ll : lettersB (fx r 9) = true ∧ (if fx r 9 = dashT then (⟨#[]⟩ : ByteArray) else fx r 9) = x.letter := by
    rw [f9]
    by_cases z : x.letter.size = 0
    · have e := empty_of z
      rw [e, show dashB ⟨#[]⟩ = dashT from rfl]
      exact ⟨letter_dash, if_pos rfl⟩
    · rw [dash_of (by omega), if_neg nd]
      rcases kl with c | c
      · rw [c] at z; exact absurd rfl z
      · exact ⟨c, rfl⟩
  constructor
  · unfold ruleFlt
    rw [f1, f2, f3, f4, sp, of, chk_yes _ kn, orF_no rfl, chk_yes _ (decide_eq_true (by omega)), orF_no rfl, chk_yes _ (decide_eq_true (by omega)), orF_no rfl, chk_yes _ (decide_eq_true rfl), orF_no rfl, orF_no rfl, orF_no rfl, chk_yes _ ll.1]
  · unfold ruleVal
    rw [sp, of, ll.2, f1, f2, f3, yb, ub]
/-! ### an era's fields -/
theorem era_back {x : Er} (k : x.ok) {r : List (ByteArray × Int)} {i : Nat} (h : ∀ j, fx r (i + j) = (eraTexts x).getD j ⟨#[]⟩) (hl : r.length = i + (eraTexts x).length) (n : Int) : eraFlt r i n = Flt.no ∧ eraVal r i n = x := by
  obtain ⟨⟨o1, o2⟩, ⟨s1, s2⟩, kf, ⟨k1, k2⟩, ks, kr, kn, kt, ku⟩ := k
  have f0 : fx r i = timeB x.off := h 0
  have f1 : fx r (i + 1) = saveT x := h 1
  have f2 : fx r (i + 2) = x.fmt := h 2
  have of : offN (fx r i) 86400 = (x.off, 0) := by rw [f0]; exact off_back (by omega) (by omega) (by omega) (by omega)
  have nt : ¬ timeB x.save = dashT := time_dash (by omega) (by omega)
  have sv : ∀ a, (eraSave (fx r (i + 1)) n a).1 = 0 := by
    intro a
    rw [f1]
    unfold eraSave saveT
    by_cases c : x.kind = 1
    · rw [if_pos c, if_neg nt, if_neg (by rw [namely_time]; decide), off_back (by omega) (by omega) (by omega) (by omega)]
    rw [if_neg c]
    by_cases d : x.kind = 2
    · have sb := kn d
      rw [dash_of (set_bare sb).1, if_neg (set_first sb).2, if_pos (set_first sb).1, chk_yes _ sb]
      rfl
    · rw [kr d, show dashB ⟨#[]⟩ = dashT from rfl, if_pos rfl]
      rfl
  have kd : eraKind (fx r (i + 1)) = x.kind ∧ (x.kind = 1 → offN (fx r (i + 1)) 43200 = (x.save, 0)) ∧ (x.kind = 2 → fx r (i + 1) = x.rules) := by
    rw [f1]
    unfold eraKind saveT
    by_cases c : x.kind = 1
    · rw [if_pos c, if_neg nt, if_neg (by rw [namely_time]; decide)]
      exact ⟨c.symm, fun _ => off_back (by omega) (by omega) (by omega) (by omega), fun d => absurd (c.symm.trans d) (by decide)⟩
    rw [if_neg c]
    by_cases d : x.kind = 2
    · have sb := kn d
      rw [dash_of (set_bare sb).1, if_neg (set_first sb).2, if_pos (set_first sb).1]
      exact ⟨d.symm, fun e => absurd e c, fun _ => rfl⟩
    · rw [kr d, show dashB ⟨#[]⟩ = dashT from rfl, if_pos rfl]
      exact ⟨by omega, fun e => absurd e c, fun e => absurd e d⟩
  cases ht : x.til with
  | false =>
    have hl' : ¬ i + 3 < r.length := by rw [hl]; unfold eraTexts; rw [ht]; show ¬ i + 3 < i + 3; omega
    have u := ku ht
    constructor
    · unfold eraFlt
      rw [of, orF_no rfl, orF_no (sv _), f2, chk_yes _ kf, orF_no rfl, if_neg hl']
    · unfold eraVal
      rw [of, kd.1, f2, decide_eq_false hl', if_neg hl', if_neg hl']
      refine Er.ext' rfl rfl ?_ ?_ rfl ht.symm u.1.symm u.2.symm
      · show (if x.kind = 1 then _ else _) = x.save
        by_cases c : x.kind = 1
        · rw [if_pos c, kd.2.1 c]
        · rw [if_neg c, ks c]
      · show (if x.kind = 2 then _ else _) = x.rules
        by_cases c : x.kind = 2
        · rw [if_pos c, kd.2.2 c]
        · rw [if_neg c, kr c]
  | true =>
    have hz : (eraTexts x).length = 7 := by unfold eraTexts; rw [ht]; rfl
    have hl' : i + 3 < r.length := by rw [hl, hz]; omega
    have e : eraTexts x = [timeB x.off, saveT x, x.fmt, yearT x.year] ++ spTexts x.sp := by unfold eraTexts; rw [if_pos ht]; rfl
    obtain ⟨⟨y1, y2⟩, kp⟩ := kt ht
    have f3 : fx r (i + 3) = yearT x.year := by rw [h 3, e]; rfl
    have yb : yearN (yearT x.year) = x.year := by
      have := year_back (n := x.year.toNat) (by omega)
      unfold yearT
      omega
    have sp : spotRes r (i + 4) n = (x.sp, Flt.no) := spot_back kp (by omega) (by rw [show i + 4 + 1 = i + 5 from rfl, show i + 4 + 2 = i + 6 from rfl, h 4, h 5, h 6, e]; rfl) n
    constructor
    · unfold eraFlt
      rw [of, orF_no rfl, orF_no (sv _), f2, chk_yes _ kf, orF_no rfl, if_pos hl', f3, yb, chk_yes _ (decide_eq_true (by omega)), orF_no rfl, sp]
    · unfold eraVal
      rw [of, kd.1, f2, decide_eq_true hl', if_pos hl', if_pos hl', f3, yb, sp]
      refine Er.ext' rfl rfl ?_ ?_ rfl ht.symm rfl rfl
      · show (if x.kind = 1 then _ else _) = x.save
        by_cases c : x.kind = 1
        · rw [if_pos c, kd.2.1 c]
        · rw [if_neg c, ks c]
      · show (if x.kind = 2 then _ else _) = x.rules
        by_cases c : x.kind = 2
        · rw [if_pos c, kd.2.2 c]
        · rw [if_neg c, kr c]
end Go.Proofs.YtnkmlfbnfndfpaaGreatDoor
/- Layer 10: a source's text is read as that source. No program here. -/
namespace Go.Proofs.YtnkmlfbnfndfpaaGreatDoor
open Go.RowKit
/-! ### each line's fields are plain, few, short -/
theorem year_ok {n : Int} (h1 : 1 ≤ n) (h2 : n ≤ 9999) : bareL (yearT n) ∧ 0 < (yearT n).size ∧ (yearT n).size ≤ 27 := by
  have d := digits_bare n.toNat
  have : (yearT n).size ≤ 19 := decB_le (n := n.toNat) (by omega)
  exact ⟨d.1, d.2, by omega⟩
theorem time_ok {n : Int} (h1 : -9223372036854775808 ≤ n) (h2 : n ≤ 9223372036854775807) : bareL (timeB n) ∧ 0 < (timeB n).size ∧ (timeB n).size ≤ 27 := by
  have := timeB_le n h1 h2
  exact ⟨(time_bare n).1, (time_bare n).2, by omega⟩
def fld (k : Nat) (t : ByteArray) : Prop := bareL t ∧ 0 < t.size ∧ t.size ≤ k
theorem fld_word (l : List UInt8) (h : ∀ c ∈ l, bareB c.toNat = true) (h0 : 0 < l.length) (h1 : l.length ≤ 27) : fld 27 ⟨l.toArray⟩ := ⟨bareL_list h, h0, h1⟩
theorem fld_dash : fld 27 dashT := fld_word [45] (by decide) (by decide) (by decide)
theorem rule_flds {x : Rl} (k : x.ok) : ∀ t ∈ ruleTexts x, fld 27 t := by
  obtain ⟨⟨fr1, fr2⟩, ⟨l1, l2⟩, ks, ⟨s1, s2⟩, kn, nd, kl⟩ := k
  have sb := set_bare kn
  intro t ht
  unfold ruleTexts at ht
  simp only [List.mem_append, List.mem_cons, List.not_mem_nil, or_false] at ht
  rcases ht with ((rfl | rfl | rfl | rfl | rfl) | ht) | rfl | rfl
  · exact fld_word [82, 117, 108, 101] (by decide) (by decide) (by decide)
  · exact ⟨sb.2.2, sb.1, by omega⟩
  · exact year_ok fr1 fr2
  · unfold untilT
    split
    · exact fld_word [111, 110, 108, 121] (by decide) (by decide) (by decide)
    split
    · exact fld_word [109, 97, 120] (by decide) (by decide) (by decide)
    · exact year_ok l1 (by omega)
  · exact fld_dash
  · exact spot_bare ks t ht
  · exact time_ok (by omega) (by omega)
  · by_cases z : x.letter.size = 0
    · rw [empty_of z]; exact fld_dash
    · rw [dash_of (by omega)]
      rcases kl with c | c
      · rw [c] at z; exact absurd rfl z
      · have := letters_bare c
        exact ⟨this.2.2, this.1, by omega⟩
theorem era_flds {x : Er} (k : x.ok) : ∀ t ∈ eraTexts x, fld 27 t := by
  obtain ⟨⟨o1, o2⟩, ⟨s1, s2⟩, kf, ⟨k1, k2⟩, ks, kr, kn, kt, ku⟩ := k
  have fb := format_bare kf
  intro t ht
  unfold eraTexts at ht
  simp only [List.mem_append, List.mem_cons, List.not_mem_nil, or_false] at ht
  rcases ht with (rfl | rfl | rfl) | ht
  · exact time_ok (by omega) (by omega)
  · unfold saveT
    split
    · exact time_ok (by omega) (by omega)
    · rename_i c
      by_cases d : x.kind = 2
      · have := set_bare (kn d)
        rw [dash_of this.1]
        exact ⟨this.2.2, this.1, by omega⟩
      · rw [kr d]; exact fld_dash
  · exact ⟨fb.2.2, fb.1, by omega⟩
  · split at ht
    · rename_i c
      obtain ⟨⟨y1, y2⟩, kp⟩ := kt c
      rcases List.mem_cons.1 ht with rfl | ht
      · exact year_ok y1 y2
      · exact spot_bare kp t ht
    · cases ht
theorem place_fld {s : ByteArray} (h : placeB s = true) : fld 40 s := by
  have := place_bare h
  exact ⟨this.2.2, this.1, this.2.1⟩
theorem fld_mono {a b : Nat} {t : ByteArray} (h : fld a t) (l : a ≤ b) : fld b t := ⟨h.1, h.2.1, by have := h.2.2; omega⟩
theorem split_line {l : List ByteArray} (h : ∀ t ∈ l, fld 40 t) (n : l.length ≤ 10) : ∃ r, splitC (spc l) = (r, 0, 0) ∧ r.map (·.1) = l := by
  have z := spc_size l 40 (fun t ht => (h t ht).2.2)
  obtain ⟨r, a, b⟩ := split_spc (l := l) (fun t ht => plain_of (h t ht).2.1 (h t ht).1) (by omega) (by omega)
  exact ⟨r, splitC_ok a, b⟩
theorem era_len (x : Er) : (eraTexts x).length = 3 ∨ (eraTexts x).length = 7 := by
  unfold eraTexts
  split
  · exact .inr rfl
  · exact .inl rfl
theorem step_of {S : Sr} {t : ByteArray} {n : Int} {r : List (ByteArray × Int)} (h : splitC t = (r, 0, 0)) (ne : r ≠ []) (f : lineFlt S r t n = Flt.no) : lineStep S t n = (Flt.no, lineSrc S r n) := by
  unfold lineStep
  rw [h, if_neg (fun c => c rfl), if_neg ne, f]
theorem rule_line {S : Sr} {x : Rl} (k : x.ok) (ht : S.til = false) (hc : S.rules.length < 200) (n : Int) : lineStep S (spc (ruleTexts x)) n = (Flt.no, ⟨S.rules ++ [x], S.zones, S.links⟩) := by
  obtain ⟨r, hs, hr⟩ := split_line (l := ruleTexts x) (fun t h => fld_mono (rule_flds k t h) (by decide)) (by show 10 ≤ 10; decide)
  have hl : r.length = 10 := by
    have := congrArg List.length hr
    rw [List.length_map] at this
    exact this
  obtain ⟨b1, b2⟩ := rule_back k hr n
  have f0 : fx r 0 = ruleT := fx_map hr 0
  rw [step_of hs (by intro c; rw [c] at hl; cases hl)]
  · unfold lineSrc
    rw [if_neg (by rw [ht]; decide), if_pos f0, b2]
  · unfold lineFlt
    rw [if_neg (by rw [ht]; decide), if_pos f0, chk_yes _ (decide_eq_true hc), orF_no rfl, count_no (by omega) (by omega), orF_no rfl, b1]
theorem link_line {S : Sr} {x : Lk} (k : x.ok) (ht : S.til = false) (hc : S.links.length < 100) (n : Int) : lineStep S (spc (linkTexts x)) n = (Flt.no, ⟨S.rules, S.zones, S.links ++ [x]⟩) := by
  obtain ⟨r, hs, hr⟩ := split_line (l := linkTexts x) (fun t h => by
    unfold linkTexts at h
    simp only [List.mem_cons, List.not_mem_nil, or_false] at h
    rcases h with rfl | rfl | rfl
    · exact fld_mono (fld_word [76, 105, 110, 107] (by decide) (by decide) (by decide)) (by decide)
    · exact place_fld k.1
    · exact place_fld k.2) (by show 3 ≤ 10; decide)
  have hl : r.length = 3 := by
    have := congrArg List.length hr
    rw [List.length_map] at this
    exact this
  have f0 : fx r 0 = linkT := fx_map hr 0
  have f1 : fx r 1 = x.target := fx_map hr 1
  have f2 : fx r 2 = x.name := fx_map hr 2
  rw [step_of hs (by intro c; rw [c] at hl; cases hl)]
  · unfold lineSrc
    rw [if_neg (by rw [ht]; decide), f0, if_neg (by decide), if_neg (by decide), f1, f2]
  · unfold lineFlt
    rw [if_neg (by rw [ht]; decide), f0, if_neg (by decide), if_neg (by decide), if_pos rfl, chk_yes _ (decide_eq_true hc), orF_no rfl, count_no (by omega) (by omega), orF_no rfl, f1, f2, chk_yes _ k.1, orF_no rfl, chk_yes _ k.2]
theorem era_line {S : Sr} {x : Er} (k : x.ok) (ht : S.til = true) (hc : S.eras < 40) (n : Int) : lineStep S (spc (eraTexts x)) n = (Flt.no, ⟨S.rules, addTo x S.zones, S.links⟩) := by
  have el := era_len x
  obtain ⟨r, hs, hr⟩ := split_line (l := eraTexts x) (fun t h => fld_mono (era_flds k t h) (by decide)) (by omega)
  have hl : r.length = (eraTexts x).length := by
    have := congrArg List.length hr
    rwa [List.length_map] at this
  obtain ⟨b1, b2⟩ := era_back k (i := 0) (fun j => by rw [Nat.zero_add]; exact fx_map hr j) (by omega) n
  rw [step_of hs (by intro c; rw [c] at hl; simp at hl; omega)]
  · unfold lineSrc
    rw [if_pos ht, b2]
  · unfold lineFlt
    rw [if_pos ht, chk_yes _ (decide_eq_true hc), orF_no rfl, count_no (by omega) (by omega), orF_no rfl, b1]
theorem zone_line {S : Sr} {nm : ByteArray} {x : Er} (kp : placeB nm = true) (k : x.ok) (ht : S.til = false) (hc : S.zones.length < 50) (n : Int) :
    lineStep S (spc ([zoneT, nm] ++ eraTexts x)) n = (Flt.no, ⟨S.rules, S.zones ++ [⟨nm, [x]⟩], S.links⟩) := by
  have el := era_len x
  obtain ⟨r, hs, hr⟩ := split_line (l := [zoneT, nm] ++ eraTexts x) (fun t h => by
    simp only [List.mem_append, List.mem_cons, List.not_mem_nil, or_false] at h
    rcases h with (rfl | rfl) | h
    · exact fld_mono (fld_word [90, 111, 110, 101] (by decide) (by decide) (by decide)) (by decide)
    · exact place_fld kp
    · exact fld_mono (era_flds k t h) (by decide)) (by rw [List.length_append]; simp; omega)
  have hl : r.length = 2 + (eraTexts x).length := by
    have := congrArg List.length hr
    rw [List.length_map, List.length_append] at this
    exact this
  have f0 : fx r 0 = zoneT := fx_map hr 0
  have f1 : fx r 1 = nm := fx_map hr 1
  obtain ⟨b1, b2⟩ := era_back k (i := 2) (fun j => by
    rw [fx_map hr (2 + j), Nat.add_comm 2 j]
    rfl) hl n
  rw [step_of hs (by intro c; rw [c] at hl; simp at hl; omega)]
  · unfold lineSrc
    rw [if_neg (by rw [ht]; decide), f0, if_neg (by decide), if_pos rfl, b2, f1]
  · unfold lineFlt
    rw [if_neg (by rw [ht]; decide), f0, if_neg (by decide), if_pos rfl, chk_yes _ (decide_eq_true hc), orF_no rfl, count_no (by omega) (by omega), orF_no rfl, f1, chk_yes _ kp, orF_no rfl, b1]
/-! ### all lines -/
theorem go_step {t : ByteArray} {r : List ByteArray} {n : Int} {S S' : Sr} (h : lineStep S t n = (Flt.no, S')) : linesGo (t :: r) n S = linesGo r (n + 1) S' := by
  show (if (lineStep S t n).1.1 = 0 then _ else _) = _
  rw [h]
  exact if_pos rfl
theorem go_rules : ∀ (xs : List Rl) (r : List ByteArray) (n : Int) (S : Sr), (∀ x ∈ xs, x.ok) → S.til = false → S.rules.length + xs.length ≤ 200 → ∃ m, linesGo (xs.map (fun x => spc (ruleTexts x)) ++ r) n S = linesGo r m ⟨S.rules ++ xs, S.zones, S.links⟩
  | [], r, n, S, _, _, _ => ⟨n, by rw [List.append_nil]; rfl⟩
  | x :: xs, r, n, S, h, ht, hc => by
    rw [List.length_cons] at hc
    obtain ⟨m, hm⟩ := go_rules xs r (n + 1) ⟨S.rules ++ [x], S.zones, S.links⟩ (fun y hy => h y (List.mem_cons_of_mem _ hy)) ht (by rw [List.length_append]; simp; omega)
    refine ⟨m, ?_⟩
    rw [List.map_cons, List.cons_append, go_step (rule_line (h x (by simp)) ht (by omega) n), hm]
    show linesGo r m ⟨(S.rules ++ [x]) ++ xs, S.zones, S.links⟩ = _
    rw [List.append_assoc]
    rfl
theorem go_links : ∀ (xs : List Lk) (r : List ByteArray) (n : Int) (S : Sr), (∀ x ∈ xs, x.ok) → S.til = false → S.links.length + xs.length ≤ 100 → ∃ m, linesGo (xs.map (fun x => spc (linkTexts x)) ++ r) n S = linesGo r m ⟨S.rules, S.zones, S.links ++ xs⟩
  | [], r, n, S, _, _, _ => ⟨n, by rw [List.append_nil]; rfl⟩
  | x :: xs, r, n, S, h, ht, hc => by
    rw [List.length_cons] at hc
    obtain ⟨m, hm⟩ := go_links xs r (n + 1) ⟨S.rules, S.zones, S.links ++ [x]⟩ (fun y hy => h y (List.mem_cons_of_mem _ hy)) ht (by rw [List.length_append]; simp; omega)
    refine ⟨m, ?_⟩
    rw [List.map_cons, List.cons_append, go_step (link_line (h x (by simp)) ht (by omega) n), hm]
    show linesGo r m ⟨S.rules, S.zones, (S.links ++ [x]) ++ xs⟩ = _
    rw [List.append_assoc]
    rfl
theorem addTo_last (x : Er) (z : Zn) : ∀ Z : List Zn, addTo x (Z ++ [z]) = Z ++ [⟨z.name, z.eras ++ [x]⟩]
  | [] => rfl
  | [y] => rfl
  | y :: u :: r => by
    show y :: addTo x ((u :: r) ++ [z]) = _
    rw [addTo_last x z (u :: r)]
    rfl
theorem til_last (R : List Rl) (Z : List Zn) (z : Zn) (K : List Lk) : (⟨R, Z ++ [z], K⟩ : Sr).til = z.til ∧ (⟨R, Z ++ [z], K⟩ : Sr).eras = z.eras.length := by
  unfold Sr.til Sr.eras
  rw [List.getLast?_concat]
  exact ⟨rfl, rfl⟩
theorem zn_til (nm : ByteArray) (p : List Er) (x : Er) : (⟨nm, p ++ [x]⟩ : Zn).til = x.til := by
  unfold Zn.til
  rw [List.getLast?_concat]
theorem go_eras (R : List Rl) (Z : List Zn) (K : List Lk) (nm : ByteArray) : ∀ (q p : List Er) (y : Er) (r : List ByteArray) (n : Int), (∀ x ∈ q, x.ok) → tilOk (y :: q) → p.length + 1 + q.length ≤ 40 →
    ∃ m p' y', linesGo (q.map (fun x => spc (eraTexts x)) ++ r) n ⟨R, Z ++ [⟨nm, p ++ [y]⟩], K⟩ = linesGo r m ⟨R, Z ++ [⟨nm, p' ++ [y']⟩], K⟩ ∧ p ++ [y] ++ q = p' ++ [y'] ∧ y'.til = false
  | [], p, y, r, n, _, ht, _ => ⟨n, p, y, rfl, by rw [List.append_nil], ht⟩
  | x :: q, p, y, r, n, h, ht, hc => by
    rw [List.length_cons] at hc
    obtain ⟨h1, h2⟩ := ht
    have ht' : (⟨R, Z ++ [⟨nm, p ++ [y]⟩], K⟩ : Sr).til = true := by rw [(til_last _ _ _ _).1, zn_til]; exact h1
    have hn' : (⟨R, Z ++ [⟨nm, p ++ [y]⟩], K⟩ : Sr).eras < 40 := by rw [(til_last _ _ _ _).2, List.length_append]; simp; omega
    obtain ⟨m, p', y', e1, e2, e3⟩ := go_eras R Z K nm q (p ++ [y]) x r (n + 1) (fun u hu => h u (List.mem_cons_of_mem _ hu)) h2 (by rw [List.length_append]; simp; omega)
    refine ⟨m, p', y', ?_, ?_, e3⟩
    · rw [List.map_cons, List.cons_append, go_step (era_line (h x (by simp)) ht' hn' n)]
      show linesGo _ (n + 1) ⟨R, addTo x (Z ++ [⟨nm, p ++ [y]⟩]), K⟩ = _
      rw [addTo_last]
      exact e1
    · rw [← e2]; simp
theorem go_zones : ∀ (zs : List Zn) (r : List ByteArray) (n : Int) (S : Sr), (∀ z ∈ zs, z.ok) → S.til = false → S.zones.length + zs.length ≤ 50 →
    ∃ m, linesGo ((zs.flatMap zoneLines).map spc ++ r) n S = linesGo r m ⟨S.rules, S.zones ++ zs, S.links⟩ ∧ (⟨S.rules, S.zones ++ zs, S.links⟩ : Sr).til = false
  | [], r, n, S, _, ht, _ => ⟨n, by rw [List.append_nil]; rfl, by rw [List.append_nil]; exact ht⟩
  | z :: zs, r, n, S, h, ht, hc => by
    rw [List.length_cons] at hc
    obtain ⟨kp, kl, ke, kt⟩ := h z (by simp)
    obtain ⟨nm, es⟩ := z
    cases es with
    | nil => exact absurd kt (fun c => c)
    | cons x q =>
      obtain ⟨m, p', y', e1, e2, e3⟩ := go_eras S.rules S.zones S.links nm q [] x ((zs.flatMap zoneLines).map spc ++ r) (n + 1) (fun u hu => ke u (List.mem_cons_of_mem _ hu)) kt (by
        have : (x :: q).length ≤ 40 := kl
        rw [List.length_cons] at this
        simp
        omega)
      have e2' : p' ++ [y'] = x :: q := e2.symm
      have ht2 : (⟨S.rules, S.zones ++ [⟨nm, x :: q⟩], S.links⟩ : Sr).til = false := by rw [(til_last _ _ _ _).1, ← e2', zn_til]; exact e3
      obtain ⟨m', g1, g2⟩ := go_zones zs r m ⟨S.rules, S.zones ++ [⟨nm, x :: q⟩], S.links⟩ (fun u hu => h u (List.mem_cons_of_mem _ hu)) ht2 (by rw [List.length_append]; simp; omega)
      have ea : S.zones ++ [(⟨nm, x :: q⟩ : Zn)] ++ zs = S.zones ++ (⟨nm, x :: q⟩ :: zs) := by simp
      have g1' : linesGo ((zs.flatMap zoneLines).map spc ++ r) m ⟨S.rules, S.zones ++ [⟨nm, x :: q⟩], S.links⟩ = linesGo r m' ⟨S.rules, S.zones ++ (⟨nm, x :: q⟩ :: zs), S.links⟩ := by rw [g1]; show linesGo r m' ⟨S.rules, S.zones ++ [⟨nm, x :: q⟩] ++ zs, S.links⟩ = _; rw [ea]
      refine ⟨m', ?_, ?_⟩
      · rw [← g1']
        have el : ((⟨nm, x :: q⟩ :: zs : List Zn).flatMap zoneLines).map spc ++ r = spc ([zoneT, nm] ++ eraTexts x) :: (q.map (fun x => spc (eraTexts x)) ++ ((zs.flatMap zoneLines).map spc ++ r)) := by
          rw [List.flatMap_cons, List.map_append]
          show spc ([zoneT, nm] ++ eraTexts x) :: (q.map eraTexts).map spc ++ _ ++ r = _
          rw [List.map_map]
          simp [Function.comp_def]
        rw [el, go_step (zone_line kp (ke x (by simp)) ht (by omega) n)]
        have e1' := e1
        rw [List.nil_append] at e1'
        rw [e1', e2']
      · have := g2
        show (⟨S.rules, S.zones ++ (⟨nm, x :: q⟩ :: zs), S.links⟩ : Sr).til = false
        rw [← ea]
        exact this
theorem line_no10 {l : List ByteArray} (h : ∀ t ∈ l, bareL t) : no10 (spc l) := spc_ten l h
theorem srcLines_bare {S : Sr} (k : S.ok) : ∀ l ∈ srcLines S, ∀ t ∈ l, bareL t := by
  obtain ⟨_, _, _, kr, kz, kk⟩ := k
  intro l hl t ht
  unfold srcLines at hl
  simp only [List.mem_append, List.mem_map, List.mem_flatMap] at hl
  rcases hl with (⟨x, hx, rfl⟩ | ⟨z, hz, hl⟩) | ⟨x, hx, rfl⟩
  · exact (rule_flds (kr x hx) t ht).1
  · obtain ⟨kp, _, ke, kt⟩ := kz z hz
    obtain ⟨nm, es⟩ := z
    cases es with
    | nil => exact absurd kt (fun c => c)
    | cons x q =>
      have zt : bareL zoneT := bareL_list (l := [90, 111, 110, 101]) (by decide)
      rcases List.mem_cons.1 hl with rfl | hl
      · simp only [List.mem_append, List.mem_cons, List.not_mem_nil, or_false] at ht
        rcases ht with (rfl | rfl) | ht
        · exact zt
        · exact (place_bare kp).2.2
        · exact (era_flds (ke x (by simp)) t ht).1
      · obtain ⟨y, hy, rfl⟩ := List.mem_map.1 hl
        exact (era_flds (ke y (List.mem_cons_of_mem _ hy)) t ht).1
  · unfold linkTexts at ht
    simp only [List.mem_cons, List.not_mem_nil, or_false] at ht
    rcases ht with rfl | rfl | rfl
    · exact bareL_list (l := [76, 105, 110, 107]) (by decide)
    · exact (place_bare (kk x hx).1).2.2
    · exact (place_bare (kk x hx).2).2.2
theorem srcText_lines {S : Sr} (k : S.ok) : lnsFrom (srcText S) 0 0 = (srcLines S).map spc := by
  unfold srcText
  rw [text_is]
  exact lns_all (fun t ht => by
    obtain ⟨l, hl, rfl⟩ := List.mem_map.1 ht
    exact line_no10 (srcLines_bare k l hl))
/-- WHAT WAS WRITTEN IS READ AS IT WAS. -/
theorem src_back {S : Sr} (k : S.ok) (z : (srcText S).size ≤ 100000) : srcRes (srcText S) = (S, Flt.no) := by
  have hl := srcText_lines k
  obtain ⟨n1, n2, n3, kr, kz, kk⟩ := k
  obtain ⟨m1, g1⟩ := go_rules S.rules ((S.zones.flatMap zoneLines).map spc ++ (S.links.map (fun x => spc (linkTexts x)) ++ [])) 1 .none kr rfl (by show 0 + _ ≤ _; omega)
  obtain ⟨m2, g2, t2⟩ := go_zones S.zones (S.links.map (fun x => spc (linkTexts x)) ++ []) m1 ⟨S.rules, [], []⟩ kz rfl (by show 0 + _ ≤ _; omega)
  obtain ⟨m3, g3⟩ := go_links S.links [] m2 ⟨S.rules, S.zones, []⟩ kk t2 (by show 0 + _ ≤ _; omega)
  have e : linesGo ((srcLines S).map spc) 1 .none = (Flt.no, S) := by
    have a : (srcLines S).map spc = S.rules.map (fun x => spc (ruleTexts x)) ++ ((S.zones.flatMap zoneLines).map spc ++ (S.links.map (fun x => spc (linkTexts x)) ++ [])) := by
      unfold srcLines
      simp [List.map_append, List.map_map, Function.comp_def]
    rw [a, g1]
    show linesGo _ m1 ⟨S.rules, [], []⟩ = _
    rw [g2]
    show linesGo _ m2 ⟨S.rules, S.zones, []⟩ = _
    rw [g3]
    rfl
  unfold srcRes
  rw [if_neg (by omega), hl, e, if_neg (fun c => c rfl), if_neg]
  intro c
  have : S.til = false := t2
  exact absurd (this.symm.trans c) (by decide)
end Go.Proofs.YtnkmlfbnfndfpaaGreatDoor
/- Layer 10: what is read is right. No program here. -/
namespace Go.Proofs.YtnkmlfbnfndfpaaGreatDoor
open Go.RowKit
/-! ### a spot that is read is right -/
theorem bg_tight {l : List ByteArray} (h3 : l.length ≤ 3) (n v : Int) (h0 : 0 ≤ n) (h : bareGo l 1 n 60 = some v) : 0 ≤ v ∧ v ≤ n + 3599 := by
  by_cases h1 : 1 < l.length
  case neg => rw [bg_end h1] at h; cases h; omega
  by_cases b : numRes l[1] 2 2 < 0 ∨ 59 < numRes l[1] 2 2
  · rw [bg_no h1 b] at h; cases h
  rw [bg_on h1 b] at h
  by_cases h2 : 1 + 1 < l.length
  case neg => rw [bg_end h2] at h; cases h; omega
  by_cases b2 : numRes l[1 + 1] 2 2 < 0 ∨ 59 < numRes l[1 + 1] 2 2
  · rw [bg_no h2 b2] at h; cases h
  rw [bg_on h2 b2, bg_end (by omega)] at h
  cases h
  omega
theorem bare_tight {s : ByteArray} {v : Int} (h : bareRes s = some v) : 0 ≤ v ∧ v ≤ 604799 := by
  unfold bareRes bareOf at h
  split at h
  · cases h
  · have := bg_tight (by omega) _ v (by omega) h
    omega
theorem span_tight {s : ByteArray} {v : Int} (h : spanRes s = some v) : -604799 ≤ v ∧ v ≤ 604799 := by
  unfold spanRes at h
  split at h
  · cases h; omega
  split at h
  · split at h
    · obtain ⟨u, hu, rfl⟩ := Option.map_eq_some_iff.1 h
      have := bare_tight hu
      omega
    · have := bare_tight h; omega
  · have := bare_tight h; omega
theorem clock_tight {s : ByteArray} {v r : Int} (h : clockRes s = some (v, r)) : (-604799 ≤ v ∧ v ≤ 604799) ∧ 0 ≤ r ∧ r ≤ 2 := by
  unfold clockRes at h
  split at h
  · split at h
    · obtain ⟨u, hu, e⟩ := Option.map_eq_some_iff.1 h
      cases e
      exact ⟨span_tight hu, by omega⟩
    split at h
    · cases h
    · rename_i c _
      obtain ⟨u, hu, e⟩ := Option.map_eq_some_iff.1 h
      cases e
      refine ⟨span_tight hu, by omega, ?_⟩
      unfold refOf
      (repeat' split) <;> omega
  · cases h
def dOk (t : Int × Int × Int × Bool) : Prop := (0 ≤ t.1 ∧ t.1 ≤ 3) ∧ (t.1 = 0 → t.2.1 = 0) ∧ (t.1 ≠ 0 → 1 ≤ t.2.1 ∧ t.2.1 ≤ 7) ∧ (t.1 = 1 → t.2.2.1 = 0) ∧ (t.1 ≠ 1 → 1 ≤ t.2.2.1 ∧ t.2.2.1 ≤ 31)
theorem dAt_ok {s : ByteArray} {k : Int} {i : Nat} (h2 : k = 2 ∨ k = 3) (h : (dAt s k i).2.2.2 = true) : dOk (dAt s k i) := by
  unfold dAt at h ⊢
  simp only [Bool.and_eq_true, decide_eq_true_eq] at h
  have a := dayN_le (s.extract 0 i)
  have b := dayRes_in (s.extract (i + 2) s.size)
  unfold dOk
  simp only
  omega
theorem dTup_ok {s : ByteArray} (h : (dTup s).2.2.2 = true) : dOk (dTup s) := by
  unfold dTup at h ⊢
  split
  · rename_i c
    rw [if_pos c] at h
    simp only [decide_eq_true_eq] at h
    have a := dayN_le (s.extract 4 s.size)
    exact ⟨(show (0 : Int) ≤ 1 ∧ (1 : Int) ≤ 3 by decide), fun c => absurd (show (1 : Int) = 0 from c) (by decide), fun _ => ⟨by simp only; omega, by simp only; omega⟩, fun _ => rfl, fun c => absurd rfl c⟩
  · rename_i c
    rw [if_neg c] at h
    split
    · rename_i i e
      rw [e] at h
      exact dAt_ok (.inl rfl) h
    · rename_i e
      rw [e] at h
      simp only at h
      split
      · rename_i i e2
        rw [e2] at h
        exact dAt_ok (.inr rfl) h
      · rename_i e2
        rw [e2] at h
        simp only [decide_eq_true_eq] at h
        have b := dayRes_in s
        exact ⟨(show (0 : Int) ≤ 0 ∧ (0 : Int) ≤ 3 by decide), fun _ => rfl, fun c => absurd rfl c, fun c => absurd (show (0 : Int) = 1 from c) (by decide), fun _ => ⟨by simp only; omega, by simp only; omega⟩⟩
theorem parse_ok {t : List ByteArray} (h : (parseRes t).2.2 = 0) : (parseRes t).1.ok := by
  unfold parseRes at h ⊢
  split
  · rename_i c; rw [if_pos c] at h; exact absurd h (by decide)
  · rename_i c
    rw [if_neg c] at h
    cases t with
    | nil => decide
    | cons a t =>
      simp only at h ⊢
      have ma := monthN_le a
      by_cases m : monthN a = 0
      · rw [if_pos m] at h; exact absurd h (by decide)
      rw [if_neg m] at h ⊢
      cases t with
      | nil => exact (show Sp.ok ⟨(monthN a : Int), 0, 0, 1, 0, 0⟩ from ⟨by simp only; omega, (show (0 : Int) ≤ 0 ∧ (0 : Int) ≤ 3 by decide), (show (-604799 : Int) ≤ 0 ∧ (0 : Int) ≤ 604799 by decide), (show (0 : Int) ≤ 0 ∧ (0 : Int) ≤ 2 by decide), fun _ => rfl, fun c => absurd rfl c, fun c => absurd (show (0 : Int) = 1 from c) (by decide), fun _ => (show (1 : Int) ≤ 1 ∧ (1 : Int) ≤ 31 by decide)⟩)
      | cons b t =>
        simp only at h ⊢
        by_cases d : (dTup b).2.2.2 = false
        · rw [if_pos d] at h; exact absurd h (by decide)
        rw [if_neg d] at h ⊢
        obtain ⟨⟨d1, d2⟩, d3, d4, d5, d6⟩ := dTup_ok (s := b) (by simpa using d)
        cases t with
        | nil => exact (show Sp.ok ⟨(monthN a : Int), (dTup b).1, (dTup b).2.1, (dTup b).2.2.1, 0, 0⟩ from ⟨by simp only; omega, ⟨d1, d2⟩, by simp only; omega, by simp only; omega, d3, d4, d5, d6⟩)
        | cons u t =>
          simp only at h ⊢
          cases e : clockRes u with
          | none => rw [e] at h; exact absurd (show (6 : Int) = 0 from h) (by decide)
          | some x =>
            obtain ⟨c1, c2⟩ := clock_tight (v := x.1) (r := x.2) (by rw [e])
            exact (show Sp.ok ⟨(monthN a : Int), (dTup b).1, (dTup b).2.1, (dTup b).2.2.1, x.1, x.2⟩ from ⟨by simp only; omega, ⟨d1, d2⟩, c1, c2, d3, d4, d5, d6⟩)
theorem spot_right {l : List (ByteArray × Int)} {f : Nat} {n : Int} (h : (spotRes l f n).2.1 = 0) : (spotRes l f n).1.ok := by
  unfold spotRes at h ⊢
  by_cases c : (parseRes (TX l f 3)).2.2 = 0
  · rw [if_pos c]; exact parse_ok c
  · rw [if_neg c] at h; exact absurd h c
/-! ### rules, eras -/
theorem to_right {a b : ByteArray} (h : ¬ toN a b = 0) : 1 ≤ toN a b ∧ (toN a b ≤ 9999 ∨ toN a b = 1000000) := by
  have y1 := year_le a
  have y2 := year_le b
  unfold toN at h ⊢
  (repeat' split at h) <;> rename_i c <;> (repeat' split) <;> omega
theorem six_not (n a : Int) : ¬ ((6, n, a) : Flt).1 = 0 := by show ¬ (6 : Int) = 0; decide
theorem rule_right {l : List (ByteArray × Int)} {n : Int} (h : (ruleFlt l n).1 = 0) : (ruleVal l n).ok := by
  unfold ruleFlt at h
  simp only [orF_zero, chk_zero (six_not _ _), decide_eq_true_eq] at h
  obtain ⟨h1, h2, h3, h4, h5, h6, h7⟩ := h
  have y := year_le (fx l 2)
  have o := off_in (fx l 8) 43200 (by decide)
  refine ⟨⟨by show 1 ≤ yearN _; omega, by show yearN _ ≤ _; omega⟩, to_right h3, spot_right h5, ⟨by show _ ≤ (offN _ _).1; omega, by show (offN _ _).1 ≤ _; omega⟩, h1, ?_, ?_⟩
  · show ¬ (if fx l 9 = dashT then _ else _) = dashT
    split
    · decide
    · assumption
  · show (if fx l 9 = dashT then _ else _) = _ ∨ lettersB (if fx l 9 = dashT then _ else _) = true
    split
    · exact .inl rfl
    · exact .inr h7
theorem era_right {l : List (ByteArray × Int)} {i : Nat} {n : Int} (h : (eraFlt l i n).1 = 0) : (eraVal l i n).ok := by
  unfold eraFlt at h
  simp only [orF_zero, chk_zero (six_not _ _)] at h
  obtain ⟨h1, h2, h3, h4⟩ := h
  have o := off_in (fx l i) 86400 (by decide)
  have o2 := off_in (fx l (i + 1)) 43200 (by decide)
  have kr : 0 ≤ eraKind (fx l (i + 1)) ∧ eraKind (fx l (i + 1)) ≤ 2 := by unfold eraKind; (repeat' split) <;> omega
  refine ⟨⟨by show _ < (offN _ _).1; omega, by show (offN _ _).1 < _; omega⟩, ?_, h3, kr, fun c => if_neg c, fun c => if_neg c, ?_, ?_, ?_⟩
  · show -43200 ≤ (if eraKind (fx l (i + 1)) = 1 then _ else _) ∧ (if eraKind (fx l (i + 1)) = 1 then _ else _) ≤ 43200
    split
    · omega
    · omega
  · intro c
    have c' : eraKind (fx l (i + 1)) = 2 := c
    show setB (if eraKind (fx l (i + 1)) = 2 then _ else _) = true
    rw [if_pos c']
    unfold eraKind at c'
    unfold eraSave at h2
    by_cases d : fx l (i + 1) = dashT
    · rw [if_pos d] at c'; exact absurd c' (by decide)
    rw [if_neg d] at c' h2
    by_cases e : namely (fx l (i + 1)) = true
    · rw [if_pos e] at h2
      exact (chk_zero (six_not _ _)).1 h2
    · rw [if_neg e] at c'; exact absurd c' (by decide)
  · intro c
    have c' : i + 3 < l.length := of_decide_eq_true c
    rw [if_pos c'] at h4
    simp only [orF_zero, chk_zero (six_not _ _), decide_eq_true_eq] at h4
    have y := year_le (fx l (i + 3))
    show (1 ≤ (if i + 3 < l.length then _ else _) ∧ (if i + 3 < l.length then _ else _) ≤ 9999) ∧ (if i + 3 < l.length then _ else _ : Sp).ok
    rw [if_pos c', if_pos c']
    exact ⟨by omega, spot_right h4.2⟩
  · intro c
    have c' : ¬ i + 3 < l.length := of_decide_eq_false c
    exact ⟨if_neg c', if_neg c'⟩
/-! ### all lines -/
def chainE : List Er → Prop
  | [] => False
  | [_] => True
  | x :: y :: r => x.til = true ∧ chainE (y :: r)
theorem chain_snoc (x : Er) : ∀ es : List Er, chainE es → (⟨⟨#[]⟩, es⟩ : Zn).til = true → chainE (es ++ [x])
  | [], h, _ => False.elim h
  | [_], _, t => ⟨t, trivial⟩
  | _ :: u :: r, h, t => ⟨h.1, chain_snoc x (u :: r) h.2 t⟩
theorem chain_til : ∀ es : List Er, chainE es → (⟨⟨#[]⟩, es⟩ : Zn).til = false → tilOk es
  | [], h, _ => h
  | [_], _, t => t
  | _ :: u :: r, h, t => ⟨h.1, chain_til (u :: r) h.2 t⟩
def preZ (z : Zn) : Prop := placeB z.name = true ∧ z.eras.length ≤ 40 ∧ (∀ x ∈ z.eras, x.ok) ∧ chainE z.eras
/-- what has been read so far is right, but that the last zone may want another era -/
structure preS (S : Sr) : Prop where
  n1 : S.rules.length ≤ 200
  n2 : S.zones.length ≤ 50
  n3 : S.links.length ≤ 100
  kr : ∀ x ∈ S.rules, x.ok
  kk : ∀ x ∈ S.links, x.ok
  kz : S.zones = [] ∨ ∃ Z z, S.zones = Z ++ [z] ∧ preZ z ∧ ∀ u ∈ Z, u.ok
theorem preS.ok {S : Sr} (h : preS S) (t : S.til = false) : S.ok := by
  refine ⟨h.n1, h.n2, h.n3, h.kr, ?_, h.kk⟩
  rcases h.kz with e | ⟨Z, z, e, pz, pu⟩
  · rw [e]; intro z hz; cases hz
  · intro u hu
    rw [e] at hu
    rcases List.mem_append.1 hu with hu | hu
    · exact pu u hu
    · obtain rfl := List.mem_singleton.1 hu
      have : u.til = false := by
        have a := (til_last S.rules Z u S.links).1
        rw [← e] at a
        exact a.symm.trans t
      exact ⟨pz.1, pz.2.1, pz.2.2.1, chain_til _ pz.2.2.2 this⟩
theorem pre_none : preS .none := ⟨by decide, by decide, by decide, fun x h => (by cases h), fun x h => (by cases h), .inl rfl⟩
theorem twelve_not (n a : Int) : ¬ ((12, n, a) : Flt).1 = 0 := by show ¬ (12 : Int) = 0; decide
theorem line_right {S : Sr} {l : List (ByteArray × Int)} {all : ByteArray} {n : Int} (p : preS S) (h : (lineFlt S l all n).1 = 0) : preS (lineSrc S l n) := by
  unfold lineFlt at h
  unfold lineSrc
  by_cases t : S.til = true
  · rw [if_pos t] at h ⊢
    simp only [orF_zero, chk_zero (twelve_not _ _), decide_eq_true_eq] at h
    obtain ⟨h1, h2, h3⟩ := h
    rcases p.kz with e | ⟨Z, z, e, pz, pu⟩
    · unfold Sr.til at t
      rw [e] at t
      cases t
    · have zt : z.til = true := by
        have a := (til_last S.rules Z z S.links).1
        rw [← e] at a
        exact a.symm.trans t
      have ze : z.eras.length < 40 := by
        have a := (til_last S.rules Z z S.links).2
        rw [← e] at a
        have : S.eras = z.eras.length := a
        omega
      refine ⟨p.n1, ?_, p.n3, p.kr, p.kk, .inr ⟨Z, ⟨z.name, z.eras ++ [eraVal l 0 n]⟩, ?_, ⟨pz.1, ?_, ?_, chain_snoc _ _ pz.2.2.2 zt⟩, pu⟩⟩
      · have := p.n2
        show (addTo _ S.zones).length ≤ 50
        rw [e, addTo_last]
        rw [e] at this
        simpa using this
      · show addTo _ S.zones = _
        rw [e, addTo_last]
      · show (z.eras ++ [_]).length ≤ 40
        rw [List.length_append]
        simp
        omega
      · intro x hx
        rcases List.mem_append.1 hx with hx | hx
        · exact pz.2.2.1 x hx
        · obtain rfl := List.mem_singleton.1 hx
          exact era_right h3
  rw [if_neg t] at h ⊢
  have tf : S.til = false := by simpa using t
  have ok := p.ok tf
  by_cases r : fx l 0 = ruleT
  · rw [if_pos r] at h ⊢
    simp only [orF_zero, chk_zero (twelve_not _ _), decide_eq_true_eq] at h
    obtain ⟨h1, h2, h3⟩ := h
    refine ⟨?_, p.n2, p.n3, fun x hx => ?_, p.kk, p.kz⟩
    · show (S.rules ++ [_]).length ≤ 200
      rw [List.length_append]; simp; omega
    · rcases List.mem_append.1 hx with hx | hx
      · exact p.kr x hx
      · obtain rfl := List.mem_singleton.1 hx
        exact rule_right h3
  rw [if_neg r] at h ⊢
  by_cases z : fx l 0 = zoneT
  · rw [if_pos z] at h ⊢
    simp only [orF_zero, chk_zero (twelve_not _ _), chk_zero (six_not _ _), decide_eq_true_eq] at h
    obtain ⟨h1, h2, h3, h4⟩ := h
    refine ⟨p.n1, ?_, p.n3, p.kr, p.kk, .inr ⟨S.zones, _, rfl, ⟨h3, by show 1 ≤ 40; decide, fun x hx => ?_, trivial⟩, ok.2.2.2.2.1⟩⟩
    · show (S.zones ++ [_]).length ≤ 50
      rw [List.length_append]; simp; omega
    · obtain rfl := List.mem_singleton.1 hx
      exact era_right h4
  rw [if_neg z] at h ⊢
  by_cases k : fx l 0 = linkT
  · rw [if_pos k] at h
    simp only [orF_zero, chk_zero (twelve_not _ _), chk_zero (six_not _ _), decide_eq_true_eq] at h
    obtain ⟨h1, h2, h3, h4⟩ := h
    refine ⟨p.n1, p.n2, ?_, p.kr, fun x hx => ?_, p.kz⟩
    · show (S.links ++ [_]).length ≤ 100
      rw [List.length_append]; simp; omega
    · rcases List.mem_append.1 hx with hx | hx
      · exact p.kk x hx
      · obtain rfl := List.mem_singleton.1 hx
        exact ⟨h3, h4⟩
  · rw [if_neg k] at h
    exact absurd h (by show ¬ (13 : Int) = 0; decide)
theorem step_right {S : Sr} {t : ByteArray} {n : Int} (p : preS S) (h : (lineStep S t n).1.1 = 0) : preS (lineStep S t n).2 := by
  unfold lineStep at h ⊢
  by_cases e : (splitC t).2.2 = 0
  · rw [if_neg (fun c => c e)] at h ⊢
    by_cases b : (splitC t).1 = []
    · rw [if_pos b]; exact p
    · rw [if_neg b] at h ⊢
      exact line_right p h
  · rw [if_pos e] at h; exact absurd h e
theorem go_right : ∀ (ts : List ByteArray) (n : Int) (S : Sr), preS S → (linesGo ts n S).1.1 = 0 → preS (linesGo ts n S).2
  | [], _, _, p, _ => p
  | t :: r, n, S, p, h => by
    unfold linesGo at h ⊢
    by_cases c : (lineStep S t n).1.1 = 0
    · rw [if_pos c] at h ⊢
      exact go_right r (n + 1) _ (step_right p c) h
    · rw [if_neg c] at h; exact absurd h c
/-- WHAT IS READ IS RIGHT. -/
theorem src_right {s : ByteArray} (h : (srcRes s).2.1 = 0) : (srcRes s).1.ok := by
  unfold srcRes at h ⊢
  split
  · rename_i c; rw [if_pos c] at h; exact absurd h (by decide)
  rename_i c
  rw [if_neg c] at h
  by_cases e : (linesGo (lnsFrom s 0 0) 1 .none).1.1 = 0
  case neg => rw [if_pos e] at h; exact absurd h e
  rw [if_neg (fun d => d e)] at h ⊢
  by_cases t : (linesGo (lnsFrom s 0 0) 1 .none).2.til = true
  · rw [if_pos t] at h; exact absurd h (by show ¬ (14 : Int) = 0; decide)
  · rw [if_neg t]
    exact (go_right _ _ _ pre_none e).ok (by simpa using t)
/-- with a fault there is no source -/
theorem src_none {s : ByteArray} (h : ¬ (srcRes s).2.1 = 0) : (srcRes s).1 = .none := by
  unfold srcRes at h ⊢
  (repeat' split) <;> first | rfl | skip
  rename_i c d e
  rw [if_neg c, if_neg d, if_neg e] at h
  exact absurd rfl h
end Go.Proofs.YtnkmlfbnfndfpaaGreatDoor
/- Layer 10: what is read of a short text is short when it is written. No program here. -/
namespace Go.Proofs.YtnkmlfbnfndfpaaGreatDoor
open Go.RowKit
theorem split_len {s : ByteArray} : ∀ (f : Nat) (out : List (ByteArray × Int)) (i : Nat), i ≤ s.size → (splitGo s f out i).1.length ≤ out.length + (s.size - i) := by
  intro f
  induction f with
  | zero => intro out i _; exact Nat.zero_le _
  | succ f ih =>
    intro out i hi
    unfold splitGo
    split
    case isFalse => show out.length ≤ _; omega
    rename_i h
    split
    · show out.length ≤ _; omega
    split
    · have := ih out (i + 1) (by omega); omega
    split
    · exact Nat.zero_le _
    rename_i nb
    split
    · exact Nat.zero_le _
    split
    · split
      · exact Nat.zero_le _
      · rename_i e he
        have hq := quoAt_in (s.size - (i + 1)) (i + 1) (Nat.le_refl _) e he
        split
        · exact Nat.zero_le _
        · split
          · exact Nat.zero_le _
          · have := ih (out ++ [(s.extract (i + 1) e, (i : Int))]) (e + 1) (by omega)
            rw [List.length_append, List.length_singleton] at this
            omega
    · rename_i q
      have b : bareB s[i].toNat = true := by
        apply Classical.byContradiction
        intro c
        exact nb ⟨q, by simpa using c⟩
      have hb := bareEnd_lt h b
      split
      · exact Nat.zero_le _
      · have := ih (out ++ [(s.extract i (bareEnd s i), (i : Int))]) (bareEnd s i) hb.2
        rw [List.length_append, List.length_singleton] at this
        omega
theorem fields_le {s : ByteArray} : (splitRes s).1.length ≤ s.size := by
  unfold splitRes
  split
  · exact Nat.zero_le _
  · have := split_len (s := s) (s.size + 1) [] 0 (Nat.zero_le _)
    simpa using this
theorem fieldsC_le {s : ByteArray} : (splitC s).1.length ≤ s.size := by
  unfold splitC fixR
  split
  · exact Nat.zero_le _
  · split
    · exact Nat.zero_le _
    · exact fields_le
theorem count_zero {l : List (ByteArray × Int)} {all : ByteArray} {n : Int} {x y : Nat} (h : (countRes l all n x y).1 = 0) : x ≤ l.length := by
  unfold countRes at h
  split at h
  · exact absurd (show (14 : Int) = 0 from h) (by decide)
  · omega
theorem line_three {S : Sr} {l : List (ByteArray × Int)} {all : ByteArray} {n : Int} (h : (lineFlt S l all n).1 = 0) : 3 ≤ l.length := by
  unfold lineFlt at h
  (repeat' split at h) <;> first | (exact absurd (show (13 : Int) = 0 from h) (by decide)) | skip
  all_goals
    simp only [orF_zero] at h
    have := count_zero h.2.1
    omega
def nLines (S : Sr) : Nat := (srcLines S).length
theorem nLines_is (S : Sr) : nLines S = S.rules.length + (S.zones.flatMap zoneLines).length + S.links.length := by
  unfold nLines srcLines
  rw [List.length_append, List.length_append, List.length_map, List.length_map]
theorem addTo_len (x : Er) : ∀ Z : List Zn, ((addTo x Z).flatMap zoneLines).length ≤ (Z.flatMap zoneLines).length + 1
  | [] => Nat.zero_le _
  | [⟨nm, []⟩] => by show 1 ≤ 1 + 1; decide
  | [⟨nm, y :: r⟩] => by
    show ([⟨nm, y :: (r ++ [x])⟩].flatMap zoneLines).length ≤ ([⟨nm, y :: r⟩].flatMap zoneLines).length + 1
    rw [List.flatMap_singleton, List.flatMap_singleton]
    show (((r ++ [x]).map eraTexts).length + 1) ≤ (r.map eraTexts).length + 1 + 1
    rw [List.length_map, List.length_map, List.length_append]
    exact Nat.le_refl _
  | z :: y :: r => by
    have := addTo_len x (y :: r)
    show ((z :: addTo x (y :: r)).flatMap zoneLines).length ≤ _
    rw [List.flatMap_cons, List.flatMap_cons, List.length_append, List.length_append]
    omega
theorem line_more (S : Sr) (l : List (ByteArray × Int)) (n : Int) : nLines (lineSrc S l n) ≤ nLines S + 1 := by
  rw [nLines_is, nLines_is]
  unfold lineSrc
  split
  · have := addTo_len (eraVal l 0 n) S.zones
    show S.rules.length + ((addTo _ S.zones).flatMap zoneLines).length + S.links.length ≤ _
    omega
  split
  · show (S.rules ++ [_]).length + (S.zones.flatMap zoneLines).length + S.links.length ≤ _
    rw [List.length_append, List.length_singleton]
    omega
  split
  · show S.rules.length + ((S.zones ++ [_]).flatMap zoneLines).length + S.links.length ≤ _
    rw [List.flatMap_append, List.length_append, List.flatMap_singleton]
    show S.rules.length + ((S.zones.flatMap zoneLines).length + 1) + S.links.length ≤ _
    omega
  · show S.rules.length + (S.zones.flatMap zoneLines).length + (S.links ++ [_]).length ≤ _
    rw [List.length_append, List.length_singleton]
    omega
def tot : List ByteArray → Nat
  | [] => 0
  | t :: r => t.size + 1 + tot r
theorem step_more {S : Sr} {t : ByteArray} {n : Int} (h : (lineStep S t n).1.1 = 0) : 4 * nLines (lineStep S t n).2 ≤ 4 * nLines S + (t.size + 1) := by
  unfold lineStep at h ⊢
  by_cases e : (splitC t).2.2 = 0
  · rw [if_neg (fun c => c e)] at h ⊢
    by_cases b : (splitC t).1 = []
    · rw [if_pos b]; show 4 * nLines S ≤ _; omega
    · rw [if_neg b] at h ⊢
      have a1 := line_three h
      have a2 := fieldsC_le (s := t)
      have a3 := line_more S (splitC t).1 n
      show 4 * nLines (lineSrc S (splitC t).1 n) ≤ _
      omega
  · rw [if_pos e] at h; exact absurd h e
theorem go_more : ∀ (ts : List ByteArray) (n : Int) (S : Sr), (linesGo ts n S).1.1 = 0 → 4 * nLines (linesGo ts n S).2 ≤ 4 * nLines S + tot ts
  | [], _, S, _ => by show 4 * nLines S ≤ _; omega
  | t :: r, n, S, h => by
    unfold linesGo at h ⊢
    by_cases c : (lineStep S t n).1.1 = 0
    · rw [if_pos c] at h ⊢
      have a1 := step_more c
      have a2 := go_more r (n + 1) _ h
      show _ ≤ 4 * nLines S + (t.size + 1 + tot r)
      omega
    · rw [if_neg c] at h; exact absurd h c
theorem tot_lns {s : ByteArray} : ∀ (d a k : Nat), s.size - k ≤ d → a ≤ k → k ≤ s.size → tot (lnsFrom s a k) ≤ s.size - a + 1 := by
  intro d
  induction d with
  | zero =>
    intro a k hd ha hk
    rw [lns_end (by omega)]
    split
    · show (s.extract a s.size).size + 1 + 0 ≤ _
      rw [ByteArray.size_extract]
      omega
    · exact Nat.zero_le _
  | succ d ih =>
    intro a k hd ha hk
    by_cases h : k < s.size
    · by_cases c : s[k] = 10
      · rw [lns_cut h c]
        have := ih (k + 1) (k + 1) (by omega) (Nat.le_refl _) (by omega)
        show (s.extract a k).size + 1 + tot _ ≤ _
        rw [ByteArray.size_extract]
        omega
      · rw [lns_on h c]
        exact ih a (k + 1) (by omega) (by omega) (by omega)
    · rw [lns_end h]
      split
      · show (s.extract a s.size).size + 1 + 0 ≤ _
        rw [ByteArray.size_extract]
        omega
      · exact Nat.zero_le _
theorem text_size : ∀ (L : List (List ByteArray)), (∀ l ∈ L, (spc l).size ≤ 280) → (textOf L).size ≤ 281 * L.length
  | [], _ => Nat.le_refl _
  | l :: r, h => by
    have h1 := h l (by simp)
    have h2 := text_size r (fun x hx => h x (List.mem_cons_of_mem _ hx))
    show (spc l ++ nlT ++ textOf r).size ≤ _
    rw [size_app, size_app, show nlT.size = 1 from rfl, List.length_cons]
    omega
theorem lines_short {S : Sr} (k : S.ok) : ∀ l ∈ srcLines S, (spc l).size ≤ 280 := by
  obtain ⟨_, _, _, kr, kz, kk⟩ := k
  intro l hl
  unfold srcLines at hl
  simp only [List.mem_append, List.mem_map, List.mem_flatMap] at hl
  rcases hl with (⟨x, hx, rfl⟩ | ⟨z, hz, hl⟩) | ⟨x, hx, rfl⟩
  · exact spc_size (ruleTexts x) 27 (fun t ht => (rule_flds (kr x hx) t ht).2.2)
  · obtain ⟨kp, _, ke, kt⟩ := kz z hz
    obtain ⟨nm, es⟩ := z
    cases es with
    | nil => exact absurd kt (fun c => c)
    | cons x q =>
      have a : ∀ y ∈ x :: q, (spc (eraTexts y)).size ≤ 196 := fun y hy => by
        have := spc_size (eraTexts y) 27 (fun t ht => (era_flds (ke y hy) t ht).2.2)
        have := era_len y
        omega
      rcases List.mem_cons.1 hl with rfl | hl
      · have e : spc ([zoneT, nm] ++ eraTexts x) = zoneT ++ ⟨#[32]⟩ ++ (nm ++ ⟨#[32]⟩ ++ spc (eraTexts x)) := by
          unfold eraTexts
          rfl
        have z := (place_bare kp).2.1
        have := a x (by simp)
        rw [e, size_app, size_app, size_app, size_app, show zoneT.size = 4 from rfl, show (⟨#[32]⟩ : ByteArray).size = 1 from rfl]
        show 4 + 1 + (nm.size + 1 + _) ≤ 280
        have z' : nm.size ≤ 40 := z
        omega
      · obtain ⟨y, hy, rfl⟩ := List.mem_map.1 hl
        have := a y (List.mem_cons_of_mem _ hy)
        omega
  · have z1 := (place_bare (kk x hx).1).2.1
    have z2 := (place_bare (kk x hx).2).2.1
    have := spc_size (linkTexts x) 40 (fun t ht => by
      unfold linkTexts at ht
      simp only [List.mem_cons, List.not_mem_nil, or_false] at ht
      rcases ht with rfl | rfl | rfl
      · decide
      · exact z1
      · exact z2)
    have l3 : (linkTexts x).length = 3 := rfl
    omega
/-- WHAT IS READ OF AT MOST 1000 BYTES IS WRITTEN IN AT MOST 100000. -/
theorem src_short {s : ByteArray} (h : (srcRes s).2.1 = 0) (z : s.size ≤ 1000) : (srcText (srcRes s).1).size ≤ 100000 := by
  have k := src_right h
  have b := text_size _ (lines_short k)
  have n : 4 * nLines (srcRes s).1 ≤ 1001 := by
    unfold srcRes at h ⊢
    rw [if_neg (by omega)] at h ⊢
    by_cases e : (linesGo (lnsFrom s 0 0) 1 .none).1.1 = 0
    case neg => rw [if_pos e] at h; exact absurd h e
    rw [if_neg (fun d => d e)] at h ⊢
    have a1 := go_more _ _ _ e
    have a2 := tot_lns (s := s) s.size 0 0 (by omega) (Nat.le_refl _) (Nat.zero_le _)
    have a3 : nLines .none = 0 := rfl
    split
    · show 4 * nLines .none ≤ _; omega
    · show 4 * nLines (linesGo (lnsFrom s 0 0) 1 .none).2 ≤ _; omega
  show (textOf (srcLines _)).size ≤ _
  have e : (srcLines (srcRes s).1).length = nLines (srcRes s).1 := rfl
  rw [e] at b
  omega
end Go.Proofs.YtnkmlfbnfndfpaaGreatDoor
/- Layer 10: rows that a call has made, pairwise apart; a source in such rows. No walk here. -/
namespace Go.Proofs.YtnkmlfbnfndfpaaGreatDoor
open Go.RowKit
/-- a row: the slice value, its elements' type and size in cells, how many there are, their cells -/
structure Own where
  v : Value
  e : TypeId
  size : Nat
  n : Nat
  xs : List Value
def Own.blk (r : Own) : Option Nat := r.v.ownBlock
def Own.own (r : Own) (w : World) (base : Nat) : Prop := w.ownsRow base r.e r.size r.v r.n r.xs
/-- the rows are owned, and apart -/
structure OwnAll (w : World) (base : Nat) (R : List Own) : Prop where
  own : ∀ r ∈ R, r.own w base
  apart : (R.filterMap Own.blk).Nodup
section
variable {w w' : World} {base : Nat} {R : List Own}
theorem OwnAll.nil (w : World) (base : Nat) : OwnAll w base [] := ⟨fun _ h => (by cases h), List.nodup_nil⟩
theorem OwnAll.sub {R' : List Own} (h : OwnAll w base R) (s : R'.Sublist R) : OwnAll w base R' := ⟨fun r hr => h.own r (s.subset hr), h.apart.sublist (s.filterMap _)⟩
theorem OwnAll.perm {R' : List Own} (h : OwnAll w base R) (p : R'.Perm R) : OwnAll w base R' := ⟨fun r hr => h.own r (p.mem_iff.1 hr), ((p.filterMap _).nodup_iff).2 h.apart⟩
theorem OwnAll.grown (h : OwnAll w base R) (g : w.grownBy w' none) : OwnAll w' base R := ⟨fun r hr => (h.own r hr).kept g (by
    cases e : r.v.ownBlock with
    | none => exact .inl rfl
    | some k => exact .inr (by simp)), h.apart⟩
theorem OwnAll.drew (h : OwnAll w base R) : OwnAll w.drew base R := ⟨fun r hr => (h.own r hr).drew, h.apart⟩
theorem OwnAll.alloc (h : OwnAll w base R) (o : Obj) : OwnAll (w.alloc o) base R := h.grown (World.grownBy_alloc _ _ _)
/-- a row with nothing in it -/
theorem OwnAll.empty (h : OwnAll w base R) (e : TypeId) (size : Nat) : OwnAll w base (⟨.slice none 0 0, e, size, 0, []⟩ :: R) := by
  refine ⟨fun r hr => ?_, ?_⟩
  · rcases List.mem_cons.1 hr with rfl | hr
    · exact World.ownsRow_nil _ _ _ _
    · exact h.own r hr
  · exact h.apart
/-- a new row, of a block made since -/
theorem OwnAll.cons (h : OwnAll w base R) (g : w.grownBy w' none) (r : Own) (o : r.own w' base) (new : ∀ k, r.v.ownBlock = some k → w.heap.size ≤ k) : OwnAll w' base (r :: R) := by
  have h' := h.grown g
  refine ⟨fun q hq => ?_, ?_⟩
  · rcases List.mem_cons.1 hq with rfl | hq
    · exact o
    · exact h'.own q hq
  · cases e : r.blk with
    | none => rw [List.filterMap_cons_none e]; exact h.apart
    | some k =>
      rw [List.filterMap_cons_some e, List.nodup_cons]
      refine ⟨fun c => ?_, h.apart⟩
      obtain ⟨q, hq, hk⟩ := List.mem_filterMap.1 c
      have := (World.ownsRow.lt (h.own q hq) k hk).2
      have := new k e
      omega
/-- the first row has grown (append): it lies where it lay, or in a new block; the others are as they were -/
theorem OwnAll.grew {r : Own} (h : OwnAll w base (r :: R)) (v : Value) (n : Nat) (xs : List Value) (o : w'.ownsRow base r.e r.size v n xs) (g : w.grownBy w' r.v.ownBlock) (at_ : v.ownBlock = r.v.ownBlock ∨ v.ownBlock = some w.heap.size) : OwnAll w' base (⟨v, r.e, r.size, n, xs⟩ :: R) := by
  have ne : ∀ q ∈ R, q.v.ownBlock = none ∨ q.v.ownBlock ≠ r.v.ownBlock := by
    intro q hq
    cases e : q.v.ownBlock with
    | none => exact .inl rfl
    | some k =>
      right
      intro c
      have ap := h.apart
      rw [List.filterMap_cons_some (show r.blk = some k from c.symm), List.nodup_cons] at ap
      exact ap.1 (List.mem_filterMap.2 ⟨q, hq, e⟩)
  refine ⟨fun q hq => ?_, ?_⟩
  · rcases List.mem_cons.1 hq with rfl | hq
    · exact o
    · exact (h.own q (List.mem_cons_of_mem _ hq)).kept g (ne q hq)
  · have apR : (R.filterMap Own.blk).Nodup := by
      have ap := h.apart
      cases e : r.blk with
      | none => rwa [List.filterMap_cons_none e] at ap
      | some k => rw [List.filterMap_cons_some e, List.nodup_cons] at ap; exact ap.2
    cases e : v.ownBlock with
    | none => rw [List.filterMap_cons_none (show (Own.blk ⟨v, r.e, r.size, n, xs⟩) = none from e)]; exact apR
    | some k =>
      rw [List.filterMap_cons_some (show (Own.blk ⟨v, r.e, r.size, n, xs⟩) = some k from e), List.nodup_cons]
      refine ⟨fun c => ?_, apR⟩
      obtain ⟨q, hq, hk⟩ := List.mem_filterMap.1 c
      have lt := (World.ownsRow.lt (h.own q (List.mem_cons_of_mem _ hq)) k hk).2
      rcases at_ with a | a
      · rcases ne q hq with b | b
        · exact absurd (b.symm.trans hk) (by simp)
        · exact b ((show q.v.ownBlock = some k from hk).trans (e.symm.trans a))
      · rw [e] at a
        cases a
        omega
end
/-! ### a source -/
def rulesO (v : Value) (l : List Rl) : Own := ⟨v, 57, 11, l.length, l.flatMap Rl.vals⟩
def erasO (v : Value) (l : List Er) : Own := ⟨v, 52, 13, l.length, l.flatMap Er.vals⟩
def linksO (v : Value) (l : List Lk) : Own := ⟨v, 59, 2, l.length, l.flatMap Lk.vals⟩
/-- the zones' row; ze: each zone with the slice of its eras -/
def zonesO (v : Value) (ze : List (Zn × Value)) : Own := ⟨v, 55, 2, ze.length, ze.flatMap fun p => p.1.vals p.2⟩
/-- a source that a call has made, in rows of its own -/
def SrcAt (w : World) (base : Nat) (S : Sr) (vr vz vl : Value) : Prop :=
  ∃ ze : List (Zn × Value), ze.map (·.1) = S.zones ∧ OwnAll w base (rulesO vr S.rules :: linksO vl S.links :: zonesO vz ze :: ze.map fun p => erasO p.2 p.1.eras)
theorem SrcAt.empty (w : World) (base : Nat) : SrcAt w base .none (.slice none 0 0) (.slice none 0 0) (.slice none 0 0) :=
  ⟨[], rfl, (((OwnAll.nil w base).empty _ _).empty _ _).empty _ _⟩
theorem SrcAt.grown {w w' : World} {base : Nat} {S : Sr} {vr vz vl : Value} (h : SrcAt w base S vr vz vl) (g : w.grownBy w' none) : SrcAt w' base S vr vz vl := by
  obtain ⟨ze, e, o⟩ := h
  exact ⟨ze, e, o.grown g⟩
/-- a rule is put to it -/
theorem SrcAt.rule {w w' : World} {base : Nat} {S : Sr} {vr vz vl v : Value} (h : SrcAt w base S vr vz vl) (x : Rl) (o : w'.ownsRow base 57 11 v (S.rules.length + 1) (S.rules.flatMap Rl.vals ++ x.vals)) (g : w.grownBy w' vr.ownBlock) (at_ : v.ownBlock = vr.ownBlock ∨ v.ownBlock = some w.heap.size) :
    SrcAt w' base ⟨S.rules ++ [x], S.zones, S.links⟩ v vz vl := by
  obtain ⟨ze, e, a⟩ := h
  refine ⟨ze, e, ?_⟩
  have := OwnAll.grew a v (S.rules.length + 1) (S.rules.flatMap Rl.vals ++ x.vals) o g at_
  have e2 : rulesO v (S.rules ++ [x]) = ⟨v, 57, 11, S.rules.length + 1, S.rules.flatMap Rl.vals ++ x.vals⟩ := by
    unfold rulesO
    rw [List.length_append, List.flatMap_append, List.flatMap_singleton]
    rfl
  show OwnAll w' base (rulesO v (S.rules ++ [x]) :: linksO vl S.links :: zonesO vz ze :: ze.map fun p => erasO p.2 p.1.eras)
  rw [e2]
  exact this
/-- a link is put to it -/
theorem SrcAt.link {w w' : World} {base : Nat} {S : Sr} {vr vz vl v : Value} (h : SrcAt w base S vr vz vl) (x : Lk) (o : w'.ownsRow base 59 2 v (S.links.length + 1) (S.links.flatMap Lk.vals ++ x.vals)) (g : w.grownBy w' vl.ownBlock) (at_ : v.ownBlock = vl.ownBlock ∨ v.ownBlock = some w.heap.size) :
    SrcAt w' base ⟨S.rules, S.zones, S.links ++ [x]⟩ vr vz v := by
  obtain ⟨ze, e, a⟩ := h
  refine ⟨ze, e, ?_⟩
  have p := a.perm (List.Perm.swap (rulesO vr S.rules) (linksO vl S.links) _)
  have := OwnAll.grew p v (S.links.length + 1) (S.links.flatMap Lk.vals ++ x.vals) o g at_
  have e2 : linksO v (S.links ++ [x]) = ⟨v, 59, 2, S.links.length + 1, S.links.flatMap Lk.vals ++ x.vals⟩ := by
    unfold linksO
    rw [List.length_append, List.flatMap_append, List.flatMap_singleton]
    rfl
  show OwnAll w' base (rulesO vr S.rules :: linksO v (S.links ++ [x]) :: zonesO vz ze :: ze.map fun p => erasO p.2 p.1.eras)
  rw [e2]
  exact this.perm (List.Perm.swap _ _ _)
theorem perm_z {a b c : Own} {L : List Own} : (c :: a :: b :: L).Perm (a :: b :: c :: L) := (List.Perm.swap a c (b :: L)).trans ((List.Perm.swap b c L).cons a)
/-- a zone with one era is put to it: the era's row first, then the zones' -/
theorem SrcAt.zone {w w1 w2 : World} {base : Nat} {S : Sr} {vr vz vl ve v : Value} (h : SrcAt w base S vr vz vl) (nm : ByteArray) (x : Er) (g1 : w.grownBy w1 none) (oe : w1.ownsRow base 52 13 ve 1 x.vals) (new : ∀ k, ve.ownBlock = some k → w.heap.size ≤ k)
    (oz : ∀ ze : List (Zn × Value), ze.map (·.1) = S.zones → w1.ownsRow base 55 2 vz ze.length (ze.flatMap fun p => p.1.vals p.2) → w2.ownsRow base 55 2 v (ze.length + 1) ((ze.flatMap fun p => p.1.vals p.2) ++ [.string nm, ve]))
    (g2 : w1.grownBy w2 vz.ownBlock) (at_ : v.ownBlock = vz.ownBlock ∨ v.ownBlock = some w1.heap.size) : SrcAt w2 base ⟨S.rules, S.zones ++ [⟨nm, [x]⟩], S.links⟩ vr v vl := by
  obtain ⟨ze, e, a⟩ := h
  refine ⟨ze ++ [(⟨nm, [x]⟩, ve)], by rw [List.map_append, e]; rfl, ?_⟩
  have oe' : (erasO ve [x]).own w1 base := by
    unfold Own.own erasO
    rw [List.flatMap_singleton]
    exact oe
  have a1 := a.cons g1 (erasO ve [x]) oe' new
  have p1 : (zonesO vz ze :: rulesO vr S.rules :: linksO vl S.links :: erasO ve [x] :: ze.map fun p => erasO p.2 p.1.eras).Perm (erasO ve [x] :: rulesO vr S.rules :: linksO vl S.links :: zonesO vz ze :: ze.map fun p => erasO p.2 p.1.eras) :=
    perm_z.trans ((List.Perm.swap (erasO ve [x]) (zonesO vz ze) _).cons _ |>.cons _ |>.trans perm_z.symm)
  have a2 := a1.perm p1
  have a3 := OwnAll.grew a2 v (ze.length + 1) ((ze.flatMap fun p => p.1.vals p.2) ++ [.string nm, ve]) (oz ze e (a2.own _ (List.mem_cons_self ..))) g2 at_
  have e2 : zonesO v (ze ++ [(⟨nm, [x]⟩, ve)]) = ⟨v, 55, 2, ze.length + 1, (ze.flatMap fun p => p.1.vals p.2) ++ [.string nm, ve]⟩ := by
    unfold zonesO
    rw [List.length_append, List.flatMap_append, List.flatMap_singleton]
    rfl
  show OwnAll w2 base (rulesO vr S.rules :: linksO vl S.links :: zonesO v (ze ++ [(⟨nm, [x]⟩, ve)]) :: (ze ++ [((⟨nm, [x]⟩ : Zn), ve)]).map fun p => erasO p.2 p.1.eras)
  rw [e2, List.map_append]
  refine a3.perm ?_
  refine List.Perm.trans ?_ perm_z.symm
  exact ((List.perm_append_singleton _ _).cons _ |>.cons _ |>.cons _)
/-- the last zone's eras come first -/
theorem SrcAt.last {w : World} {base : Nat} {S : Sr} {vr vz vl : Value} {Z : List Zn} {z : Zn} (h : SrcAt w base S vr vz vl) (e : S.zones = Z ++ [z]) :
    ∃ (ze : List (Zn × Value)) (v0 : Value), ze.map (·.1) = Z ∧ OwnAll w base (erasO v0 z.eras :: zonesO vz (ze ++ [(z, v0)]) :: rulesO vr S.rules :: linksO vl S.links :: ze.map fun p => erasO p.2 p.1.eras) := by
  obtain ⟨ze, e1, a⟩ := h
  rw [e] at e1
  obtain ⟨ys, y, rfl⟩ : ∃ ys y, ze = ys ++ [y] := by
    rcases List.eq_nil_or_concat ze with rfl | ⟨ys, y, h⟩
    · exact absurd (congrArg List.length e1) (by simp)
    · exact ⟨ys, y, by rw [h, List.concat_eq_append]⟩
  rw [List.map_append] at e1
  have e2 := List.append_inj' e1 rfl
  obtain ⟨y1, v0⟩ := y
  have e3 : y1 = z := by simpa using e2.2
  subst e3
  refine ⟨ys, v0, e2.1, a.perm ?_⟩
  rw [List.map_append]
  exact (perm_z.cons _).trans (List.perm_append_singleton (erasO v0 y1.eras) (rulesO vr S.rules :: linksO vl S.links :: zonesO vz (ys ++ [(y1, v0)]) :: ys.map fun p => erasO p.2 p.1.eras)).symm
theorem zcells_set (ze : List (Zn × Value)) (z z' : Zn) (v0 v' : Value) (en : z'.name = z.name) : ((ze ++ [(z, v0)]).flatMap fun p => p.1.vals p.2).set (2 * ze.length + 1) v' = (ze ++ [(z', v')]).flatMap fun p => p.1.vals p.2 := by
  have hl : (ze.flatMap fun p => p.1.vals p.2).length = 2 * ze.length := by
    induction ze with
    | nil => rfl
    | cons p r ih => rw [List.flatMap_cons, List.length_append, ih, List.length_cons]; show 2 + _ = _; omega
  rw [List.flatMap_append, List.flatMap_append, List.flatMap_singleton, List.flatMap_singleton, List.set_append_right _ _ (by omega), hl, show 2 * ze.length + 1 - 2 * ze.length = 1 by omega]
  unfold Zn.vals
  rw [en]
  rfl
/-- an era is put to the last zone: its eras' row first (w1), then the zone's cell (w2) -/
theorem SrcAt.era {w w1 : World} {base : Nat} {S : Sr} {vr vl : Value} {gz n c : Nat} {Z : List Zn} {z : Zn} {ze : List (Zn × Value)} {v0 v' : Value} (e : ze.map (·.1) = Z) (x : Er)
    (a : OwnAll w base (erasO v0 z.eras :: zonesO (.slice (some ⟨gz, 0, none⟩) n c) (ze ++ [(z, v0)]) :: rulesO vr S.rules :: linksO vl S.links :: ze.map fun p => erasO p.2 p.1.eras)) (hn : n = ze.length + 1)
    (o : w1.ownsRow base 52 13 v' (z.eras.length + 1) (z.eras.flatMap Er.vals ++ x.vals)) (g1 : w.grownBy w1 v0.ownBlock) (at_ : v'.ownBlock = v0.ownBlock ∨ v'.ownBlock = some w.heap.size) :
    SrcAt (w1.setCell ⟨gz, 2 * ze.length + 1, none⟩ v') base ⟨S.rules, Z ++ [⟨z.name, z.eras ++ [x]⟩], S.links⟩ vr (.slice (some ⟨gz, 0, none⟩) n c) vl := by
  have a1 := OwnAll.grew a v' (z.eras.length + 1) (z.eras.flatMap Er.vals ++ x.vals) o g1 at_
  have e2 : erasO v' (z.eras ++ [x]) = ⟨v', 52, 13, z.eras.length + 1, z.eras.flatMap Er.vals ++ x.vals⟩ := by
    unfold erasO
    rw [List.length_append, List.flatMap_append, List.flatMap_singleton]
    rfl
  have a2 : OwnAll w1 base (erasO v' (z.eras ++ [x]) :: zonesO (.slice (some ⟨gz, 0, none⟩) n c) (ze ++ [(z, v0)]) :: rulesO vr S.rules :: linksO vl S.links :: ze.map fun p => erasO p.2 p.1.eras) := by rw [e2]; exact a1
  have a3 := a2.perm (List.Perm.swap (erasO v' (z.eras ++ [x])) (zonesO (.slice (some ⟨gz, 0, none⟩) n c) (ze ++ [(z, v0)])) _)
  have oz : w1.ownsRow base 55 2 (.slice (some ⟨gz, 0, none⟩) n c) n ((ze ++ [(z, v0)]).flatMap fun p => p.1.vals p.2) := by
    have := a3.own _ (List.mem_cons_self ..)
    unfold Own.own zonesO at this
    rw [List.length_append, List.length_singleton, ← hn] at this
    exact this
  obtain ⟨s1, s2⟩ := oz.stored (2 * ze.length + 1) v'
  rw [zcells_set ze z ⟨z.name, z.eras ++ [x]⟩ v0 v' rfl] at s1
  have a4 := OwnAll.grew a3 (.slice (some ⟨gz, 0, none⟩) n c) n _ s1 s2 (.inl rfl)
  refine ⟨ze ++ [(⟨z.name, z.eras ++ [x]⟩, v')], by rw [List.map_append, e]; rfl, ?_⟩
  have e3 : zonesO (.slice (some ⟨gz, 0, none⟩) n c) (ze ++ [(⟨z.name, z.eras ++ [x]⟩, v')]) = ⟨.slice (some ⟨gz, 0, none⟩) n c, 55, 2, n, (ze ++ [((⟨z.name, z.eras ++ [x]⟩ : Zn), v')]).flatMap fun p => p.1.vals p.2⟩ := by
    unfold zonesO
    rw [List.length_append, List.length_singleton, hn]
  rw [e3, List.map_append]
  refine a4.perm ?_
  exact (List.perm_append_singleton (erasO v' (z.eras ++ [x])) (rulesO vr S.rules :: linksO vl S.links :: _ :: ze.map fun p => erasO p.2 p.1.eras)).trans ((perm_z.symm.cons _).trans (List.Perm.swap _ _ _))
/-! ### a source whose rows lie ahead of lo, or from hi on: what is written between is none of it -/
def rowsOf (S : Sr) (vr vz vl : Value) (ze : List (Zn × Value)) : List Own := rulesO vr S.rules :: linksO vl S.links :: zonesO vz ze :: ze.map fun p => erasO p.2 p.1.eras
def SrcIn (w : World) (base lo hi : Nat) (S : Sr) (vr vz vl : Value) : Prop :=
  ∃ ze : List (Zn × Value), ze.map (·.1) = S.zones ∧ OwnAll w base (rowsOf S vr vz vl ze) ∧ ∀ r ∈ rowsOf S vr vz vl ze, ∀ k, r.blk = some k → k < lo ∨ hi ≤ k
section
variable {w w' : World} {base lo hi : Nat} {S : Sr} {vr vz vl : Value}
theorem SrcIn.src (h : SrcIn w base lo hi S vr vz vl) : SrcAt w base S vr vz vl := by
  obtain ⟨ze, e, o, _⟩ := h
  exact ⟨ze, e, o⟩
theorem SrcIn.grown (h : SrcIn w base lo hi S vr vz vl) (g : w.grownBy w' none) : SrcIn w' base lo hi S vr vz vl := by
  obtain ⟨ze, e, o, b⟩ := h
  exact ⟨ze, e, o.grown g, b⟩
theorem SrcIn.drew (h : SrcIn w base lo hi S vr vz vl) : SrcIn w.drew base lo hi S vr vz vl := by
  obtain ⟨ze, e, o, b⟩ := h
  exact ⟨ze, e, o.drew, b⟩
theorem SrcIn.below (h : SrcIn w base lo hi S vr vz vl) (k : Below w.heap.size w w') : SrcIn w' base lo hi S vr vz vl := h.grown ⟨k.os, k.tape, k.output, k.size, fun i hi _ => k.block i hi⟩
theorem SrcIn.store (h : SrcIn w base lo hi S vr vz vl) {b : Nat} (l : lo ≤ b) (u : b < hi) (i : Nat) (v : Value) : SrcIn (w.setCell ⟨b, i, none⟩ v) base lo hi S vr vz vl := by
  obtain ⟨ze, e, o, hb⟩ := h
  refine ⟨ze, e, ⟨fun r hr => ?_, o.apart⟩, hb⟩
  refine World.ownsRow.kept (row := some b) (o.own r hr) ⟨rfl, rfl, rfl, by simp, fun k _ hk => heap_setCell_other w ⟨b, i, none⟩ k v (fun e => hk (by simp [e]))⟩ ?_
  cases eb : r.v.ownBlock with
  | none => exact .inl rfl
  | some k =>
    right
    intro c
    cases c
    rcases hb r hr b eb with c | c <;> omega
theorem SrcIn.stores (h : SrcIn w base lo hi S vr vz vl) {b : Nat} (l : lo ≤ b) (u : b < hi) : ∀ (vs : List Value) (i : Nat), SrcIn (setAll w b i vs) base lo hi S vr vz vl := by
  intro vs
  induction vs generalizing w with
  | nil => intro i; exact h
  | cons v r ih => intro i; exact ih (h.store l u i v) (i + 1)
theorem SrcIn.rule (h : SrcIn w base lo hi S vr vz vl) {v : Value} (x : Rl) (o : w'.ownsRow base 57 11 v (S.rules.length + 1) (S.rules.flatMap Rl.vals ++ x.vals)) (g : w.grownBy w' vr.ownBlock) (at_ : v.ownBlock = vr.ownBlock ∨ v.ownBlock = some w.heap.size) (hh : hi ≤ w.heap.size) :
    SrcIn w' base lo hi ⟨S.rules ++ [x], S.zones, S.links⟩ v vz vl := by
  obtain ⟨ze, e, a, b⟩ := h
  refine ⟨ze, e, ?_, fun r hr k hk => ?_⟩
  · have := OwnAll.grew a v (S.rules.length + 1) (S.rules.flatMap Rl.vals ++ x.vals) o g at_
    have e2 : rulesO v (S.rules ++ [x]) = ⟨v, 57, 11, S.rules.length + 1, S.rules.flatMap Rl.vals ++ x.vals⟩ := by
      unfold rulesO
      rw [List.length_append, List.flatMap_append, List.flatMap_singleton]
      rfl
    show OwnAll w' base (rulesO v (S.rules ++ [x]) :: linksO vl S.links :: zonesO vz ze :: ze.map fun p => erasO p.2 p.1.eras)
    rw [e2]
    exact this
  · rcases List.mem_cons.1 hr with rfl | hr
    · have hk' : v.ownBlock = some k := hk
      rcases at_ with c | c
      · exact b _ (List.mem_cons_self ..) k (c.symm.trans hk')
      · rw [hk'] at c
        cases c
        exact .inr hh
    · exact b r (List.mem_cons_of_mem _ hr) k hk
end
end Go.Proofs.YtnkmlfbnfndfpaaGreatDoor
