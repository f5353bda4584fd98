import Derived.Test.YtpbgddoicjjhnaaGreatDoorYGu
import Derived.Test.YtpbgddoicjjhnaaGreatDoorYGua
import Derived.Test.YtpbgddoicjjhnaaGreatDoorYGq
import Derived.Deep.RegionHeld3
import Derived.Outline
import Derived.Test.YtpbgddoicjjhnaaGreatDoorYUdig
import Derived.BigQuiet
import Derived.Test.YtpbgddoicjjhnaaGreatDoorYGc
import Derived.Test.YtpbgddoicjjhnaaGreatDoorYGhs
import Derived.Test.YtpbgddoicjjhnaaGreatDoorYGm
import Derived.Maps.AppendAt
set_option maxRecDepth 100000
set_option maxHeartbeats 64000000
namespace Go.Proofs.YtpbgddoicjjhnaaGreatDoor
open Go.RowKit
def ltrB (c : Nat) : Bool := decide (97 ≤ c ∧ c ≤ 122) || decide (65 ≤ c ∧ c ≤ 90)
def dgtB (c : Nat) : Bool := decide (48 ≤ c ∧ c ≤ 57)
def allB (p : Nat → Bool) (s : ByteArray) : Nat → Bool
  | 0 => true
  | k + 1 => allB p s k && (if h : k < s.size then p s[k].toNat else true)
theorem allB_succ {p : Nat → Bool} {s : ByteArray} {k : Nat} (h : k < s.size) : allB p s (k + 1) = (allB p s k && p s[k].toNat) := by
  show (allB p s k && (if h : k < s.size then _ else true)) = _
  rw [dif_pos h]
theorem allB_off {p : Nat → Bool} {s : ByteArray} {k : Nat} : ∀ (d : Nat), allB p s k = false → allB p s (k + d) = false := by
  intro d
  induction d with
  | zero => intro h; exact h
  | succ d ih => intro h; show (allB p s (k + d) && _) = false; rw [ih h]; rfl
theorem allB_no {p : Nat → Bool} {s : ByteArray} {k : Nat} (h : k < s.size) (e : p s[k].toNat = false) : allB p s s.size = false := by
  have h1 : allB p s (k + 1) = false := by rw [allB_succ h, e, Bool.and_false]
  have := allB_off (s.size - (k + 1)) h1
  rwa [show k + 1 + (s.size - (k + 1)) = s.size by omega] at this
theorem allB_on {p : Nat → Bool} {s : ByteArray} {k : Nat} (h : k < s.size) (a : allB p s k = true) (e : p s[k].toNat = true) : allB p s (k + 1) = true := by rw [allB_succ h, a, e]; rfl
def SameV (w : World) (v : Value) (e : Ending) (w' : World) : Prop := e = .returned v ∧ w = w'
def kindB (l : List Nat) (c : Nat) : Bool := ltrB c || dgtB c || l.contains c
def setB (s : ByteArray) : Bool := if h : 0 < s.size ∧ s.size ≤ 20 then !dgtB s[0].toNat && !(s[0].toNat == 45) && allB (kindB [95, 45]) s s.size else false
def lettersB (s : ByteArray) : Bool := allB (kindB [43, 45]) s s.size && decide (1 ≤ s.size ∧ s.size ≤ 8)
abbrev Flt := Int × Int × Int
def Flt.val (f : Flt) : Value := .agg #[.int .i64 f.1, .int .i64 f.2.1, .int .i64 f.2.2]
def fmtGo (s : ByteArray) (k p q : Nat) : Option (Nat × Nat) :=
  if h : k < s.size then
    (if s[k].toNat = 37 then (if h' : k + 1 < s.size then (if s[k + 1].toNat = 115 ∨ s[k + 1].toNat = 122 then fmtGo s (k + 1) (p + 1) q else none) else none)
    else if s[k].toNat = 47 then (if k = 0 ∨ k + 1 = s.size then none else fmtGo s (k + 1) p (q + 1))
    else if kindB [43, 45] s[k].toNat = true then fmtGo s (k + 1) p q else none) else some (p, q)
termination_by s.size - k
theorem fmt_pc {s : ByteArray} {k p q : Nat} (h : k < s.size) (e : s[k].toNat = 37) (h' : k + 1 < s.size) (z : s[k + 1].toNat = 115 ∨ s[k + 1].toNat = 122) : fmtGo s k p q = fmtGo s (k + 1) (p + 1) q := by rw [fmtGo, dif_pos h, if_pos e, dif_pos h', if_pos z]
theorem fmt_pc0 {s : ByteArray} {k p q : Nat} (h : k < s.size) (e : s[k].toNat = 37) (h' : ¬ k + 1 < s.size) : fmtGo s k p q = none := by rw [fmtGo, dif_pos h, if_pos e, dif_neg h']
theorem fmt_pc1 {s : ByteArray} {k p q : Nat} (h : k < s.size) (e : s[k].toNat = 37) (h' : k + 1 < s.size) (z : ¬ (s[k + 1].toNat = 115 ∨ s[k + 1].toNat = 122)) : fmtGo s k p q = none := by rw [fmtGo, dif_pos h, if_pos e, dif_pos h', if_neg z]
theorem fmt_sl0 {s : ByteArray} {k p q : Nat} (h : k < s.size) (n : ¬ s[k].toNat = 37) (e : s[k].toNat = 47) (z : k = 0 ∨ k + 1 = s.size) : fmtGo s k p q = none := by rw [fmtGo, dif_pos h, if_neg n, if_pos e, if_pos z]
theorem fmt_sl {s : ByteArray} {k p q : Nat} (h : k < s.size) (n : ¬ s[k].toNat = 37) (e : s[k].toNat = 47) (z : ¬ (k = 0 ∨ k + 1 = s.size)) : fmtGo s k p q = fmtGo s (k + 1) p (q + 1) := by rw [fmtGo, dif_pos h, if_neg n, if_pos e, if_neg z]
theorem fmt_on {s : ByteArray} {k p q : Nat} (h : k < s.size) (n : ¬ s[k].toNat = 37) (e : ¬ s[k].toNat = 47) (z : kindB [43, 45] s[k].toNat = true) : fmtGo s k p q = fmtGo s (k + 1) p q := by rw [fmtGo, dif_pos h, if_neg n, if_neg e, if_pos z]
theorem fmt_no {s : ByteArray} {k p q : Nat} (h : k < s.size) (n : ¬ s[k].toNat = 37) (e : ¬ s[k].toNat = 47) (z : kindB [43, 45] s[k].toNat = false) : fmtGo s k p q = none := by rw [fmtGo, dif_pos h, if_neg n, if_neg e, if_neg (by rw [z]; decide)]
theorem fmt_end {s : ByteArray} {k p q : Nat} (h : ¬ k < s.size) : fmtGo s k p q = some (p, q) := by rw [fmtGo, dif_neg h]
def formatB (s : ByteArray) : Bool := match fmtGo s 0 0 0 with | none => false | some (p, q) => decide (1 ≤ s.size) && decide (s.size ≤ 20) && decide (p + q ≤ 1)
def plcGo (s : ByteArray) (k p : Nat) : Option Nat :=
  if h : k < s.size then (if s[k].toNat = 47 then (if p = 0 then none else plcGo s (k + 1) 0) else if kindB [95, 43, 45] s[k].toNat = true then plcGo s (k + 1) (p + 1) else none) else some p
termination_by s.size - k
theorem plc_cut0 {s : ByteArray} {k p : Nat} (h : k < s.size) (e : s[k].toNat = 47) (z : p = 0) : plcGo s k p = none := by rw [plcGo, dif_pos h, if_pos e, if_pos z]
theorem plc_cut {s : ByteArray} {k p : Nat} (h : k < s.size) (e : s[k].toNat = 47) (z : ¬ p = 0) : plcGo s k p = plcGo s (k + 1) 0 := by rw [plcGo, dif_pos h, if_pos e, if_neg z]
theorem plc_on {s : ByteArray} {k p : Nat} (h : k < s.size) (e : ¬ s[k].toNat = 47) (z : kindB [95, 43, 45] s[k].toNat = true) : plcGo s k p = plcGo s (k + 1) (p + 1) := by rw [plcGo, dif_pos h, if_neg e, if_pos z]
theorem plc_no {s : ByteArray} {k p : Nat} (h : k < s.size) (e : ¬ s[k].toNat = 47) (z : kindB [95, 43, 45] s[k].toNat = false) : plcGo s k p = none := by rw [plcGo, dif_pos h, if_neg e, if_neg (by rw [z]; decide)]
theorem plc_end {s : ByteArray} {k p : Nat} (h : ¬ k < s.size) : plcGo s k p = some p := by rw [plcGo, dif_neg h]
def placeB (s : ByteArray) : Bool := match plcGo s 0 0 with | none => false | some p => decide (0 < p) && decide (s.size ≤ 40)
section
variable {l : List (ByteArray × Int)} {f : Nat}
end
end Go.Proofs.YtpbgddoicjjhnaaGreatDoor
namespace Go.Proofs.YtpbgddoicjjhnaaGreatDoor
open Go.RowKit
def fx (l : List (ByteArray × Int)) (j : Nat) : ByteArray := (l.getD j (⟨#[]⟩, 0)).1
def fa (l : List (ByteArray × Int)) (j : Nat) : Int := (l.getD j (⟨#[]⟩, 0)).2
def dashT : ByteArray := ⟨#[45]⟩
def Zn.til (z : Zn) : Bool := match z.eras.getLast? with | .none => false | some x => x.til
def Sr.til (S : Sr) : Bool := match S.zones.getLast? with | .none => false | some z => z.til
def Sr.eras (S : Sr) : Nat := match S.zones.getLast? with | .none => 0 | some z => z.eras.length
def Rl.ok (x : Rl) : Prop := (1 ≤ x.fr ∧ x.fr ≤ 9999) ∧ (1 ≤ x.last ∧ (x.last ≤ 9999 ∨ x.last = 1000000)) ∧ x.sp.ok ∧ (-43200 ≤ x.save ∧ x.save ≤ 43200) ∧ setB x.name = true ∧ ¬ x.letter = dashT ∧ (x.letter = ⟨#[]⟩ ∨ lettersB x.letter = true)
def Er.ok (x : Er) : Prop := (-86400 < x.off ∧ x.off < 86400) ∧ (-43200 ≤ x.save ∧ x.save ≤ 43200) ∧ formatB x.fmt = true ∧ (0 ≤ x.kind ∧ x.kind ≤ 2) ∧ (x.kind ≠ 1 → x.save = 0) ∧ (x.kind ≠ 2 → x.rules = ⟨#[]⟩) ∧ (x.kind = 2 → setB x.rules = true) ∧
  (x.til = true → (1 ≤ x.year ∧ x.year ≤ 9999) ∧ x.sp.ok) ∧ (x.til = false → x.year = 0 ∧ x.sp = .zero)
def tilOk : List Er → Prop
  | [] => False
  | [x] => x.til = false
  | x :: y :: r => x.til = true ∧ tilOk (y :: r)
def Zn.ok (z : Zn) : Prop := placeB z.name = true ∧ z.eras.length ≤ 40 ∧ (∀ x ∈ z.eras, x.ok) ∧ tilOk z.eras
def Lk.ok (x : Lk) : Prop := placeB x.target = true ∧ placeB x.name = true
def Sr.ok (S : Sr) : Prop := S.rules.length ≤ 200 ∧ S.zones.length ≤ 50 ∧ S.links.length ≤ 100 ∧ (∀ x ∈ S.rules, x.ok) ∧ (∀ z ∈ S.zones, z.ok) ∧ (∀ x ∈ S.links, x.ok)
def tot : List ByteArray → Nat
  | [] => 0
  | t :: r => t.size + 1 + tot r
structure Own where
  v : Value
  e : TypeId
  size : Nat
  n : Nat
  xs : List Value
def Own.own (r : Own) (w : World) (base : Nat) : Prop := w.ownsRow base r.e r.size r.v r.n r.xs
section
variable {w w' : World} {base : Nat} {R : List Own}
end
section
variable {w w' : World} {base lo hi : Nat} {S : Sr} {vr vz vl : Value}
end
end Go.Proofs.YtpbgddoicjjhnaaGreatDoor
