import Derived.Test.YtnkmlfbnfndfpaaGreatDoorXGq
import Derived.Laws.DeepStrings4
import Derived.BigQuiet
import Derived.Deep.RegionHeld3
set_option maxRecDepth 100000
set_option maxHeartbeats 64000000
namespace Go.Proofs.YtnkmlfbnfndfpaaGreatDoor
open Go.RowKit
def digB (s : ByteArray) : Nat → Bool
  | 0 => true
  | k + 1 => digB s k && (if h : k < s.size then decide (48 ≤ s[k].toNat ∧ s[k].toNat ≤ 57) else true)
def digN (s : ByteArray) : Nat → Nat
  | 0 => 0
  | k + 1 => digN s k * 10 + (if h : k < s.size then s[k].toNat - 48 else 0)
theorem digB_succ {s : ByteArray} {k : Nat} (h : k < s.size) : digB s (k + 1) = (digB s k && decide (48 ≤ s[k].toNat ∧ s[k].toNat ≤ 57)) := by
  show (digB s k && (if h : k < s.size then _ else true)) = _
  rw [dif_pos h]
theorem digN_succ {s : ByteArray} {k : Nat} (h : k < s.size) : digN s (k + 1) = digN s k * 10 + (s[k].toNat - 48) := by
  show digN s k * 10 + (if h : k < s.size then _ else 0) = _
  rw [dif_pos h]
theorem digB_off {s : ByteArray} {k : Nat} : ∀ (d : Nat), digB s k = false → digB s (k + d) = false := by
  intro d
  induction d with
  | zero => intro h; exact h
  | succ d ih => intro h; show (digB s (k + d) && _) = false; rw [ih h]; rfl
theorem digN_lt {s : ByteArray} : ∀ k, digB s k = true → digN s k < 10 ^ k := by
  intro k
  induction k with
  | zero => intro _; show 0 < 10 ^ 0; decide
  | succ k ih =>
    intro h
    have h1 : digB s k = true := by
      cases e : digB s k with
      | true => rfl
      | false => have := digB_off 1 e; rw [h] at this; cases this
    have h2 := ih h1
    by_cases hk : k < s.size
    · rw [digB_succ hk, h1, Bool.true_and] at h
      have := of_decide_eq_true h
      rw [digN_succ hk, Nat.pow_succ]
      omega
    · show digN s k * 10 + (if h : k < s.size then _ else 0) < _
      rw [dif_neg hk, Nat.pow_succ]
      omega
def numRes (s : ByteArray) (a b : Int) : Int := if (s.size : Int) < a ∨ b < s.size then -1 else if digB s s.size = true then digN s s.size else -1
def partsOf (s : ByteArray) (k : Nat) (cur : ByteArray) : List ByteArray :=
  if h : k < s.size then (if s[k].toNat = 58 then cur :: partsOf s (k + 1) ⟨#[]⟩ else partsOf s (k + 1) (cur ++ s.extract k (k + 1))) else [cur]
termination_by s.size - k
theorem parts_cut {s : ByteArray} {k : Nat} {cur : ByteArray} (h : k < s.size) (e : s[k].toNat = 58) : partsOf s k cur = cur :: partsOf s (k + 1) ⟨#[]⟩ := by rw [partsOf, dif_pos h, if_pos e]
theorem parts_on {s : ByteArray} {k : Nat} {cur : ByteArray} (h : k < s.size) (e : ¬ s[k].toNat = 58) : partsOf s k cur = partsOf s (k + 1) (cur ++ s.extract k (k + 1)) := by rw [partsOf, dif_pos h, if_neg e]
theorem parts_end {s : ByteArray} {k : Nat} {cur : ByteArray} (h : ¬ k < s.size) : partsOf s k cur = [cur] := by rw [partsOf, dif_neg h]
theorem parts_pos {s : ByteArray} : ∀ (d k : Nat) (cur : ByteArray), s.size - k ≤ d → 0 < (partsOf s k cur).length := by
  intro d
  induction d with
  | zero => intro k cur h; rw [parts_end (by omega)]; simp
  | succ d ih =>
    intro k cur h
    by_cases hk : k < s.size
    · by_cases e : s[k].toNat = 58
      · rw [parts_cut hk e]; simp
      · rw [parts_on hk e]; exact ih (k + 1) _ (by omega)
    · rw [parts_end hk]; simp
def bareGo (l : List ByteArray) (i : Nat) (n unit : Int) : Option Int :=
  if h : i < l.length then (if numRes l[i] 2 2 < 0 ∨ 59 < numRes l[i] 2 2 then none else bareGo l (i + 1) (n + numRes l[i] 2 2 * unit) 1) else some n
termination_by l.length - i
theorem bg_no {l : List ByteArray} {i : Nat} {n u : Int} (h : i < l.length) (e : numRes l[i] 2 2 < 0 ∨ 59 < numRes l[i] 2 2) : bareGo l i n u = none := by rw [bareGo, dif_pos h, if_pos e]
theorem bg_on {l : List ByteArray} {i : Nat} {n u : Int} (h : i < l.length) (e : ¬ (numRes l[i] 2 2 < 0 ∨ 59 < numRes l[i] 2 2)) : bareGo l i n u = bareGo l (i + 1) (n + numRes l[i] 2 2 * u) 1 := by rw [bareGo, dif_pos h, if_neg e]
theorem bg_end {l : List ByteArray} {i : Nat} {n u : Int} (h : ¬ i < l.length) : bareGo l i n u = some n := by rw [bareGo, dif_neg h]
def firstOf (l : List ByteArray) : ByteArray := l.getD 0 ⟨#[]⟩
def bareOf (l : List ByteArray) : Option Int :=
  if 3 < l.length ∨ numRes (firstOf l) 1 3 < 0 ∨ 167 < numRes (firstOf l) 1 3 then none else bareGo l 1 (3600 * numRes (firstOf l) 1 3) 60
def bareRes (s : ByteArray) : Option Int := bareOf (partsOf s 0 ⟨#[]⟩)
def RetOI (w : World) (r : Option Int) (e : Ending) (w' : World) : Prop := e = .returned (.tuple #[.int .i64 (r.getD 0), .bool r.isSome]) ∧ Below w.heap.size w w'
def spanRes (s : ByteArray) : Option Int :=
  if s = ⟨#[45]⟩ then some 0 else if h : 0 < s.size then (if s[0].toNat = 45 then (bareRes (s.extract 1 s.size)).map (fun v => -v) else bareRes s) else bareRes s
def nameB (s word : ByteArray) : Nat → Bool
  | 0 => true
  | k + 1 => nameB s word k && (if h : k < s.size ∧ k < word.size then decide (s[k].toNat = word[k].toNat ∨ s[k].toNat + 32 = word[k].toNat) else true)
theorem name_succ {s word : ByteArray} {k : Nat} (h1 : k < s.size) (h2 : k < word.size) : nameB s word (k + 1) = (nameB s word k && decide (s[k].toNat = word[k].toNat ∨ s[k].toNat + 32 = word[k].toNat)) := by
  show (nameB s word k && (if h : k < s.size ∧ k < word.size then _ else true)) = _
  rw [dif_pos ⟨h1, h2⟩]
theorem name_off {s word : ByteArray} {k : Nat} : ∀ (d : Nat), nameB s word k = false → nameB s word (k + d) = false := by
  intro d
  induction d with
  | zero => intro h; exact h
  | succ d ih => intro h; show (nameB s word (k + d) && _) = false; rw [ih h]; rfl
def isName (s word : ByteArray) : Bool := decide (3 ≤ s.size) && decide (s.size ≤ word.size) && nameB s word s.size
def lowT (word : ByteArray) : Prop := word.size ≤ 20 ∧ ∀ (j : Nat) (h : j < word.size), 97 ≤ word[j].toNat ∧ word[j].toNat ≤ 122
def whichAt (s : ByteArray) (l : List ByteArray) (i : Nat) : Nat := if h : i < l.length then (if isName s l[i] = true then i + 1 else whichAt s l (i + 1)) else 0
termination_by l.length - i
theorem which_here {s : ByteArray} {l : List ByteArray} {i : Nat} (h : i < l.length) (e : isName s l[i] = true) : whichAt s l i = i + 1 := by rw [whichAt, dif_pos h, if_pos e]
theorem which_on {s : ByteArray} {l : List ByteArray} {i : Nat} (h : i < l.length) (e : isName s l[i] = false) : whichAt s l i = whichAt s l (i + 1) := by rw [whichAt, dif_pos h, if_neg (by rw [e]; decide)]
theorem which_end {s : ByteArray} {l : List ByteArray} {i : Nat} (h : ¬ i < l.length) : whichAt s l i = 0 := by rw [whichAt, dif_neg h]
theorem Ss.lit (w : World) (l : List ByteArray) (t : TypeId) (h0 : 0 < l.length) (h : l.length ≤ 100) : Ss (w.alloc (.cells (strs l).toArray t)) (some ⟨w.heap.size, 0, none⟩) l.length l.length l := by
  refine ⟨rfl, Nat.le_refl _, by unfold maxLen; omega, fun _ => ⟨_, _, rfl, by simp, fun j hj => ?_⟩⟩
  simp [strs, hj]
def monthL : List ByteArray := [⟨#[106, 97, 110, 117, 97, 114, 121]⟩, ⟨#[102, 101, 98, 114, 117, 97, 114, 121]⟩, ⟨#[109, 97, 114, 99, 104]⟩, ⟨#[97, 112, 114, 105, 108]⟩, ⟨#[109, 97, 121]⟩, ⟨#[106, 117, 110, 101]⟩, ⟨#[106, 117, 108, 121]⟩, ⟨#[97, 117, 103, 117, 115, 116]⟩, ⟨#[115, 101, 112, 116, 101, 109, 98, 101, 114]⟩, ⟨#[111, 99, 116, 111, 98, 101, 114]⟩, ⟨#[110, 111, 118, 101, 109, 98, 101, 114]⟩, ⟨#[100, 101, 99, 101, 109, 98, 101, 114]⟩]
def dayL : List ByteArray := [⟨#[109, 111, 110, 100, 97, 121]⟩, ⟨#[116, 117, 101, 115, 100, 97, 121]⟩, ⟨#[119, 101, 100, 110, 101, 115, 100, 97, 121]⟩, ⟨#[116, 104, 117, 114, 115, 100, 97, 121]⟩, ⟨#[102, 114, 105, 100, 97, 121]⟩, ⟨#[115, 97, 116, 117, 114, 100, 97, 121]⟩, ⟨#[115, 117, 110, 100, 97, 121]⟩]
instance (t : ByteArray) : Decidable (lowT t) := inferInstanceAs (Decidable (_ ∧ _))
theorem month_low : ∀ (i : Nat) (h : i < monthL.length), lowT monthL[i] := by decide
theorem day_low : ∀ (i : Nat) (h : i < dayL.length), lowT dayL[i] := by decide
def monthN (s : ByteArray) : Nat := whichAt s monthL 0
def dayN (s : ByteArray) : Nat := whichAt s dayL 0
def dayRes (s : ByteArray) : Int := if numRes s 1 2 < 1 ∨ 31 < numRes s 1 2 then 0 else numRes s 1 2
def signAt (s : ByteArray) (c : Nat) (i : Nat) : Option Nat := if h : i + 1 < s.size then (if s[i].toNat = c ∧ s[i + 1].toNat = 61 then some i else signAt s c (i + 1)) else none
termination_by s.size - i
theorem sg_here {s : ByteArray} {c i : Nat} (h : i + 1 < s.size) (e : s[i].toNat = c ∧ s[i + 1].toNat = 61) : signAt s c i = some i := by rw [signAt, dif_pos h, if_pos e]
theorem sg_on {s : ByteArray} {c i : Nat} (h : i + 1 < s.size) (e : ¬ (s[i].toNat = c ∧ s[i + 1].toNat = 61)) : signAt s c i = signAt s c (i + 1) := by rw [signAt, dif_pos h, if_neg e]
theorem sg_end {s : ByteArray} {c i : Nat} (h : ¬ i + 1 < s.size) : signAt s c i = none := by rw [signAt, dif_neg h]
theorem txt_no {s : ByteArray} {l : List UInt8} (h : ¬ s = ⟨l.toArray⟩) : (s.toList == l) = false := by
  rw [beq_eq_false_iff_ne]
  intro e
  rw [ByteArray.toList_eq] at e
  apply h
  obtain ⟨⟨m⟩⟩ := s
  have : m = l := e
  rw [this]
def dAt (s : ByteArray) (k : Int) (i : Nat) : Int × Int × Int × Bool := (k, dayN (s.extract 0 i), dayRes (s.extract (i + 2) s.size), decide (0 < (dayN (s.extract 0 i) : Int)) && decide (0 < dayRes (s.extract (i + 2) s.size)))
def dTup (s : ByteArray) : Int × Int × Int × Bool :=
  if s.extract 0 4 = ⟨[108, 97, 115, 116].toArray⟩ then (1, dayN (s.extract 4 s.size), 0, decide (0 < (dayN (s.extract 4 s.size) : Int)))
  else match signAt s 62 0 with
    | some i => dAt s 2 i
    | none => match signAt s 60 0 with
      | some i => dAt s 3 i
      | none => (0, 0, dayRes s, decide (0 < dayRes s))
def refOf (c : Nat) : Int := if c = 119 then 0 else if c = 115 then 1 else if c = 117 then 2 else if c = 103 then 2 else if c = 122 then 2 else -1
def clockRes (s : ByteArray) : Option (Int × Int) :=
  if h : 0 < s.size then (if refOf s[s.size - 1].toNat < 0 then (spanRes s).map (fun v => (v, 0))
    else if s.extract 0 (s.size - 1) = ⟨#[45]⟩ then none else (spanRes (s.extract 0 (s.size - 1))).map (fun v => (v, refOf s[s.size - 1].toNat))) else none
theorem ck_nil {s : ByteArray} (h : ¬ 0 < s.size) : clockRes s = none := by unfold clockRes; rw [dif_neg h]
theorem ck_bare {s : ByteArray} (h : 0 < s.size) (e : refOf s[s.size - 1].toNat < 0) : clockRes s = (spanRes s).map (fun v => (v, 0)) := by unfold clockRes; rw [dif_pos h, if_pos e]
theorem ck_dash {s : ByteArray} (h : 0 < s.size) (e : ¬ refOf s[s.size - 1].toNat < 0) (d : s.extract 0 (s.size - 1) = ⟨#[45]⟩) : clockRes s = none := by unfold clockRes; rw [dif_pos h, if_neg e, if_pos d]
theorem ck_ref {s : ByteArray} (h : 0 < s.size) (e : ¬ refOf s[s.size - 1].toNat < 0) (d : ¬ s.extract 0 (s.size - 1) = ⟨#[45]⟩) : clockRes s = (spanRes (s.extract 0 (s.size - 1))).map (fun v => (v, refOf s[s.size - 1].toNat)) := by unfold clockRes; rw [dif_pos h, if_neg e, if_neg d]
end Go.Proofs.YtnkmlfbnfndfpaaGreatDoor
