import Derived.Test.YtkkdclibbdeejaaDoorYGa
import Derived.Test.YtkkdclibbdeejaaDoorYGw
import Derived.IntWalk
import Derived.Lib.Hide
import Derived.LoopTactic
import Derived.Outline
import Derived.OwnWalk
import Derived.Maps.AppendAt
import Derived.Laws.OwnMore
/- Texts in a slice; the document's answer of layer 8: the lines of a text, whether two slices hold the same texts. -/
namespace Go.Proofs.YtkkdclibbdeejaaDoor
open Go.RowKit
def strs (l : List ByteArray) : List Value := l.map fun s => Value.string s
theorem int_eqS {k : IntKind} {a b : Int} (h : a = b) : Value.int k a = Value.int k b := by rw [h]
/-- The slice value '.slice A n c' reads as the texts l. -/
structure Ss (w : World) (A : Option Addr) (n c : Nat) (l : List ByteArray) : Prop where
  len : l.length = n
  cap : n ≤ c
  max : c ≤ maxLen
  cells : 0 < n → ∃ g o, A = some ⟨g, o, none⟩ ∧ g < w.heap.size ∧ ∀ (j : Nat) (h : j < l.length), w.cell? ⟨g, o + j, none⟩ = some (.string l[j])
theorem Ss.nil (w : World) : Ss w none 0 0 [] := ⟨rfl, Nat.le_refl _, by simp [maxLen], fun h => absurd h (by omega)⟩
theorem Ss.below {w w' : World} {A : Option Addr} {n c : Nat} {l : List ByteArray} (h : Ss w A n c l) (hb : Below w.heap.size w w') : Ss w' A n c l :=
  ⟨h.len, h.cap, h.max, fun hn => by
    obtain ⟨g, o, e, hg, hc⟩ := h.cells hn
    exact ⟨g, o, e, Nat.lt_of_lt_of_le hg hb.size, fun j hj => (hb.cell (p := ⟨g, o + j, none⟩) hg).trans (hc j hj)⟩⟩
end Go.Proofs.YtkkdclibbdeejaaDoor
/- The document's answer of layer 8: bytes of plain fields, blanks, the next quotation mark. -/
namespace Go.Proofs.YtkkdclibbdeejaaDoor
open Go.RowKit
/-- a byte of a plain field; a blank -/
def bareB (b : Int) : Bool := decide (32 < b ∧ b < 127 ∧ ¬ b = 34 ∧ ¬ b = 35)
def blankB (b : Int) : Bool := decide (b = 32 ∨ b = 9)
/-- the next quotation mark, from the k-th byte on -/
def quoAt (s : ByteArray) (k : Nat) : Option Nat :=
  if h : k < s.size then (if s[k] = 34 then some k else quoAt s (k + 1)) else none
termination_by s.size - k
theorem quo_here {s : ByteArray} {k : Nat} (h : k < s.size) (q : s[k] = 34) : quoAt s k = some k := by rw [quoAt, dif_pos h, if_pos q]
theorem quo_on {s : ByteArray} {k : Nat} (h : k < s.size) (q : ¬ s[k] = 34) : quoAt s k = quoAt s (k + 1) := by rw [quoAt, dif_pos h, if_neg q]
end Go.Proofs.YtkkdclibbdeejaaDoor
/- The document's answer of layer 8: the fields of a line; no walk. -/
namespace Go.Proofs.YtkkdclibbdeejaaDoor
open Go.RowKit
/-- The slice value '.slice A n c' reads as the words l. -/
structure Fs (w : World) (A : Option Addr) (n c : Nat) (l : List (ByteArray × Int)) : Prop where
  len : l.length = n
  cap : n ≤ c
  max : c ≤ maxLen
  cells : 0 < n → ∃ g o, A = some ⟨g, o, none⟩ ∧ g < w.heap.size ∧ ∀ (j : Nat) (h : j < l.length), w.cell? ⟨g, o + 2 * j, none⟩ = some (.string l[j].1) ∧ w.cell? ⟨g, o + 2 * j + 1, none⟩ = some (.int .i64 l[j].2)
theorem Fs.nil (w : World) : Fs w none 0 0 [] := ⟨rfl, Nat.le_refl _, by simp [maxLen], fun h => absurd h (by omega)⟩
theorem Fs.below {w w' : World} {A : Option Addr} {n c : Nat} {l : List (ByteArray × Int)} (h : Fs w A n c l) (hb : Below w.heap.size w w') : Fs w' A n c l :=
  ⟨h.len, h.cap, h.max, fun hn => by
    obtain ⟨g, o, e, hg, hc⟩ := h.cells hn
    exact ⟨g, o, e, Nat.lt_of_lt_of_le hg hb.size, fun j hj => ⟨(hb.cell (p := ⟨g, o + 2 * j, none⟩) hg).trans (hc j hj).1, (hb.cell (p := ⟨g, o + 2 * j + 1, none⟩) hg).trans (hc j hj).2⟩⟩⟩
/-- where the plain field ends that goes on at k -/
def bareEnd (s : ByteArray) (k : Nat) : Nat :=
  if h : k < s.size then (if bareB s[k].toNat = true then bareEnd s (k + 1) else k) else k
termination_by s.size - k
theorem bareEnd_on {s : ByteArray} {k : Nat} (h : k < s.size) (b : bareB s[k].toNat = true) : bareEnd s k = bareEnd s (k + 1) := by rw [bareEnd, dif_pos h, if_pos b]
theorem bareEnd_here {s : ByteArray} {k : Nat} (h : k < s.size) (b : bareB s[k].toNat = false) : bareEnd s k = k := by rw [bareEnd, dif_pos h, if_neg (by rw [b]; decide)]
theorem bareEnd_end {s : ByteArray} {k : Nat} (h : ¬ k < s.size) : bareEnd s k = k := by rw [bareEnd, dif_neg h]
/-- the first byte of those from k to e that may not be in a field -/
def badIn (s : ByteArray) (k e : Nat) : Option Nat :=
  if h : k < e then (if g : k < s.size then (if s[k].toNat < 32 ∨ 126 < s[k].toNat then some k else badIn s (k + 1) e) else none) else none
termination_by e - k
theorem badIn_on {s : ByteArray} {k e : Nat} (h : k < e) (g : k < s.size) (b : ¬ (s[k].toNat < 32 ∨ 126 < s[k].toNat)) : badIn s k e = badIn s (k + 1) e := by rw [badIn, dif_pos h, dif_pos g, if_neg b]
theorem badIn_end {s : ByteArray} {k e : Nat} (h : ¬ k < e) : badIn s k e = none := by rw [badIn, dif_neg h]
/-- does a byte stand there that may not follow a field? -/
def blocked (s : ByteArray) (j : Nat) : Bool := if h : j < s.size then !blankB s[j].toNat && decide (¬ s[j] = 35) else false
abbrev Fld := List (ByteArray × Int) × Int × Int
/-- the fields from the i-th byte on, those before it in out -/
def splitGo (s : ByteArray) : Nat → List (ByteArray × Int) → Nat → Fld
  | 0, _, _ => ([], 0, 0)
  | f + 1, out, i =>
    if h : i < s.size then
      if s[i] = 35 then (out, 0, 0)
      else if blankB s[i].toNat = true then splitGo s f out (i + 1)
      else if ¬ s[i] = 34 ∧ bareB s[i].toNat = false then ([], (i : Int), 6)
      else if out.length = 16 then ([], (i : Int), 12)
      else if s[i] = 34 then
        match quoAt s (i + 1) with
        | none => ([], (i : Int), 6)
        | some e =>
          match badIn s (i + 1) e with
          | some k => ([], (k : Int), 6)
          | none => if blocked s (e + 1) = true then ([], ((e + 1 : Nat) : Int), 6) else splitGo s f (out ++ [(s.extract (i + 1) e, (i : Int))]) (e + 1)
      else if blocked s (bareEnd s i) = true then ([], (bareEnd s i : Int), 6) else splitGo s f (out ++ [(s.extract i (bareEnd s i), (i : Int))]) (bareEnd s i)
    else (out, 0, 0)
def splitRes (s : ByteArray) : Fld := if 500 < s.size then ([], 500, 12) else splitGo s (s.size + 1) [] 0
section
variable {s : ByteArray} {f i : Nat} {out : List (ByteArray × Int)}
theorem sp_end (h : ¬ i < s.size) : splitGo s (f + 1) out i = (out, 0, 0) := by rw [splitGo, dif_neg h]
theorem sp_blank (h : i < s.size) (a : ¬ s[i] = 35) (b : blankB s[i].toNat = true) : splitGo s (f + 1) out i = splitGo s f out (i + 1) := by rw [splitGo, dif_pos h, if_neg a, if_pos b]
theorem sp_quo (h : i < s.size) (a : ¬ s[i] = 35) (b : blankB s[i].toNat = false) (q : s[i] = 34) (m : ¬ out.length = 16) : splitGo s (f + 1) out i = (match quoAt s (i + 1) with
        | none => ([], (i : Int), 6)
        | some e =>
          match badIn s (i + 1) e with
          | some k => ([], (k : Int), 6)
          | none => if blocked s (e + 1) = true then ([], ((e + 1 : Nat) : Int), 6) else splitGo s f (out ++ [(s.extract (i + 1) e, (i : Int))]) (e + 1)) := by
  rw [splitGo, dif_pos h, if_neg a, if_neg (by rw [b]; decide), if_neg (fun x => x.1 q), if_neg m, if_pos q]
theorem sp_bare (h : i < s.size) (a : ¬ s[i] = 35) (b : blankB s[i].toNat = false) (q : ¬ s[i] = 34) (c : bareB s[i].toNat = true) (m : ¬ out.length = 16) : splitGo s (f + 1) out i = if blocked s (bareEnd s i) = true then ([], (bareEnd s i : Int), 6) else splitGo s f (out ++ [(s.extract i (bareEnd s i), (i : Int))]) (bareEnd s i) := by
  rw [splitGo, dif_pos h, if_neg a, if_neg (by rw [b]; decide), if_neg (by intro x; rw [c] at x; exact absurd x.2 (by decide)), if_neg m, if_neg q]
end
end Go.Proofs.YtkkdclibbdeejaaDoor
/- What package fields answers beside the document's answer: a quotation mark alone in the place of a seventeenth field; no walk. -/
namespace Go.Proofs.YtkkdclibbdeejaaDoor
open Go.RowKit
end Go.Proofs.YtkkdclibbdeejaaDoor
/- The document's answer of layer 8: the line of any fields. -/
namespace Go.Proofs.YtkkdclibbdeejaaDoor
open Go.RowKit
/-- a byte that may stand in a field -/
def okB (c : Int) : Bool := decide (32 ≤ c ∧ c ≤ 126 ∧ ¬ c = 34)
def okPre (t : ByteArray) (k : Nat) : Prop := ∀ (j : Nat) (h : j < t.size), j < k → okB t[j].toNat = true
def okText (t : ByteArray) : Prop := okPre t t.size
/-- is it a plain field, as far as its first k bytes tell? -/
def barePre (t : ByteArray) : Nat → Bool
  | 0 => decide (0 < t.size)
  | k + 1 => if h : k < t.size then barePre t k && bareB t[k].toNat else barePre t k
theorem bare_succ {t : ByteArray} {k : Nat} (h : k < t.size) : barePre t (k + 1) = (barePre t k && bareB t[k].toNat) := by
  show (if h : k < t.size then barePre t k && bareB t[k].toNat else barePre t k) = _
  rw [dif_pos h]
def plainT (t : ByteArray) : Bool := barePre t t.size
/-- the line of the first i fields -/
def joinGo (l : List ByteArray) : Nat → ByteArray
  | 0 => ⟨#[]⟩
  | i + 1 => if h : i < l.length then (let s := if 0 < i then joinGo l i ++ ⟨#[32]⟩ else joinGo l i; if plainT l[i] = true then s ++ l[i] else ((s ++ ⟨#[34]⟩) ++ l[i]) ++ ⟨#[34]⟩) else joinGo l i
theorem join_succ {l : List ByteArray} {i : Nat} (h : i < l.length) : joinGo l (i + 1) = (if plainT l[i] = true then (if 0 < i then joinGo l i ++ ⟨#[32]⟩ else joinGo l i) ++ l[i] else (((if 0 < i then joinGo l i ++ ⟨#[32]⟩ else joinGo l i) ++ ⟨#[34]⟩) ++ l[i]) ++ ⟨#[34]⟩) := by
  show (if h : i < l.length then _ else _) = _
  rw [dif_pos h]
theorem size_app (a b : ByteArray) : (a ++ b).size = a.size + b.size := ByteArray.size_append
def allOk (l : List ByteArray) : Prop := ∀ (i : Nat) (h : i < l.length), okText l[i]
theorem okB_yes {c : Int} (h : okB c = true) : ¬ c < 32 ∧ ¬ 126 < c ∧ ¬ c = 34 := by
  have := of_decide_eq_true h
  omega
instance (t : ByteArray) (k : Nat) : Decidable (okPre t k) := Nat.decidableBallLT t.size (fun j h => j < k → okB t[j].toNat = true)
instance (t : ByteArray) : Decidable (okText t) := inferInstanceAs (Decidable (okPre t t.size))
instance (l : List ByteArray) : Decidable (allOk l) := Nat.decidableBallLT l.length (fun i h => okText l[i])
/-- the line of the fields, and its error -/
def joinRes (l : List ByteArray) : ByteArray × Int :=
  if allOk l then (if 16 < l.length ∨ 500 < (joinGo l l.length).size then (⟨#[]⟩, 12) else (joinGo l l.length, 0)) else (⟨#[]⟩, 6)
end Go.Proofs.YtkkdclibbdeejaaDoor
/- What was joined is split into the same: facts of the document's answer alone. -/
namespace Go.Proofs.YtkkdclibbdeejaaDoor
open Go.RowKit
theorem bareEnd_run {s : ByteArray} : ∀ (m i : Nat), i + m ≤ s.size → (∀ (j : Nat) (h : j < s.size), i ≤ j → j < i + m → bareB s[j].toNat = true) → bareEnd s i = bareEnd s (i + m) := by
  intro m
  induction m with
  | zero => intro i _ _; rfl
  | succ m ih =>
    intro i hm h
    have hi : i < s.size := by omega
    rw [bareEnd_on hi (h i hi (by omega) (by omega)), ih (i + 1) (by omega) (fun j hj h1 h2 => h j hj (by omega) (by omega))]
    congr 1
    omega
theorem quo_run {s : ByteArray} : ∀ (m i : Nat), i + m ≤ s.size → (∀ (j : Nat) (h : j < s.size), i ≤ j → j < i + m → ¬ s[j] = 34) → quoAt s i = quoAt s (i + m) := by
  intro m
  induction m with
  | zero => intro i _ _; rfl
  | succ m ih =>
    intro i hm h
    have hi : i < s.size := by omega
    rw [quo_on hi (h i hi (by omega) (by omega)), ih (i + 1) (by omega) (fun j hj h1 h2 => h j hj (by omega) (by omega))]
    congr 1
    omega
theorem badIn_run {s : ByteArray} : ∀ (m i e : Nat), i + m = e → e ≤ s.size → (∀ (j : Nat) (h : j < s.size), i ≤ j → j < e → okB s[j].toNat = true) → badIn s i e = none := by
  intro m
  induction m with
  | zero => intro i e hm _ _; exact badIn_end (by omega)
  | succ m ih =>
    intro i e hm he h
    have hi : i < s.size := by omega
    have o := okB_yes (h i hi (by omega) (by omega))
    rw [badIn_on (by omega) hi (by omega)]
    exact ih (i + 1) e (by omega) he (fun j hj h1 h2 => h j hj (by omega) h2)
theorem bare_not_quote {c : UInt8} (h : bareB c.toNat = true) : ¬ c = 34 ∧ ¬ c = 35 ∧ blankB c.toNat = false := by
  have h := of_decide_eq_true h
  refine ⟨?_, ?_, ?_⟩
  · rintro rfl; exact h.2.2.1 rfl
  · rintro rfl; exact h.2.2.2 rfl
  · exact decide_eq_false (by omega)
/-- behind a field: the end, a blank, or a remark -/
def free (s : ByteArray) (j : Nat) : Prop := ∀ h : j < s.size, blankB s[j].toNat = true ∨ s[j] = 35
theorem free_not {s : ByteArray} {j : Nat} (h : free s j) : blocked s j = false := by
  unfold blocked
  split
  · rename_i hj
    rcases h hj with b | b
    · rw [b]; rfl
    · rw [b]; simp
  · rfl
theorem bare_free {s : ByteArray} {j : Nat} (h : free s j) : bareEnd s j = j := by
  by_cases hj : j < s.size
  · refine bareEnd_here hj ?_
    cases b : bareB s[j].toNat with
    | false => rfl
    | true =>
      obtain ⟨_, n2, n3⟩ := bare_not_quote b
      rcases h hj with g | g
      · rw [n3] at g; cases g
      · exact absurd g n2
  · exact bareEnd_end hj
/-- a plain field is taken -/
theorem take_plain {s : ByteArray} {i m f : Nat} {out : List (ByteArray × Int)} (h0 : 0 < m) (hm : i + m ≤ s.size) (hb : ∀ (j : Nat) (h : j < s.size), i ≤ j → j < i + m → bareB s[j].toNat = true) (fr : free s (i + m)) (n16 : ¬ out.length = 16) :
    splitGo s (f + 1) out i = splitGo s f (out ++ [(s.extract i (i + m), (i : Int))]) (i + m) := by
  have hi : i < s.size := by omega
  have b := hb i hi (by omega) (by omega)
  obtain ⟨n1, n2, n3⟩ := bare_not_quote b
  have e : bareEnd s i = i + m := by rw [bareEnd_run m i hm hb, bare_free fr]
  rw [sp_bare hi n2 n3 n1 b n16, e, free_not fr, if_neg (by decide)]
/-- a field within marks is taken -/
theorem take_quoted {s : ByteArray} {i e f : Nat} {out : List (ByteArray × Int)} (hi : i < s.size) (q : s[i] = 34) (he : e < s.size) (hie : i + 1 ≤ e) (hq : s[e] = 34) (hb : ∀ (j : Nat) (h : j < s.size), i + 1 ≤ j → j < e → okB s[j].toNat = true) (fr : free s (e + 1)) (n16 : ¬ out.length = 16) :
    splitGo s (f + 1) out i = splitGo s f (out ++ [(s.extract (i + 1) e, (i : Int))]) (e + 1) := by
  have eq : quoAt s (i + 1) = some e := by
    rw [quo_run (e - (i + 1)) (i + 1) (by omega) (fun j hj h1 h2 c => (okB_yes (hb j hj h1 (by omega))).2.2 (by rw [c]; rfl))]
    rw [show i + 1 + (e - (i + 1)) = e by omega]
    exact quo_here he hq
  rw [sp_quo hi (by rw [q]; decide) (by rw [q]; rfl) q n16, eq]
  simp only [badIn_run (e - (i + 1)) (i + 1) e (by omega) (by omega) hb, free_not fr]
  rfl
end Go.Proofs.YtkkdclibbdeejaaDoor
/- What was joined is split into the same: the whole line. -/
namespace Go.Proofs.YtkkdclibbdeejaaDoor
open Go.RowKit
def AtB (s : ByteArray) (p : Nat) (u : ByteArray) : Prop := ∃ a b, s = a ++ u ++ b ∧ a.size = p
theorem at_size {s : ByteArray} {p : Nat} {u : ByteArray} (h : AtB s p u) : p + u.size ≤ s.size := by
  obtain ⟨a, b, rfl, rfl⟩ := h
  simp only [size_app]
  omega
theorem at_byte {s : ByteArray} {p : Nat} {u : ByteArray} (h : AtB s p u) (j : Nat) (hj : j < u.size) (hs : p + j < s.size) : s[p + j] = u[j] := by
  obtain ⟨a, b, rfl, rfl⟩ := h
  rw [ByteArray.getElem_append_left (by simp only [size_app]; omega), ByteArray.getElem_append_right (by omega)]
  congr 1
  omega
theorem at_get {s : ByteArray} {p : Nat} {u : ByteArray} (h : AtB s p u) {P : UInt8 → Prop} (hu : ∀ (j : Nat) (hj : j < u.size), P u[j]) : ∀ (j : Nat) (hj : j < s.size), p ≤ j → j < p + u.size → P s[j] := by
  intro j hj h1 h2
  have := at_byte h (j - p) (by omega) (by omega)
  have e : p + (j - p) = j := by omega
  simp only [e] at this
  rw [this]
  exact hu _ _
theorem at_extract {s : ByteArray} {p : Nat} {u : ByteArray} (h : AtB s p u) : s.extract p (p + u.size) = u := by
  obtain ⟨a, b, rfl, rfl⟩ := h
  rw [ByteArray.append_assoc, ByteArray.extract_append]
  rw [show a.extract a.size (a.size + u.size) = ByteArray.empty from by apply ByteArray.ext_getElem (by simp) (by intro i hi; simp at hi)]
  rw [ByteArray.empty_append, show a.size - a.size = 0 by omega, show a.size + u.size - a.size = u.size by omega, ByteArray.extract_append, ByteArray.extract_zero_size]
  rw [show b.extract (0 - u.size) (u.size - u.size) = ByteArray.empty from by apply ByteArray.ext_getElem (by simp) (by intro i hi; simp at hi)]
  exact ByteArray.append_empty
theorem at_left {s : ByteArray} {p : Nat} {u v : ByteArray} (h : AtB s p (u ++ v)) : AtB s p u := by
  obtain ⟨a, b, rfl, rfl⟩ := h
  exact ⟨a, v ++ b, by simp only [ByteArray.append_assoc], rfl⟩
theorem at_right {s : ByteArray} {p : Nat} {u v : ByteArray} (h : AtB s p (u ++ v)) : AtB s (p + u.size) v := by
  obtain ⟨a, b, rfl, rfl⟩ := h
  exact ⟨a ++ u, b, by simp only [ByteArray.append_assoc], size_app _ _⟩
def enc (t : ByteArray) : ByteArray := if plainT t = true then t else ⟨#[34]⟩ ++ t ++ ⟨#[34]⟩
theorem plain_pre {t : ByteArray} : ∀ k, k ≤ t.size → barePre t k = true → 0 < t.size ∧ ∀ (j : Nat) (h : j < t.size), j < k → bareB t[j].toNat = true := by
  intro k
  induction k with
  | zero => intro _ h; exact ⟨of_decide_eq_true h, fun _ _ h => absurd h (by omega)⟩
  | succ k ih =>
    intro hk h
    rw [bare_succ (by omega), Bool.and_eq_true] at h
    obtain ⟨p, q⟩ := ih (by omega) h.1
    refine ⟨p, fun j hj hlt => ?_⟩
    by_cases e : j = k
    · subst e; exact h.2
    · exact q j hj (by omega)
theorem take_enc {s t : ByteArray} {p f : Nat} {out : List (ByteArray × Int)} (h : AtB s p (enc t)) (ok : okText t) (fr : free s (p + (enc t).size)) (n16 : ¬ out.length = 16) :
    splitGo s (f + 1) out p = splitGo s f (out ++ [(t, (p : Int))]) (p + (enc t).size) := by
  cases pl : plainT t with
  | true =>
    have e : enc t = t := if_pos pl
    rw [e] at h fr ⊢
    obtain ⟨h0, hb⟩ := plain_pre t.size (Nat.le_refl _) pl
    have := take_plain (f := f) (out := out) h0 (at_size h) (at_get h (P := fun c => bareB c.toNat = true) fun j hj => hb j hj hj) fr n16
    rw [at_extract h] at this
    exact this
  | false =>
    have e : enc t = ⟨#[34]⟩ ++ t ++ ⟨#[34]⟩ := if_neg (by rw [pl]; decide)
    have z : (⟨#[34]⟩ : ByteArray).size = 1 := rfl
    have es : (enc t).size = t.size + 2 := by rw [e]; simp only [size_app, z]; omega
    rw [e] at h
    have ha := at_left (at_left h)
    have hb := at_right (at_left h)
    have hc := at_right h
    rw [z] at hb
    rw [size_app, z] at hc
    have zs := at_size hc
    rw [z] at zs
    rw [es] at fr ⊢
    have q1 : s[p]'(by omega) = 34 := at_byte ha 0 (by decide) (by omega)
    have q2 : s[p + (1 + t.size)]'(by omega) = 34 := at_byte hc 0 (by decide) (by omega)
    have e1 : p + (1 + t.size) = p + 1 + t.size := by omega
    have e2 : p + 1 + t.size + 1 = p + (t.size + 2) := by omega
    simp only [e1] at q2
    have := take_quoted (f := f) (out := out) (i := p) (e := p + 1 + t.size) (by omega) q1 (by omega) (by omega) q2 (at_get hb (P := fun c => okB c.toNat = true) fun j hj => ok j hj hj) (by rw [e2]; exact fr) n16
    rw [at_extract hb, e2] at this
    exact this
end Go.Proofs.YtkkdclibbdeejaaDoor
/- What was joined is split into the same. -/
namespace Go.Proofs.YtkkdclibbdeejaaDoor
open Go.RowKit
def sepT (i : Nat) : ByteArray := if 0 < i then ⟨#[32]⟩ else ⟨#[]⟩
theorem append_nil' (b : ByteArray) : b ++ (⟨#[]⟩ : ByteArray) = b := ByteArray.append_empty
theorem join_eq {l : List ByteArray} {i : Nat} (h : i < l.length) : joinGo l (i + 1) = joinGo l i ++ (sepT i ++ enc l[i]) := by
  have e : (if 0 < i then joinGo l i ++ ⟨#[32]⟩ else joinGo l i) = joinGo l i ++ sepT i := by
    unfold sepT
    split
    · rfl
    · rw [append_nil']
  rw [join_succ h, e]
  unfold enc
  split
  · rw [ByteArray.append_assoc]
  · simp only [ByteArray.append_assoc]
theorem join_pre {l : List ByteArray} : ∀ (d i : Nat), i + d ≤ l.length → ∃ b, joinGo l (i + d) = joinGo l i ++ b := by
  intro d
  induction d with
  | zero => intro i _; exact ⟨⟨#[]⟩, (append_nil' _).symm⟩
  | succ d ih =>
    intro i h
    obtain ⟨b, hb⟩ := ih i (by omega)
    refine ⟨b ++ (sepT (i + d) ++ enc (l[i + d]'(by omega))), ?_⟩
    rw [show i + (d + 1) = i + d + 1 by omega, join_eq (by omega), hb, ByteArray.append_assoc]
theorem join_atB {l : List ByteArray} {i : Nat} (h : i < l.length) : AtB (joinGo l l.length) (joinGo l i).size (sepT i ++ enc l[i]) := by
  obtain ⟨b, hb⟩ := join_pre (l := l) (l.length - (i + 1)) (i + 1) (by omega)
  refine ⟨joinGo l i, b, ?_, rfl⟩
  rw [← join_eq h, ← hb]
  congr 1
  omega
theorem join_free {l : List ByteArray} {i : Nat} (h : i < l.length) : free (joinGo l l.length) (joinGo l (i + 1)).size := by
  intro hj
  by_cases e : i + 1 = l.length
  · rw [e] at hj; exact absurd hj (by omega)
  · have a := at_left (join_atB (l := l) (i := i + 1) (by omega))
    have e1 : sepT (i + 1) = ⟨#[32]⟩ := if_pos (by omega)
    rw [e1] at a
    have b : (joinGo l l.length)[(joinGo l (i + 1)).size] = 32 := at_byte a 0 (by decide) hj
    exact .inl (by rw [b]; rfl)
theorem back_go {l : List ByteArray} (ok : allOk l) (hl : l.length ≤ 16) : ∀ i, i ≤ l.length → ∃ (out : List (ByteArray × Int)) (f : Nat), out.map (·.1) = l.take i ∧ (joinGo l l.length).size - (joinGo l i).size < f ∧
    splitGo (joinGo l l.length) f out (joinGo l i).size = splitGo (joinGo l l.length) ((joinGo l l.length).size + 1) [] 0 := by
  intro i
  induction i with
  | zero => intro _; exact ⟨[], (joinGo l l.length).size + 1, by simp, by omega, rfl⟩
  | succ i ih =>
    intro hi
    have il : i < l.length := by omega
    obtain ⟨out, f, ho, hf, hs⟩ := ih (by omega)
    have at0 := join_atB il
    have fr := join_free il
    have sz : (joinGo l (i + 1)).size = (joinGo l i).size + ((sepT i).size + (enc l[i]).size) := by rw [join_eq il]; simp only [size_app]
    have tot := at_size at0
    rw [size_app] at tot
    have lo : out.length = i := by have := congrArg List.length ho; rw [List.length_map, List.length_take] at this; omega
    have ep : 0 < (enc l[i]).size := by
      unfold enc
      split
      · rename_i pl; exact (plain_pre _ (Nat.le_refl _) pl).1
      · have z : (⟨#[34]⟩ : ByteArray).size = 1 := rfl
        simp only [size_app, z]; omega
    have tk : ∀ (x : Int), (out ++ [(l[i], x)]).map (·.1) = l.take (i + 1) := by
      intro x
      rw [List.map_append, ho, List.take_add_one, List.getElem?_eq_getElem il]
      rfl
    have ae := at_right at0
    by_cases i0 : 0 < i
    · have e1 : sepT i = ⟨#[32]⟩ := if_pos i0
      have z : (⟨#[32]⟩ : ByteArray).size = 1 := rfl
      have a32 := at_left at0
      rw [e1] at a32 ae
      rw [e1, z] at sz tot
      rw [z] at ae
      obtain ⟨f, rfl⟩ : ∃ g, f = g + 2 := ⟨f - 2, by omega⟩
      have hp : (joinGo l i).size < (joinGo l l.length).size := by omega
      have b : (joinGo l l.length)[(joinGo l i).size] = 32 := at_byte a32 0 (by decide) hp
      rw [sp_blank hp (by rw [b]; decide) (by rw [b]; rfl)] at hs
      have e2 : (joinGo l i).size + 1 + (enc l[i]).size = (joinGo l (i + 1)).size := by omega
      rw [take_enc ae (ok i il) (by rw [e2]; exact fr) (by omega), e2] at hs
      exact ⟨_, f, tk _, by omega, hs⟩
    · have e1 : sepT i = ⟨#[]⟩ := if_neg i0
      have z : (⟨#[]⟩ : ByteArray).size = 0 := rfl
      rw [e1] at ae
      rw [e1, z] at sz tot
      rw [z, Nat.add_zero] at ae
      obtain ⟨f, rfl⟩ : ∃ g, f = g + 1 := ⟨f - 1, by omega⟩
      have e2 : (joinGo l i).size + (enc l[i]).size = (joinGo l (i + 1)).size := by omega
      rw [take_enc ae (ok i il) (by rw [e2]; exact fr) (by omega), e2] at hs
      exact ⟨_, f, tk _, by omega, hs⟩
/-- what was joined is split into the same -/
theorem back {l : List ByteArray} {s : ByteArray} (h : joinRes l = (s, 0)) : ∃ r, splitRes s = (r, 0, 0) ∧ r.map (·.1) = l := by
  unfold joinRes at h
  split at h
  · rename_i ok
    split at h
    · exact absurd (congrArg Prod.snd h) (by show ¬ (12 : Int) = 0; decide)
    · rename_i n12
      obtain rfl : joinGo l l.length = s := congrArg Prod.fst h
      obtain ⟨out, f, ho, hf, hs⟩ := back_go ok (by omega) l.length (Nat.le_refl _)
      obtain ⟨f, rfl⟩ : ∃ g, f = g + 1 := ⟨f - 1, by omega⟩
      rw [sp_end (by omega)] at hs
      refine ⟨out, ?_, by rw [ho, List.take_length]⟩
      rw [hs]
      exact if_neg (by omega)
  · exact absurd (congrArg Prod.snd h) (by show ¬ (6 : Int) = 0; decide)
end Go.Proofs.YtkkdclibbdeejaaDoor
/- Stage 8's laws: what package fields answers (FieldsP), and that it is alive. -/
namespace Go.Proofs.YtkkdclibbdeejaaDoor
open Go.RowKit
theorem Ss.two (w : World) (a b : ByteArray) (t : TypeId) : Ss (w.alloc (.cells #[.string a, .string b] t)) (some ⟨w.heap.size, 0, none⟩) 2 2 [a, b] := by
  refine ⟨rfl, Nat.le_refl _, by simp [maxLen], fun _ => ⟨_, _, rfl, by simp, fun j hj => ?_⟩⟩
  have hj2 : j < 2 := hj
  match j, hj2 with
  | 0, _ => simp
  | 1, _ => simp
end Go.Proofs.YtkkdclibbdeejaaDoor
