/- The document's answer of layer 8: the fields of a line; no walk. -/
import Derived.Test.YtnojlbeiknkooaaSbyte
namespace Go.Proofs.Ytnojlbeiknkooaa
open Go.RowKit

def words (l : List (ByteArray × Int)) : List Value := l.flatMap fun p => [Value.string p.1, Value.int .i64 p.2]
theorem words_length (l : List (ByteArray × Int)) : (words l).length = 2 * l.length := by
  induction l with
  | nil => rfl
  | cons p l ih =>
    have e : words (p :: l) = Value.string p.1 :: Value.int .i64 p.2 :: words l := rfl
    rw [e]
    simp only [List.length_cons]
    omega
theorem words_snoc (l : List (ByteArray × Int)) (s : ByteArray) (i : Int) : words l ++ [Value.string s, Value.int .i64 i] = words (l ++ [(s, i)]) := by
  unfold words
  rw [List.flatMap_append]
  rfl
theorem words_get (l : List (ByteArray × Int)) : ∀ (j : Nat) (h : j < l.length), (words l)[2 * j]? = some (.string l[j].1) ∧ (words l)[2 * j + 1]? = some (.int .i64 l[j].2) := by
  induction l with
  | nil => intro j h; exact absurd h (by simp)
  | cons p l ih =>
    intro j h
    have e : words (p :: l) = Value.string p.1 :: Value.int .i64 p.2 :: words l := rfl
    rw [e]
    cases j with
    | zero => exact ⟨rfl, rfl⟩
    | succ j =>
      have := ih j (by simpa using h)
      have e1 : 2 * (j + 1) = 2 * j + 1 + 1 := by omega
      rw [e1]
      exact this
/-- The slice value '.slice A n c' reads as the words l. -/
structure Fs (w : World) (A : Option Addr) (n c : Nat) (l : List (ByteArray × Int)) : Prop where
  len : l.length = n
  cap : n ≤ c
  max : c ≤ maxLen
  cells : 0 < n → ∃ g o, A = some ⟨g, o, none⟩ ∧ g < w.heap.size ∧ ∀ (j : Nat) (h : j < l.length), w.cell? ⟨g, o + 2 * j, none⟩ = some (.string l[j].1) ∧ w.cell? ⟨g, o + 2 * j + 1, none⟩ = some (.int .i64 l[j].2)
theorem Fs.nil (w : World) : Fs w none 0 0 [] := ⟨rfl, Nat.le_refl _, by simp [maxLen], fun h => absurd h (by omega)⟩
theorem Fs.below {w w' : World} {A : Option Addr} {n c : Nat} {l : List (ByteArray × Int)} (h : Fs w A n c l) (hb : Below w.heap.size w w') : Fs w' A n c l :=
  ⟨h.len, h.cap, h.max, fun hn => by
    obtain ⟨g, o, e, hg, hc⟩ := h.cells hn
    exact ⟨g, o, e, Nat.lt_of_lt_of_le hg hb.size, fun j hj => ⟨(hb.cell (p := ⟨g, o + 2 * j, none⟩) hg).trans (hc j hj).1, (hb.cell (p := ⟨g, o + 2 * j + 1, none⟩) hg).trans (hc j hj).2⟩⟩⟩
theorem Fs.of_own {w : World} {base : Nat} {e : TypeId} {v : Value} {n : Nat} {l : List (ByteArray × Int)} (h : w.ownsRow base e 2 v n (words l)) : ∃ A c, v = .slice A n c ∧ Fs w A n c l := by
  have hl : l.length = n := by have := h.1; rw [words_length] at this; omega
  rcases h.2 with ⟨rfl, rfl⟩ | ⟨g, cap, cur, rfl, _, hh, hnc, hm, _, _⟩
  · obtain rfl : l = [] := List.eq_nil_of_length_eq_zero hl
    exact ⟨none, 0, rfl, Fs.nil w⟩
  · refine ⟨_, _, rfl, ⟨hl, hnc, hm, fun _ => ⟨g, 0, rfl, (h.lt g rfl).2, fun j hj => ?_⟩⟩⟩
    have h1 := h.cells (g := g) rfl (2 * j) _ (words_get l j hj).1
    have h2 := h.cells (g := g) rfl (2 * j + 1) _ (words_get l j hj).2
    have ea : ∀ k, ((⟨g, 0, none⟩ : Addr).add k) = ⟨g, 0 + k, none⟩ := by intro k; unfold Addr.add; split <;> simp_all
    rw [ea] at h1 h2
    exact ⟨h1, h2⟩

/-- where the plain field ends that goes on at k -/
def bareEnd (s : ByteArray) (k : Nat) : Nat :=
  if h : k < s.size then (if bareB s[k].toNat = true then bareEnd s (k + 1) else k) else k
termination_by s.size - k
theorem bareEnd_on {s : ByteArray} {k : Nat} (h : k < s.size) (b : bareB s[k].toNat = true) : bareEnd s k = bareEnd s (k + 1) := by rw [bareEnd, dif_pos h, if_pos b]
theorem bareEnd_here {s : ByteArray} {k : Nat} (h : k < s.size) (b : bareB s[k].toNat = false) : bareEnd s k = k := by rw [bareEnd, dif_pos h, if_neg (by rw [b]; decide)]
theorem bareEnd_end {s : ByteArray} {k : Nat} (h : ¬ k < s.size) : bareEnd s k = k := by rw [bareEnd, dif_neg h]
theorem bareEnd_in {s : ByteArray} : ∀ (d k : Nat), s.size - k ≤ d → k ≤ s.size → k ≤ bareEnd s k ∧ bareEnd s k ≤ s.size := by
  intro d
  induction d with
  | zero => intro k hd hk; rw [bareEnd_end (by omega)]; omega
  | succ d ih =>
    intro k hd hk
    by_cases h : k < s.size
    · cases b : bareB s[k].toNat with
      | true => rw [bareEnd_on h b]; have := ih (k + 1) (by omega) (by omega); omega
      | false => rw [bareEnd_here h b]; omega
    · rw [bareEnd_end h]; omega
theorem bareEnd_lt {s : ByteArray} {k : Nat} (h : k < s.size) (b : bareB s[k].toNat = true) : k < bareEnd s k ∧ bareEnd s k ≤ s.size := by
  rw [bareEnd_on h b]
  have := bareEnd_in (s := s) s.size (k + 1) (by omega) (by omega)
  omega
theorem quoAt_in {s : ByteArray} : ∀ (d k : Nat), s.size - k ≤ d → ∀ e, quoAt s k = some e → k ≤ e ∧ e < s.size := by
  intro d
  induction d with
  | zero => intro k hd e he; rw [quo_end (by omega)] at he; cases he
  | succ d ih =>
    intro k hd e he
    by_cases h : k < s.size
    · by_cases q : s[k] = 34
      · rw [quo_here h q] at he
        cases he
        omega
      · rw [quo_on h q] at he
        have := ih (k + 1) (by omega) e he
        omega
    · rw [quo_end h] at he; cases he
/-- the first byte of those from k to e that may not be in a field -/
def badIn (s : ByteArray) (k e : Nat) : Option Nat :=
  if h : k < e then (if g : k < s.size then (if s[k].toNat < 32 ∨ 126 < s[k].toNat then some k else badIn s (k + 1) e) else none) else none
termination_by e - k
theorem badIn_here {s : ByteArray} {k e : Nat} (h : k < e) (g : k < s.size) (b : s[k].toNat < 32 ∨ 126 < s[k].toNat) : badIn s k e = some k := by rw [badIn, dif_pos h, dif_pos g, if_pos b]
theorem badIn_on {s : ByteArray} {k e : Nat} (h : k < e) (g : k < s.size) (b : ¬ (s[k].toNat < 32 ∨ 126 < s[k].toNat)) : badIn s k e = badIn s (k + 1) e := by rw [badIn, dif_pos h, dif_pos g, if_neg b]
theorem badIn_end {s : ByteArray} {k e : Nat} (h : ¬ k < e) : badIn s k e = none := by rw [badIn, dif_neg h]
/-- does a byte stand there that may not follow a field? -/
def blocked (s : ByteArray) (j : Nat) : Bool := if h : j < s.size then !blankB s[j].toNat && decide (¬ s[j] = 35) else false
abbrev Fld := List (ByteArray × Int) × Int × Int
/-- the fields from the i-th byte on, those before it in out -/
def splitGo (s : ByteArray) : Nat → List (ByteArray × Int) → Nat → Fld
  | 0, _, _ => ([], 0, 0)
  | f + 1, out, i =>
    if h : i < s.size then
      if s[i] = 35 then (out, 0, 0)
      else if blankB s[i].toNat = true then splitGo s f out (i + 1)
      else if ¬ s[i] = 34 ∧ bareB s[i].toNat = false then ([], (i : Int), 6)
      else if out.length = 16 then ([], (i : Int), 12)
      else if s[i] = 34 then
        match quoAt s (i + 1) with
        | none => ([], (i : Int), 6)
        | some e =>
          match badIn s (i + 1) e with
          | some k => ([], (k : Int), 6)
          | none => if blocked s (e + 1) = true then ([], ((e + 1 : Nat) : Int), 6) else splitGo s f (out ++ [(s.extract (i + 1) e, (i : Int))]) (e + 1)
      else if blocked s (bareEnd s i) = true then ([], (bareEnd s i : Int), 6) else splitGo s f (out ++ [(s.extract i (bareEnd s i), (i : Int))]) (bareEnd s i)
    else (out, 0, 0)
def splitRes (s : ByteArray) : Fld := if 500 < s.size then ([], 500, 12) else splitGo s (s.size + 1) [] 0
section
variable {s : ByteArray} {f i : Nat} {out : List (ByteArray × Int)}
theorem sp_end (h : ¬ i < s.size) : splitGo s (f + 1) out i = (out, 0, 0) := by rw [splitGo, dif_neg h]
theorem sp_remark (h : i < s.size) (a : s[i] = 35) : splitGo s (f + 1) out i = (out, 0, 0) := by rw [splitGo, dif_pos h, if_pos a]
theorem sp_blank (h : i < s.size) (a : ¬ s[i] = 35) (b : blankB s[i].toNat = true) : splitGo s (f + 1) out i = splitGo s f out (i + 1) := by rw [splitGo, dif_pos h, if_neg a, if_pos b]
theorem sp_no (h : i < s.size) (a : ¬ s[i] = 35) (b : blankB s[i].toNat = false) (q : ¬ s[i] = 34) (c : bareB s[i].toNat = false) : splitGo s (f + 1) out i = ([], (i : Int), 6) := by rw [splitGo, dif_pos h, if_neg a, if_neg (by rw [b]; decide), if_pos ⟨q, c⟩]
theorem sp_many (h : i < s.size) (a : ¬ s[i] = 35) (b : blankB s[i].toNat = false) (q : s[i] = 34 ∨ bareB s[i].toNat = true) (m : out.length = 16) : splitGo s (f + 1) out i = ([], (i : Int), 12) := by
  rw [splitGo, dif_pos h, if_neg a, if_neg (by rw [b]; decide), if_neg (by rcases q with q | q; exact fun x => x.1 q; exact fun x => by rw [q] at x; exact absurd x.2 (by decide)), if_pos m]
theorem sp_quo (h : i < s.size) (a : ¬ s[i] = 35) (b : blankB s[i].toNat = false) (q : s[i] = 34) (m : ¬ out.length = 16) : splitGo s (f + 1) out i = (match quoAt s (i + 1) with
        | none => ([], (i : Int), 6)
        | some e =>
          match badIn s (i + 1) e with
          | some k => ([], (k : Int), 6)
          | none => if blocked s (e + 1) = true then ([], ((e + 1 : Nat) : Int), 6) else splitGo s f (out ++ [(s.extract (i + 1) e, (i : Int))]) (e + 1)) := by
  rw [splitGo, dif_pos h, if_neg a, if_neg (by rw [b]; decide), if_neg (fun x => x.1 q), if_neg m, if_pos q]
theorem sp_bare (h : i < s.size) (a : ¬ s[i] = 35) (b : blankB s[i].toNat = false) (q : ¬ s[i] = 34) (c : bareB s[i].toNat = true) (m : ¬ out.length = 16) : splitGo s (f + 1) out i = if blocked s (bareEnd s i) = true then ([], (bareEnd s i : Int), 6) else splitGo s f (out ++ [(s.extract i (bareEnd s i), (i : Int))]) (bareEnd s i) := by
  rw [splitGo, dif_pos h, if_neg a, if_neg (by rw [b]; decide), if_neg (by intro x; rw [c] at x; exact absurd x.2 (by decide)), if_neg m, if_neg q]
end
/-- What a call that answers words, a place and an error's number leaves. -/
def RetFld (w : World) (r : Fld) (e : Ending) (w' : World) : Prop := ∃ A n c, e = .returned (.tuple #[.slice A n c, .int .i64 r.2.1, .int .i64 r.2.2]) ∧ Fs w' A n c r.1 ∧ Below w.heap.size w w'
end Go.Proofs.Ytnojlbeiknkooaa
