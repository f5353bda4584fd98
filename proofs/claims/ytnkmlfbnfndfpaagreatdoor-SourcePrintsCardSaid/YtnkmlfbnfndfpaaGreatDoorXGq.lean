import Derived.Test.YtnkmlfbnfndfpaaGreatDoorXGa
import Derived.Test.YtnkmlfbnfndfpaaGreatDoorXGw
import Derived.IntWalk
import Derived.Lib.Hide
import Derived.LoopTactic
import Derived.Outline
import Derived.OwnWalk
import Derived.Maps.AppendAt
import Derived.Laws.OwnMore
set_option maxRecDepth 100000
set_option maxHeartbeats 64000000
namespace Go.Proofs.YtnkmlfbnfndfpaaGreatDoor
open Go.RowKit
def strs (l : List ByteArray) : List Value := l.map fun s => Value.string s
theorem strs_length (l : List ByteArray) : (strs l).length = l.length := by simp [strs]
theorem strs_snoc (l : List ByteArray) (s : ByteArray) : strs l ++ [Value.string s] = strs (l ++ [s]) := by simp [strs]
theorem int_eqS {k : IntKind} {a b : Int} (h : a = b) : Value.int k a = Value.int k b := by rw [h]
theorem str_info : (Tryz.prog.info? 9).map (fun i => (i.zero, i.size, i.bytes)) = some (some (.string ⟨#[]⟩), 1, 16) := by kernel_rfl
theorem info_partsS {T : TypeId} {z : Value} {s b : Nat} (h : (Tryz.prog.info? T).map (fun i => (i.zero, i.size, i.bytes)) = some (some z, s, b)) : ∃ i, Tryz.prog.info? T = some i ∧ i.zero = some z ∧ i.size = s ∧ i.bytes = b := by
  cases hi : Tryz.prog.info? T with
  | none => simp [hi] at h
  | some i => simp [hi] at h; exact ⟨i, rfl, h.1, h.2.1, h.2.2⟩
structure Ss (w : World) (A : Option Addr) (n c : Nat) (l : List ByteArray) : Prop where
  len : l.length = n
  cap : n ≤ c
  max : c ≤ maxLen
  cells : 0 < n → ∃ g o, A = some ⟨g, o, none⟩ ∧ g < w.heap.size ∧ ∀ (j : Nat) (h : j < l.length), w.cell? ⟨g, o + j, none⟩ = some (.string l[j])
theorem Ss.nil (w : World) : Ss w none 0 0 [] := ⟨rfl, Nat.le_refl _, by simp [maxLen], fun h => absurd h (by omega)⟩
theorem Ss.below {w w' : World} {A : Option Addr} {n c : Nat} {l : List ByteArray} (h : Ss w A n c l) (hb : Below w.heap.size w w') : Ss w' A n c l :=
  ⟨h.len, h.cap, h.max, fun hn => by
    obtain ⟨g, o, e, hg, hc⟩ := h.cells hn
    exact ⟨g, o, e, Nat.lt_of_lt_of_le hg hb.size, fun j hj => (hb.cell (p := ⟨g, o + j, none⟩) hg).trans (hc j hj)⟩⟩
theorem Ss.of_own {w : World} {base : Nat} {e : TypeId} {v : Value} {n : Nat} {l : List ByteArray} (h : w.ownsRow base e 1 v n (strs l)) : ∃ A c, v = .slice A n c ∧ Ss w A n c l := by
  have hl : l.length = n := by have := h.1; rw [strs_length, Nat.mul_one] at this; exact this
  rcases h.2 with ⟨rfl, rfl⟩ | ⟨g, cap, cur, rfl, _, hh, hnc, hm, _, _⟩
  · obtain rfl : l = [] := List.eq_nil_of_length_eq_zero hl
    exact ⟨none, 0, rfl, Ss.nil w⟩
  · refine ⟨_, _, rfl, ⟨hl, hnc, hm, fun _ => ⟨g, 0, rfl, (h.lt g rfl).2, fun j hj => ?_⟩⟩⟩
    have := h.cells (g := g) rfl j (.string l[j]) (by simp [strs, hj])
    have ea : ((⟨g, 0, none⟩ : Addr).add j) = ⟨g, 0 + j, none⟩ := by unfold Addr.add; split <;> simp_all
    rw [ea] at this
    exact this
def RetSs (w : World) (l : List ByteArray) (e : Ending) (w' : World) : Prop := ∃ A n c, e = .returned (.slice A n c) ∧ Ss w' A n c l ∧ Below w.heap.size w w'
def lnsFrom (s : ByteArray) (a k : Nat) : List ByteArray :=
  if h : k < s.size then (if s[k] = 10 then s.extract a k :: lnsFrom s (k + 1) (k + 1) else lnsFrom s a (k + 1))
  else if a < s.size then [s.extract a s.size] else []
termination_by s.size - k
theorem lns_cut {s : ByteArray} {a k : Nat} (h : k < s.size) (h10 : s[k] = 10) : lnsFrom s a k = s.extract a k :: lnsFrom s (k + 1) (k + 1) := by
  rw [lnsFrom, dif_pos h, if_pos h10]
theorem lns_on {s : ByteArray} {a k : Nat} (h : k < s.size) (h10 : ¬ s[k] = 10) : lnsFrom s a k = lnsFrom s a (k + 1) := by
  rw [lnsFrom, dif_pos h, if_neg h10]
theorem lns_end {s : ByteArray} {a k : Nat} (h : ¬ k < s.size) : lnsFrom s a k = if a < s.size then [s.extract a s.size] else [] := by
  rw [lnsFrom, dif_neg h]
def bareB (b : Int) : Bool := decide (32 < b ∧ b < 127 ∧ ¬ b = 34 ∧ ¬ b = 35)
def blankB (b : Int) : Bool := decide (b = 32 ∨ b = 9)
def quoAt (s : ByteArray) (k : Nat) : Option Nat :=
  if h : k < s.size then (if s[k] = 34 then some k else quoAt s (k + 1)) else none
termination_by s.size - k
theorem quo_here {s : ByteArray} {k : Nat} (h : k < s.size) (q : s[k] = 34) : quoAt s k = some k := by rw [quoAt, dif_pos h, if_pos q]
theorem quo_on {s : ByteArray} {k : Nat} (h : k < s.size) (q : ¬ s[k] = 34) : quoAt s k = quoAt s (k + 1) := by rw [quoAt, dif_pos h, if_neg q]
theorem quo_end {s : ByteArray} {k : Nat} (h : ¬ k < s.size) : quoAt s k = none := by rw [quoAt, dif_neg h]
theorem byte_is {s : ByteArray} {k : Nat} (h : k < s.size) (n : UInt8) (i : Int) (hi : (n.toNat : Int) = i) : (s[k] = n → ((s[k].toNat : Int) == i) = true) ∧ (¬ s[k] = n → ((s[k].toNat : Int) == i) = false) := by
  constructor
  · intro e; rw [e, beq_iff_eq]; exact hi
  · intro e; rw [beq_eq_false_iff_ne]; intro c; exact e (by rw [← UInt8.toNat_inj]; omega)
def words (l : List (ByteArray × Int)) : List Value := l.flatMap fun p => [Value.string p.1, Value.int .i64 p.2]
theorem words_length (l : List (ByteArray × Int)) : (words l).length = 2 * l.length := by
  induction l with
  | nil => rfl
  | cons p l ih =>
    have e : words (p :: l) = Value.string p.1 :: Value.int .i64 p.2 :: words l := rfl
    rw [e]
    simp only [List.length_cons]
    omega
theorem words_snoc (l : List (ByteArray × Int)) (s : ByteArray) (i : Int) : words l ++ [Value.string s, Value.int .i64 i] = words (l ++ [(s, i)]) := by
  unfold words
  rw [List.flatMap_append]
  rfl
theorem words_get (l : List (ByteArray × Int)) : ∀ (j : Nat) (h : j < l.length), (words l)[2 * j]? = some (.string l[j].1) ∧ (words l)[2 * j + 1]? = some (.int .i64 l[j].2) := by
  induction l with
  | nil => intro j h; exact absurd h (by simp)
  | cons p l ih =>
    intro j h
    have e : words (p :: l) = Value.string p.1 :: Value.int .i64 p.2 :: words l := rfl
    rw [e]
    cases j with
    | zero => exact ⟨rfl, rfl⟩
    | succ j =>
      have := ih j (by simpa using h)
      have e1 : 2 * (j + 1) = 2 * j + 1 + 1 := by omega
      rw [e1]
      exact this
structure Fs (w : World) (A : Option Addr) (n c : Nat) (l : List (ByteArray × Int)) : Prop where
  len : l.length = n
  cap : n ≤ c
  max : c ≤ maxLen
  cells : 0 < n → ∃ g o, A = some ⟨g, o, none⟩ ∧ g < w.heap.size ∧ ∀ (j : Nat) (h : j < l.length), w.cell? ⟨g, o + 2 * j, none⟩ = some (.string l[j].1) ∧ w.cell? ⟨g, o + 2 * j + 1, none⟩ = some (.int .i64 l[j].2)
theorem Fs.nil (w : World) : Fs w none 0 0 [] := ⟨rfl, Nat.le_refl _, by simp [maxLen], fun h => absurd h (by omega)⟩
theorem Fs.of_own {w : World} {base : Nat} {e : TypeId} {v : Value} {n : Nat} {l : List (ByteArray × Int)} (h : w.ownsRow base e 2 v n (words l)) : ∃ A c, v = .slice A n c ∧ Fs w A n c l := by
  have hl : l.length = n := by have := h.1; rw [words_length] at this; omega
  rcases h.2 with ⟨rfl, rfl⟩ | ⟨g, cap, cur, rfl, _, hh, hnc, hm, _, _⟩
  · obtain rfl : l = [] := List.eq_nil_of_length_eq_zero hl
    exact ⟨none, 0, rfl, Fs.nil w⟩
  · refine ⟨_, _, rfl, ⟨hl, hnc, hm, fun _ => ⟨g, 0, rfl, (h.lt g rfl).2, fun j hj => ?_⟩⟩⟩
    have h1 := h.cells (g := g) rfl (2 * j) _ (words_get l j hj).1
    have h2 := h.cells (g := g) rfl (2 * j + 1) _ (words_get l j hj).2
    have ea : ∀ k, ((⟨g, 0, none⟩ : Addr).add k) = ⟨g, 0 + k, none⟩ := by intro k; unfold Addr.add; split <;> simp_all
    rw [ea] at h1 h2
    exact ⟨h1, h2⟩
def bareEnd (s : ByteArray) (k : Nat) : Nat :=
  if h : k < s.size then (if bareB s[k].toNat = true then bareEnd s (k + 1) else k) else k
termination_by s.size - k
theorem bareEnd_on {s : ByteArray} {k : Nat} (h : k < s.size) (b : bareB s[k].toNat = true) : bareEnd s k = bareEnd s (k + 1) := by rw [bareEnd, dif_pos h, if_pos b]
theorem bareEnd_here {s : ByteArray} {k : Nat} (h : k < s.size) (b : bareB s[k].toNat = false) : bareEnd s k = k := by rw [bareEnd, dif_pos h, if_neg (by rw [b]; decide)]
theorem bareEnd_end {s : ByteArray} {k : Nat} (h : ¬ k < s.size) : bareEnd s k = k := by rw [bareEnd, dif_neg h]
theorem bareEnd_in {s : ByteArray} : ∀ (d k : Nat), s.size - k ≤ d → k ≤ s.size → k ≤ bareEnd s k ∧ bareEnd s k ≤ s.size := by
  intro d
  induction d with
  | zero => intro k hd hk; rw [bareEnd_end (by omega)]; omega
  | succ d ih =>
    intro k hd hk
    by_cases h : k < s.size
    · cases b : bareB s[k].toNat with
      | true => rw [bareEnd_on h b]; have := ih (k + 1) (by omega) (by omega); omega
      | false => rw [bareEnd_here h b]; omega
    · rw [bareEnd_end h]; omega
theorem bareEnd_lt {s : ByteArray} {k : Nat} (h : k < s.size) (b : bareB s[k].toNat = true) : k < bareEnd s k ∧ bareEnd s k ≤ s.size := by
  rw [bareEnd_on h b]
  have := bareEnd_in (s := s) s.size (k + 1) (by omega) (by omega)
  omega
def badIn (s : ByteArray) (k e : Nat) : Option Nat :=
  if h : k < e then (if g : k < s.size then (if s[k].toNat < 32 ∨ 126 < s[k].toNat then some k else badIn s (k + 1) e) else none) else none
termination_by e - k
theorem badIn_here {s : ByteArray} {k e : Nat} (h : k < e) (g : k < s.size) (b : s[k].toNat < 32 ∨ 126 < s[k].toNat) : badIn s k e = some k := by rw [badIn, dif_pos h, dif_pos g, if_pos b]
theorem badIn_on {s : ByteArray} {k e : Nat} (h : k < e) (g : k < s.size) (b : ¬ (s[k].toNat < 32 ∨ 126 < s[k].toNat)) : badIn s k e = badIn s (k + 1) e := by rw [badIn, dif_pos h, dif_pos g, if_neg b]
theorem badIn_end {s : ByteArray} {k e : Nat} (h : ¬ k < e) : badIn s k e = none := by rw [badIn, dif_neg h]
def blocked (s : ByteArray) (j : Nat) : Bool := if h : j < s.size then !blankB s[j].toNat && decide (¬ s[j] = 35) else false
abbrev Fld := List (ByteArray × Int) × Int × Int
def splitGo (s : ByteArray) : Nat → List (ByteArray × Int) → Nat → Fld
  | 0, _, _ => ([], 0, 0)
  | f + 1, out, i =>
    if h : i < s.size then
      if s[i] = 35 then (out, 0, 0)
      else if blankB s[i].toNat = true then splitGo s f out (i + 1)
      else if ¬ s[i] = 34 ∧ bareB s[i].toNat = false then ([], (i : Int), 6)
      else if out.length = 16 then ([], (i : Int), 12)
      else if s[i] = 34 then
        match quoAt s (i + 1) with
        | none => ([], (i : Int), 6)
        | some e =>
          match badIn s (i + 1) e with
          | some k => ([], (k : Int), 6)
          | none => if blocked s (e + 1) = true then ([], ((e + 1 : Nat) : Int), 6) else splitGo s f (out ++ [(s.extract (i + 1) e, (i : Int))]) (e + 1)
      else if blocked s (bareEnd s i) = true then ([], (bareEnd s i : Int), 6) else splitGo s f (out ++ [(s.extract i (bareEnd s i), (i : Int))]) (bareEnd s i)
    else (out, 0, 0)
def splitRes (s : ByteArray) : Fld := if 500 < s.size then ([], 500, 12) else splitGo s (s.size + 1) [] 0
section
variable {s : ByteArray} {f i : Nat} {out : List (ByteArray × Int)}
theorem sp_end (h : ¬ i < s.size) : splitGo s (f + 1) out i = (out, 0, 0) := by rw [splitGo, dif_neg h]
theorem sp_remark (h : i < s.size) (a : s[i] = 35) : splitGo s (f + 1) out i = (out, 0, 0) := by rw [splitGo, dif_pos h, if_pos a]
theorem sp_blank (h : i < s.size) (a : ¬ s[i] = 35) (b : blankB s[i].toNat = true) : splitGo s (f + 1) out i = splitGo s f out (i + 1) := by rw [splitGo, dif_pos h, if_neg a, if_pos b]
theorem sp_no (h : i < s.size) (a : ¬ s[i] = 35) (b : blankB s[i].toNat = false) (q : ¬ s[i] = 34) (c : bareB s[i].toNat = false) : splitGo s (f + 1) out i = ([], (i : Int), 6) := by rw [splitGo, dif_pos h, if_neg a, if_neg (by rw [b]; decide), if_pos ⟨q, c⟩]
theorem sp_many (h : i < s.size) (a : ¬ s[i] = 35) (b : blankB s[i].toNat = false) (q : s[i] = 34 ∨ bareB s[i].toNat = true) (m : out.length = 16) : splitGo s (f + 1) out i = ([], (i : Int), 12) := by
  rw [splitGo, dif_pos h, if_neg a, if_neg (by rw [b]; decide), if_neg (by rcases q with q | q; exact fun x => x.1 q; exact fun x => by rw [q] at x; exact absurd x.2 (by decide)), if_pos m]
theorem sp_quo (h : i < s.size) (a : ¬ s[i] = 35) (b : blankB s[i].toNat = false) (q : s[i] = 34) (m : ¬ out.length = 16) : splitGo s (f + 1) out i = (match quoAt s (i + 1) with
        | none => ([], (i : Int), 6)
        | some e =>
          match badIn s (i + 1) e with
          | some k => ([], (k : Int), 6)
          | none => if blocked s (e + 1) = true then ([], ((e + 1 : Nat) : Int), 6) else splitGo s f (out ++ [(s.extract (i + 1) e, (i : Int))]) (e + 1)) := by
  rw [splitGo, dif_pos h, if_neg a, if_neg (by rw [b]; decide), if_neg (fun x => x.1 q), if_neg m, if_pos q]
theorem sp_bare (h : i < s.size) (a : ¬ s[i] = 35) (b : blankB s[i].toNat = false) (q : ¬ s[i] = 34) (c : bareB s[i].toNat = true) (m : ¬ out.length = 16) : splitGo s (f + 1) out i = if blocked s (bareEnd s i) = true then ([], (bareEnd s i : Int), 6) else splitGo s f (out ++ [(s.extract i (bareEnd s i), (i : Int))]) (bareEnd s i) := by
  rw [splitGo, dif_pos h, if_neg a, if_neg (by rw [b]; decide), if_neg (by intro x; rw [c] at x; exact absurd x.2 (by decide)), if_neg m, if_neg q]
end
end Go.Proofs.YtnkmlfbnfndfpaaGreatDoor
namespace Go.Proofs.YtnkmlfbnfndfpaaGreatDoor
open Go.RowKit
def lone (s : ByteArray) (k : Nat) : Bool := if h : k < s.size then decide (s[k] = 34) && (quoAt s (k + 1)).isNone else false
def fixR (s : ByteArray) (r : Fld) : Fld := if r.2.2 = 12 ∧ lone s r.2.1.toNat = true then ([], r.2.1, 6) else r
def splitC (s : ByteArray) : Fld := if 500 < s.size then ([], 500, 12) else fixR s (splitRes s)
theorem fix_id {s : ByteArray} {r : Fld} (h : ¬ r.2.2 = 12) : fixR s r = r := if_neg fun c => h c.1
def okB (c : Int) : Bool := decide (32 ≤ c ∧ c ≤ 126 ∧ ¬ c = 34)
def okPre (t : ByteArray) (k : Nat) : Prop := ∀ (j : Nat) (h : j < t.size), j < k → okB t[j].toNat = true
def okText (t : ByteArray) : Prop := okPre t t.size
def barePre (t : ByteArray) : Nat → Bool
  | 0 => decide (0 < t.size)
  | k + 1 => if h : k < t.size then barePre t k && bareB t[k].toNat else barePre t k
theorem bare_succ {t : ByteArray} {k : Nat} (h : k < t.size) : barePre t (k + 1) = (barePre t k && bareB t[k].toNat) := by
  show (if h : k < t.size then barePre t k && bareB t[k].toNat else barePre t k) = _
  rw [dif_pos h]
def plainT (t : ByteArray) : Bool := barePre t t.size
def joinGo (l : List ByteArray) : Nat → ByteArray
  | 0 => ⟨#[]⟩
  | i + 1 => if h : i < l.length then (let s := if 0 < i then joinGo l i ++ ⟨#[32]⟩ else joinGo l i; if plainT l[i] = true then s ++ l[i] else ((s ++ ⟨#[34]⟩) ++ l[i]) ++ ⟨#[34]⟩) else joinGo l i
theorem join_succ {l : List ByteArray} {i : Nat} (h : i < l.length) : joinGo l (i + 1) = (if plainT l[i] = true then (if 0 < i then joinGo l i ++ ⟨#[32]⟩ else joinGo l i) ++ l[i] else (((if 0 < i then joinGo l i ++ ⟨#[32]⟩ else joinGo l i) ++ ⟨#[34]⟩) ++ l[i]) ++ ⟨#[34]⟩) := by
  show (if h : i < l.length then _ else _) = _
  rw [dif_pos h]
def smallTexts (l : List ByteArray) : Prop := l.length ≤ 100 ∧ ∀ (i : Nat) (h : i < l.length), l[i].size ≤ 2000
theorem size_app (a b : ByteArray) : (a ++ b).size = a.size + b.size := ByteArray.size_append
theorem join_size {l : List ByteArray} (hl : smallTexts l) : ∀ i, (joinGo l i).size ≤ 2003 * i := by
  intro i
  induction i with
  | zero => exact Nat.le_refl _
  | succ i ih =>
    by_cases h : i < l.length
    · have hs := hl.2 i h
      rw [join_succ h]
      have e32 : (⟨#[32]⟩ : ByteArray).size = 1 := rfl
      have e34 : (⟨#[34]⟩ : ByteArray).size = 1 := rfl
      split <;> split <;> simp only [size_app, e32, e34] <;> omega
    · show (if h : i < l.length then _ else _ : ByteArray).size ≤ _
      rw [dif_neg h]
      omega
def allOk (l : List ByteArray) : Prop := ∀ (i : Nat) (h : i < l.length), okText l[i]
instance (t : ByteArray) (k : Nat) : Decidable (okPre t k) := Nat.decidableBallLT t.size (fun j h => j < k → okB t[j].toNat = true)
instance (t : ByteArray) : Decidable (okText t) := inferInstanceAs (Decidable (okPre t t.size))
instance (l : List ByteArray) : Decidable (allOk l) := Nat.decidableBallLT l.length (fun i h => okText l[i])
def joinRes (l : List ByteArray) : ByteArray × Int :=
  if allOk l then (if 16 < l.length ∨ 500 < (joinGo l l.length).size then (⟨#[]⟩, 12) else (joinGo l l.length, 0)) else (⟨#[]⟩, 6)
def enc (t : ByteArray) : ByteArray := if plainT t = true then t else ⟨#[34]⟩ ++ t ++ ⟨#[34]⟩
theorem plain_pre {t : ByteArray} : ∀ k, k ≤ t.size → barePre t k = true → 0 < t.size ∧ ∀ (j : Nat) (h : j < t.size), j < k → bareB t[j].toNat = true := by
  intro k
  induction k with
  | zero => intro _ h; exact ⟨of_decide_eq_true h, fun _ _ h => absurd h (by omega)⟩
  | succ k ih =>
    intro hk h
    rw [bare_succ (by omega), Bool.and_eq_true] at h
    obtain ⟨p, q⟩ := ih (by omega) h.1
    refine ⟨p, fun j hj hlt => ?_⟩
    by_cases e : j = k
    · subst e; exact h.2
    · exact q j hj (by omega)
theorem nil_append (b : ByteArray) : (⟨#[]⟩ : ByteArray) ++ b = b := ByteArray.empty_append
theorem append_nil' (b : ByteArray) : b ++ (⟨#[]⟩ : ByteArray) = b := ByteArray.append_empty
def RetSB (w : World) (r : ByteArray × Int) (e : Ending) (w' : World) : Prop := e = .returned (.tuple #[.string r.1, .int .i64 r.2]) ∧ Below w.heap.size w w'
end Go.Proofs.YtnkmlfbnfndfpaaGreatDoor
