import Derived.Test.YtnkmlfbnfndfpaaGreatDoorRows
import Derived.WalkKit
import Derived.ProofKit
import Derived.OpenShut
import Derived.Below
import Derived.ChangeSame
import Derived.Deep.Draws
import Derived.IntWalk
import Derived.Lib.Hide
import Derived.LoopTactic
import Derived.Outline
import Derived.OwnWalk
import Derived.Maps.AppendAt
import Derived.Laws.OwnMore
import Derived.Deep.QuietTactic
import Derived.BigQuiet
import Derived.Deep.RegionHeld3
/- Numbers of 64 bits: what it is to be one. -/
namespace Go.Proofs.YtnkmlfbnfndfpaaGreatDoor
open Go.RowKit

/-- a number of 64 bits -/
def In64 (x : Int) : Prop := -9223372036854775808 ≤ x ∧ x ≤ 9223372036854775807
instance (x : Int) : Decidable (In64 x) := by unfold In64; infer_instance
theorem in64 {x : Int} (h : (Lit.int .i64 x).wf = true) : In64 x := by
  exact bounds_i64 h
end Go.Proofs.YtnkmlfbnfndfpaaGreatDoor

/- Plain mathematics of the document's whole numbers of layer 1: lists of digits to the base 65536, the least one first: their value, the list without noughts on top, sums, differences, products, halves. No program here. -/
namespace Go.Proofs.YtnkmlfbnfndfpaaGreatDoor

/-- what digits are worth -/
def val : List Nat → Nat
  | [] => 0
  | d :: r => d + 65536 * val r

/-- digits -/
def Dig (l : List Nat) : Prop := ∀ d ∈ l, d < 65536

/-- a number's digits, without noughts on top -/
def digs (n : Nat) : List Nat := if n = 0 then [] else n % 65536 :: digs (n / 65536)
termination_by n
decreasing_by omega

theorem digs_zero : digs 0 = [] := by rw [digs]; rfl
theorem digs_pos {n : Nat} (h : n ≠ 0) : digs n = n % 65536 :: digs (n / 65536) := by rw [digs, if_neg h]

theorem Dig.nil : Dig [] := by intro d h; cases h
theorem Dig.tail {d : Nat} {l : List Nat} (h : Dig (d :: l)) : Dig l := fun x hx => h x (List.mem_cons_of_mem _ hx)
theorem Dig.head {d : Nat} {l : List Nat} (h : Dig (d :: l)) : d < 65536 := h d (List.mem_cons_self ..)
theorem Dig.take {l : List Nat} (h : Dig l) (k : Nat) : Dig (l.take k) := fun x hx => h x (List.mem_of_mem_take hx)
theorem Dig.drop {l : List Nat} (h : Dig l) (k : Nat) : Dig (l.drop k) := fun x hx => h x (List.mem_of_mem_drop hx)
theorem Dig.snoc {l : List Nat} {d : Nat} (h : Dig l) (hd : d < 65536) : Dig (l ++ [d]) := by
  intro x hx
  rcases List.mem_append.1 hx with hx | hx
  · exact h x hx
  · rw [List.mem_singleton.1 hx]; exact hd
theorem Dig.set {l : List Nat} (h : Dig l) {i d : Nat} (hd : d < 65536) : Dig (l.set i d) := by
  intro x hx
  rcases List.mem_or_eq_of_mem_set hx with hx | rfl
  · exact h x hx
  · exact hd
theorem Dig.getD {l : List Nat} (h : Dig l) (i : Nat) : l.getD i 0 < 65536 := by
  rw [List.getD_eq_getElem?_getD]
  rcases hi : l[i]? with _ | x
  · simp
  · exact h x (List.mem_of_getElem? hi)
theorem Dig.replicate (n : Nat) : Dig (List.replicate n 0) := by
  intro x hx
  rw [(List.mem_replicate.1 hx).2]; decide

theorem val_append (a b : List Nat) : val (a ++ b) = val a + 65536 ^ a.length * val b := by
  induction a with
  | nil => simp [val]
  | cons d r ih =>
    simp only [List.cons_append, val, ih, List.length_cons, Nat.pow_succ]
    rw [Nat.mul_add, Nat.mul_comm (65536 ^ r.length) 65536, Nat.mul_assoc]
    omega
theorem val_lt {l : List Nat} (h : Dig l) : val l < 65536 ^ l.length := by
  induction l with
  | nil => simp [val]
  | cons d r ih =>
    have h1 := ih h.tail
    have h2 := h.head
    simp only [val, List.length_cons, Nat.pow_succ]
    omega
theorem val_replicate (n : Nat) : val (List.replicate n 0) = 0 := by
  induction n with
  | zero => rfl
  | succ n ih => rw [List.replicate_succ, val, ih]

theorem dig_digs (n : Nat) : Dig (digs n) := by
  induction n using Nat.strongRecOn with
  | _ n ih =>
    by_cases h : n = 0
    · subst h; rw [digs_zero]; exact Dig.nil
    · rw [digs_pos h]
      intro x hx
      rcases List.mem_cons.1 hx with rfl | hx
      · exact Nat.mod_lt _ (by decide)
      · exact ih (n / 65536) (by omega) x hx
theorem val_digs (n : Nat) : val (digs n) = n := by
  induction n using Nat.strongRecOn with
  | _ n ih =>
    by_cases h : n = 0
    · subst h; rw [digs_zero]; rfl
    · rw [digs_pos h, val, ih (n / 65536) (by omega)]
      omega
theorem digs_nil {n : Nat} : digs n = [] ↔ n = 0 := by
  constructor
  · intro h; have := val_digs n; rw [h] at this; exact this.symm
  · rintro rfl; exact digs_zero

theorem digs_cons (d m : Nat) (hd : d < 65536) (h : d + 65536 * m ≠ 0) : digs (d + 65536 * m) = d :: digs m := by
  rw [digs_pos h]
  rw [show (d + 65536 * m) % 65536 = d from by omega, show (d + 65536 * m) / 65536 = m from by omega]

/-- digits whose top isn't nought are those of their value -/
theorem digs_val {l : List Nat} (h : Dig l) (ht : ∀ k, l.length = k + 1 → l.getD k 0 ≠ 0) : digs (val l) = l := by
  induction l with
  | nil => exact digs_zero
  | cons d r ih =>
    have hr : ∀ k, r.length = k + 1 → r.getD k 0 ≠ 0 := by
      intro k hk
      have := ht (k + 1) (by simp [hk])
      simpa using this
    have hne : d + 65536 * val r ≠ 0 := by
      rcases r with _ | ⟨x, r⟩
      · have := ht 0 rfl
        simp at this
        simp [val]; exact this
      · intro h0
        have h1 : val (x :: r) = 0 := by omega
        have h2 := ih h.tail hr
        rw [h1, digs_zero] at h2
        cases h2
    rw [val, digs_cons d _ h.head hne, ih h.tail hr]

theorem val_take_succ (l : List Nat) (k : Nat) : val (l.take (k + 1)) = val (l.take k) + 65536 ^ k * l.getD k 0 := by
  rcases Nat.lt_or_ge k l.length with h | h
  · rw [List.take_succ_eq_append_getElem h, val_append, List.length_take_of_le (by omega)]
    simp [val, h]
  · rw [List.take_of_length_le (by omega), List.take_of_length_le h, List.getD_eq_getElem?_getD, List.getElem?_eq_none h]
    simp
theorem val_drop (l : List Nat) (k : Nat) (h : k < l.length) : val (l.drop k) = l.getD k 0 + 65536 * val (l.drop (k + 1)) := by
  rw [List.drop_eq_getElem_cons h, val]
  simp [h]
theorem val_split (l : List Nat) (k : Nat) (h : k ≤ l.length) : val l = val (l.take k) + 65536 ^ k * val (l.drop k) := by
  have := val_append (l.take k) (l.drop k)
  rw [List.take_append_drop, List.length_take_of_le h] at this
  exact this

/-- noughts on top taken away -/
theorem tidy_step {l : List Nat} {k : Nat} (h : val (l.take (k + 1)) = val l) (h0 : l.getD k 0 = 0) : val (l.take k) = val l := by
  rw [← h, val_take_succ, h0]; simp
theorem tidy_end {l : List Nat} {k : Nat} (hd : Dig l) (hk : k ≤ l.length) (h : val (l.take k) = val l) (h0 : ∀ j, k = j + 1 → l.getD j 0 ≠ 0) : l.take k = digs (val l) := by
  rw [← h]
  refine (digs_val (hd.take k) fun j hj => ?_).symm
  rw [List.length_take_of_le hk] at hj
  have h1 := h0 j hj
  have h2 : (l.take k)[j]? = l[j]? := by rw [List.getElem?_take]; simp [show j < k from by omega]
  simpa [List.getD_eq_getElem?_getD, h2] using h1

theorem digs_len_le {n k : Nat} (h : n < 65536 ^ k) : (digs n).length ≤ k := by
  induction k generalizing n with
  | zero =>
    have : n = 0 := by simpa using h
    rw [this, digs_zero]; simp
  | succ k ih =>
    by_cases h0 : n = 0
    · rw [h0, digs_zero]; simp
    · rw [digs_pos h0]
      have : n / 65536 < 65536 ^ k := by
        rw [Nat.pow_succ] at h; omega
      have := ih this
      simp only [List.length_cons]; omega
theorem lt_of_digs_len {n k : Nat} (h : (digs n).length ≤ k) : n < 65536 ^ k := by
  have h1 := val_lt (dig_digs n)
  rw [val_digs] at h1
  exact Nat.lt_of_lt_of_le h1 (Nat.pow_le_pow_right (by decide) h)
theorem lt_of_len_lt {a b : Nat} (h : (digs a).length < (digs b).length) : a < b := by
  rcases Nat.lt_or_ge a b with h1 | h1
  · exact h1
  · exfalso
    have h2 : b < 65536 ^ (digs a).length := Nat.lt_of_le_of_lt h1 (lt_of_digs_len (Nat.le_refl _))
    have := digs_len_le h2
    omega

/-- digits held against each other from the top -/
theorem cmp_lt {a b : List Nat} {i : Nat} (ha : Dig a) (_hb : Dig b) (hla : i < a.length) (hlb : i < b.length) (ht : a.drop (i + 1) = b.drop (i + 1)) (h : a.getD i 0 < b.getD i 0) : val a < val b := by
  rw [val_split a i (by omega), val_split b i (by omega), val_drop a i hla, val_drop b i hlb, ht]
  have h1 := val_lt (ha.take i)
  rw [List.length_take_of_le (by omega)] at h1
  have h2 : 65536 ^ i * (a.getD i 0 + 65536 * val (b.drop (i + 1))) + 65536 ^ i ≤ 65536 ^ i * (b.getD i 0 + 65536 * val (b.drop (i + 1))) := by
    rw [← Nat.mul_succ]; exact Nat.mul_le_mul_left _ (by omega)
  omega
theorem cmp_step {a b : List Nat} {i : Nat} (hla : i < a.length) (hlb : i < b.length) (ht : a.drop (i + 1) = b.drop (i + 1)) (h : a.getD i 0 = b.getD i 0) : a.drop i = b.drop i := by
  rw [List.drop_eq_getElem_cons hla, List.drop_eq_getElem_cons hlb, ht]
  simp [hla, hlb] at h
  rw [h]

/-- a sum's digit -/
theorem plus_step {a b out : List Nat} {i c : Nat} (ha : Dig a) (hb : Dig b) (ho : Dig out) (hl : out.length = i) (hc : c ≤ 1)
    (h : val out + c * 65536 ^ i = val (a.take i) + val (b.take i)) :
    let s := a.getD i 0 + b.getD i 0 + c
    Dig (out ++ [s % 65536]) ∧ s / 65536 ≤ 1 ∧ val (out ++ [s % 65536]) + s / 65536 * 65536 ^ (i + 1) = val (a.take (i + 1)) + val (b.take (i + 1)) := by
  intro s
  have h1 := ha.getD i
  have h2 := hb.getD i
  have hs : s = a.getD i 0 + b.getD i 0 + c := rfl
  refine ⟨ho.snoc (Nat.mod_lt _ (by decide)), by omega, ?_⟩
  rw [val_append, val_take_succ, val_take_succ, hl, Nat.pow_succ]
  have e : s = s % 65536 + 65536 * (s / 65536) := by omega
  have e2 : 65536 ^ i * s = 65536 ^ i * (s % 65536) + 65536 ^ i * (65536 * (s / 65536)) := by rw [← Nat.mul_add, ← e]
  have e3 : 65536 ^ i * s = 65536 ^ i * a.getD i 0 + 65536 ^ i * b.getD i 0 + c * 65536 ^ i := by rw [hs, Nat.mul_add, Nat.mul_add, Nat.mul_comm c]
  have e4 : s / 65536 * (65536 ^ i * 65536) = 65536 ^ i * (65536 * (s / 65536)) := by
    rw [Nat.mul_comm, Nat.mul_assoc]
  have e5 : val [s % 65536] = s % 65536 := by simp [val]
  rw [e4, e5]
  omega

/-- a difference's digit -/
theorem minus_step {a b out : List Nat} {i c : Nat} (ha : Dig a) (hb : Dig b) (ho : Dig out) (hl : out.length = i)
    (h : val out + val (b.take i) = val (a.take i) + c * 65536 ^ i) (d c' : Nat) (hd : (d : Int) = (a.getD i 0 : Int) - b.getD i 0 - c + 65536 * c') (hlt : d < 65536) :
    Dig (out ++ [d]) ∧ val (out ++ [d]) + val (b.take (i + 1)) = val (a.take (i + 1)) + c' * 65536 ^ (i + 1) := by
  have h1 := ha.getD i
  have h2 := hb.getD i
  refine ⟨ho.snoc hlt, ?_⟩
  rw [val_append, val_take_succ, val_take_succ, hl, Nat.pow_succ]
  have e5 : val [d] = d := by simp [val]
  rw [e5]
  have e : d + b.getD i 0 + c = a.getD i 0 + 65536 * c' := by omega
  have e2 : 65536 ^ i * d + 65536 ^ i * b.getD i 0 + 65536 ^ i * c = 65536 ^ i * a.getD i 0 + 65536 ^ i * (65536 * c') := by rw [← Nat.mul_add, ← Nat.mul_add, e, Nat.mul_add]
  have e4 : c' * (65536 ^ i * 65536) = 65536 ^ i * (65536 * c') := by
    rw [Nat.mul_comm, Nat.mul_assoc]
  have e6 : c * 65536 ^ i = 65536 ^ i * c := Nat.mul_comm _ _
  rw [e4]
  omega
theorem minus_end {a b out : List Nat} {c : Nat} (ho : Dig out) (hl : out.length = a.length) (hlb : b.length ≤ a.length) (hle : val b ≤ val a)
    (h : val out + val (b.take a.length) = val (a.take a.length) + c * 65536 ^ a.length) : val out = val a - val b := by
  rw [List.take_of_length_le hlb, List.take_of_length_le (Nat.le_refl _)] at h
  have h1 := val_lt ho
  rw [hl] at h1
  rcases Nat.eq_zero_or_pos c with h0 | h0
  · subst h0; omega
  · have : 65536 ^ a.length ≤ c * 65536 ^ a.length := Nat.le_mul_of_pos_left _ h0
    omega

/-- a digit stored -/
theorem val_set {l : List Nat} {j x : Nat} (h : j < l.length) : val (l.set j x) + 65536 ^ j * l.getD j 0 = val l + 65536 ^ j * x := by
  induction l generalizing j with
  | nil => simp at h
  | cons d r ih =>
    rcases j with _ | j
    · simp [val]; omega
    · have h1 := ih (j := j) (by simpa using h)
      simp only [List.set_cons_succ, val, List.getD_cons_succ, Nat.pow_succ]
      have e1 : 65536 ^ j * 65536 * r.getD j 0 = 65536 * (65536 ^ j * r.getD j 0) := by rw [Nat.mul_comm (65536 ^ j), Nat.mul_assoc]
      have e2 : 65536 ^ j * 65536 * x = 65536 * (65536 ^ j * x) := by rw [Nat.mul_comm (65536 ^ j), Nat.mul_assoc]
      rw [e1, e2]
      omega

/-- a product's digit: v is what the digits were worth ahead of the round of the digit x of a -/
theorem mul_step {out b : List Nat} {i k c x v : Nat} (ho : Dig out) (hb : Dig b) (hx : x < 65536) (hc : c < 65536) (hj : i + k < out.length)
    (h : val out + c * 65536 ^ (i + k) = v + x * val (b.take k) * 65536 ^ i) :
    let s := out.getD (i + k) 0 + x * b.getD k 0 + c
    Dig (out.set (i + k) (s % 65536)) ∧ s / 65536 < 65536 ∧ s ≤ 4294967295 ∧ val (out.set (i + k) (s % 65536)) + s / 65536 * 65536 ^ (i + k + 1) = v + x * val (b.take (k + 1)) * 65536 ^ i := by
  intro s
  have h1 := ho.getD (i + k)
  have h2 := hb.getD k
  have h3 : x * b.getD k 0 ≤ 65535 * 65535 := Nat.mul_le_mul (by omega) (by omega)
  have hs : s = out.getD (i + k) 0 + x * b.getD k 0 + c := rfl
  refine ⟨ho.set (Nat.mod_lt _ (by decide)), by omega, by omega, ?_⟩
  have h4 := val_set (x := s % 65536) hj
  rw [val_take_succ, Nat.pow_succ]
  have e : s = s % 65536 + 65536 * (s / 65536) := by omega
  generalize hP : 65536 ^ (i + k) = P at *
  have hP2 : P = 65536 ^ i * 65536 ^ k := by rw [← hP, Nat.pow_add]
  have e2 : P * s = P * (s % 65536) + P * (65536 * (s / 65536)) := by rw [← Nat.mul_add, ← e]
  have e3 : P * s = P * out.getD (i + k) 0 + P * (x * b.getD k 0) + P * c := by rw [hs, Nat.mul_add, Nat.mul_add]
  have e4 : s / 65536 * (P * 65536) = P * (65536 * (s / 65536)) := by
    rw [Nat.mul_comm, Nat.mul_assoc]
  have e5 : x * (val (b.take k) + 65536 ^ k * b.getD k 0) * 65536 ^ i = x * val (b.take k) * 65536 ^ i + P * (x * b.getD k 0) := by
    rw [Nat.mul_add, Nat.add_mul, hP2]
    congr 1
    ac_rfl
  have e6 : c * P = P * c := Nat.mul_comm _ _
  rw [e4, e5]
  omega

/-- where something is carried there is room -/
theorem mul_room {a b out : List Nat} {i k c : Nat} (ha : Dig a) (hb : Dig b) (hi : i < a.length) (hc : 0 < c)
    (h : val out + c * 65536 ^ (i + k) = val (a.take i) * val b + a.getD i 0 * val (b.take k) * 65536 ^ i) (hk : b.length ≤ k) : k ≤ b.length := by
  rcases Nat.lt_or_ge b.length k with hlt | hge
  · exfalso
    rw [List.take_of_length_le hk] at h
    have h1 : val (a.take (i + 1)) < 65536 ^ (i + 1) := by
      have := val_lt (ha.take (i + 1))
      rwa [List.length_take_of_le (by omega)] at this
    have h2 := val_lt hb
    have e : val (a.take i) * val b + a.getD i 0 * val b * 65536 ^ i = val (a.take (i + 1)) * val b := by
      rw [val_take_succ, Nat.add_mul]
      congr 1
      rw [Nat.mul_comm (65536 ^ i), Nat.mul_assoc, Nat.mul_assoc, Nat.mul_comm (val b)]
    have h3 : val (a.take (i + 1)) * val b < 65536 ^ (i + 1) * 65536 ^ b.length := Nat.mul_lt_mul'' h1 h2
    have h4 : 65536 ^ (i + 1) * 65536 ^ b.length ≤ 65536 ^ (i + k) := by
      rw [← Nat.pow_add]; exact Nat.pow_le_pow_right (by decide) (by omega)
    have h5 : 65536 ^ (i + k) ≤ c * 65536 ^ (i + k) := Nat.le_mul_of_pos_left _ hc
    omega
  · exact hge
theorem mul_round {a b out : List Nat} {i k : Nat} (h : val out + 0 * 65536 ^ (i + k) = val (a.take i) * val b + a.getD i 0 * val (b.take k) * 65536 ^ i) (hk : b.length ≤ k) :
    val out = val (a.take (i + 1)) * val b := by
  rw [List.take_of_length_le hk] at h
  rw [val_take_succ, Nat.add_mul]
  have : 65536 ^ i * a.getD i 0 * val b = a.getD i 0 * val b * 65536 ^ i := by
    rw [Nat.mul_comm (65536 ^ i), Nat.mul_assoc, Nat.mul_assoc, Nat.mul_comm (val b)]
  omega

/-- a digit of a number, and its bits -/
theorem digit_of {l : List Nat} (h : Dig l) (j : Nat) (hj : j < l.length) : val l / 65536 ^ j % 65536 = l.getD j 0 := by
  have h1 := val_lt (h.take j)
  rw [List.length_take_of_le (by omega)] at h1
  have hd := h.getD j
  rw [val_split l j (by omega), Nat.add_mul_div_left _ _ (Nat.pow_pos (by decide)), Nat.div_eq_of_lt h1, val_drop l j hj]
  omega
theorem bit_of {l : List Nat} (h : Dig l) (i : Nat) (hi : i < 16 * l.length) : l.getD (i / 16) 0 / 2 ^ (i % 16) % 2 = val l / 2 ^ i % 2 := by
  have hj : i / 16 < l.length := by omega
  rw [← digit_of h (i / 16) hj]
  have e : (2 : Nat) ^ i = 65536 ^ (i / 16) * 2 ^ (i % 16) := by
    rw [show (65536 : Nat) = 2 ^ 16 from rfl, ← Nat.pow_mul, ← Nat.pow_add]
    congr 1
    omega
  rw [e, ← Nat.div_div_eq_div_mul]
  generalize val l / 65536 ^ (i / 16) = m
  have ht : i % 16 < 16 := Nat.mod_lt _ (by decide)
  have e2 : (65536 : Nat) = 2 ^ (i % 16) * (2 * 2 ^ (15 - i % 16)) := by
    rw [← Nat.mul_assoc, ← Nat.pow_succ, ← Nat.pow_add, show i % 16 + 1 + (15 - i % 16) = 16 from by omega]
  rw [e2, Nat.mod_mul_right_div_self, Nat.mod_mul_right_mod]
end Go.Proofs.YtnkmlfbnfndfpaaGreatDoor

/- The row's last step, for a call that returns true, draws and makes new memory, and leaves all that there was as it was: the row's condition on what is left behind the call. -/
namespace Go.Proofs.YtnkmlfbnfndfpaaGreatDoor
open Go.RowKit Go.WideShapes Go.ChangeShapes

theorem own : ownKnob Tryz.prog.godebug = none := by kernel_rfl
theorem below_drewN {B : Nat} {a w : World} (h : Below B a w) (n : Nat) : Below B a (w.drewN n) := ⟨h.os, h.tape, h.output, h.size, h.block⟩

theorem post_below {H : Type} {enc : TypeId × Value → H} {P : Program} {f : Func} {s : ChangeSpec} {apart fresh handsOn again : Bool} {W W' : World} {args : Array Value} {v : Value} {ds gs : List (DataW H)} {before pa pv : List MemPlace}
    (hW : DataW.Whole enc P f.params.toList s.vars apart W args.toList ds gs before)
    (hres : ∀ (b : Nat) (sp : Nat → Bool) (hd : Bool), DataW.TrodAll enc P W' b sp hd f.resultTypes.toList (v.resultList f.resultTypes.size) (s.fn H (ds ++ gs)).results [])
    (hargs : ∀ sp : Nat → Bool, (∀ p ∈ before, sp p.block = true) → DataW.TrodAll enc P W' 0 sp true f.params.toList args.toList (s.fn H (ds ++ gs)).args pa)
    (hvars : ∀ sp : Nat → Bool, (∀ p ∈ before, sp p.block = true) → DataW.TrodVars enc P W' sp s.vars (s.fn H (ds ++ gs)).vars pv)
    (hps : before = pa ++ pv) (hb : Below W.heap.size W W')
    (hok : ∀ (j : Nat) (t : TypeId) (r : Value), f.resultTypes[j]? = some t → (v.resultList f.resultTypes.size)[j]? = some r → Value.okWide P W' .any 0 t r) :
    s.post enc P f apart fresh handsOn again W args v W' := by
  have old : ∀ p ∈ before, p.block < W.heap.size := fun p hp => hW.lt p hp
  have oldB : ∀ p ∈ before, (fun b => decide (b < W.heap.size)) p.block = true := fun p hp => by simpa using old p hp
  refine ⟨ds, gs, before, [], pa, pv, hW, hres _ _ _, hargs _ oldB, hvars _ oldB, World.keptBut_mono (fun p hp => ⟨hp, ?_⟩) (hb.frame (· ∈ before)), fun _ => ?_⟩
  · rw [hps, List.mem_append] at hp
    exact .inr hp
  · obtain ⟨_, _, _, _, _, hz, hn⟩ := hW
    refine ⟨hok, _, _, ([] ++ pa) ++ pv, ⟨[] ++ pa, pv, trodAll_append (hargs _ (fun _ _ => rfl)) (hres _ _ _), hvars _ (fun _ _ => rfl), rfl, ?_, ?_⟩, ?_⟩
    · intro b off hp
      have hin : MemPlace.cell b off ∈ before := by rw [hps]; simpa using hp
      rw [hb.frozen (old _ hin)]
      exact hz b off hin
    · intro ha
      have := hn ha
      rw [hps] at this
      simpa using this
    · intro p hp _
      rw [hps]
      simpa using hp
end Go.Proofs.YtnkmlfbnfndfpaaGreatDoor

/- How a whole number of the document's lies in memory: a slice that reads as a list of digits; a number's sign with the slice of its digits. And the calls digit and tidy. -/
namespace Go.Proofs.YtnkmlfbnfndfpaaGreatDoor
open Go.RowKit

/-- The slice value '.slice A n c' reads as the digits l. -/
structure Ds (w : World) (A : Option Addr) (n c : Nat) (l : List Nat) : Prop where
  len : l.length = n
  cap : n ≤ c
  max : c ≤ maxLen
  dig : Dig l
  cells : 0 < n → ∃ g, A = some ⟨g, 0, none⟩ ∧ g < w.heap.size ∧ ∀ j, j < n → w.cell? ⟨g, j, none⟩ = some (.int .i64 (l.getD j 0 : Nat))

theorem Ds.nil (w : World) : Ds w none 0 0 [] := ⟨rfl, Nat.le_refl _, by simp [maxLen], Dig.nil, fun h => absurd h (by omega)⟩
theorem Ds.below {w w' : World} {A : Option Addr} {n c : Nat} {l : List Nat} (h : Ds w A n c l) (hb : Below w.heap.size w w') : Ds w' A n c l :=
  ⟨h.len, h.cap, h.max, h.dig, fun hn => by
    obtain ⟨g, e, hg, hc⟩ := h.cells hn
    exact ⟨g, e, Nat.lt_of_lt_of_le hg hb.size, fun j hj => (hb.cell (p := ⟨g, j, none⟩) hg).trans (hc j hj)⟩⟩
theorem Ds.alloc {w : World} {A : Option Addr} {n c : Nat} {l : List Nat} (h : Ds w A n c l) (o : Obj) : Ds (w.alloc o) A n c l := h.below ((Below.refl _ _).alloc (Nat.le_refl _) o)
theorem Ds.take {w : World} {A : Option Addr} {n c : Nat} {l : List Nat} (h : Ds w A n c l) {k : Nat} (hk : k ≤ n) : Ds w A k c (l.take k) :=
  ⟨by rw [List.length_take_of_le (by rw [h.len]; exact hk)], Nat.le_trans hk h.cap, h.max, h.dig.take k, fun h0 => by
    obtain ⟨g, e, hg, hc⟩ := h.cells (by omega)
    refine ⟨g, e, hg, fun j hj => ?_⟩
    rw [hc j (by omega)]
    simp [List.getD_eq_getElem?_getD, hj]⟩

/-- A number: its sign and the slice of its digits. -/
structure Zs (w : World) (p : Bool) (A : Option Addr) (n c : Nat) (z : Int) : Prop where
  sign : p = decide (z < 0)
  ds : Ds w A n c (digs z.natAbs)
theorem Zs.below {w w' : World} {p : Bool} {A : Option Addr} {n c : Nat} {z : Int} (h : Zs w p A n c z) (hb : Below w.heap.size w w') : Zs w' p A n c z := ⟨h.sign, h.ds.below hb⟩

/-- What a call that answers a number leaves: that number, and below the old memory's end all as it was. -/
def RetZ (w : World) (z : Int) (e : Ending) (w' : World) : Prop :=
  ∃ p A n c, e = .returned (.agg #[.bool p, .slice A n c]) ∧ Zs w' p A n c z ∧ Below w.heap.size w w'

theorem bcell {B : Nat} {W w1 : World} (hb : Below B W w1) : (∀ b o, b < B → w1.cell? ⟨b, o, none⟩ = W.cell? ⟨b, o, none⟩) ∧ (∀ b o, b < B → w1.frozen? ⟨b, o, none⟩ = W.frozen? ⟨b, o, none⟩) :=
  ⟨fun b o h => hb.cell (p := ⟨b, o, none⟩) h, fun b o h => hb.frozen (p := ⟨b, o, none⟩) h⟩

/-- a number of its sign and its size -/
def sgn (p : Bool) (v : Nat) : Int := if p = true then -(v : Int) else v
theorem sgn_abs (p : Bool) (v : Nat) : (sgn p v).natAbs = v := by unfold sgn; split <;> omega
theorem sgn_neg (p : Bool) (v : Nat) (h : v ≠ 0) : p = decide (sgn p v < 0) := by
  unfold sgn
  cases p
  · simp
  · simp; omega
theorem sgn_zero (p : Bool) : sgn p 0 = 0 := by unfold sgn; split <;> rfl

end Go.Proofs.YtnkmlfbnfndfpaaGreatDoor

/- The calls plus and minus on digits: the sum's digits, the difference's digits, in new memory. -/
namespace Go.Proofs.YtnkmlfbnfndfpaaGreatDoor
open Go.RowKit

def ints (l : List Nat) : List Value := l.map fun (d : Nat) => Value.int .i64 (d : Int)
theorem ints_length (l : List Nat) : (ints l).length = l.length := by simp [ints]
theorem ints_snoc (l : List Nat) (d : Nat) (x : Int) (h : x = d) : ints l ++ [Value.int .i64 x] = ints (l ++ [d]) := by subst h; simp [ints]
theorem int_eq {k : IntKind} {a b : Int} (h : a = b) : Value.int k a = Value.int k b := by rw [h]
theorem int_info : (Tryz.prog.info? 3).map (fun i => (i.zero, i.size, i.bytes)) = some (some (.int .i64 0), 1, 8) := by kernel_rfl

/-- A row of the call's own reads as digits. -/
theorem Ds.of_own {w : World} {base : Nat} {e : TypeId} {v : Value} {n : Nat} {l : List Nat} (h : w.ownsRow base e 1 v n (ints l)) (hd : Dig l) : ∃ A c, v = .slice A n c ∧ Ds w A n c l := by
  have hl : l.length = n := by have := h.1; rw [ints_length, Nat.mul_one] at this; exact this
  rcases h.2 with ⟨rfl, rfl⟩ | ⟨g, cap, cur, rfl, _, hh, hnc, hm, _, _⟩
  · obtain rfl : l = [] := List.eq_nil_of_length_eq_zero hl
    exact ⟨none, 0, rfl, Ds.nil w⟩
  · refine ⟨_, _, rfl, ⟨hl, hnc, hm, hd, fun _ => ⟨g, rfl, (h.lt g rfl).2, fun j hj => ?_⟩⟩⟩
    have := h.cells (g := g) rfl j (.int .i64 (l.getD j 0 : Nat)) (by simp [ints, show j < l.length from by omega])
    have ea : ((⟨g, 0, none⟩ : Addr).add j) = ⟨g, j, none⟩ := by unfold Addr.add; split <;> simp_all
    rw [ea] at this
    exact this

/-- What a call that answers digits leaves. -/
def RetDs (w : World) (x K : Nat) (e : Ending) (w' : World) : Prop :=
  ∃ C k f l, e = .returned (.slice C k f) ∧ Ds w' C k f l ∧ val l = x ∧ k ≤ K ∧ Below w.heap.size w w'

/-- What holds at the head of a round of plus. -/
def PlusRel (w : World) (M : Nat) (a b : List Nat) (v cr i : Value) (wr : World) : Prop :=
  ∃ (out : List Nat) (c k : Nat), wr.ownsRow w.heap.size 3 1 v k (ints out) ∧ cr = .int .i64 c ∧ i = .int .i64 k ∧ out.length = k ∧ Dig out ∧ c ≤ 1 ∧ k ≤ M + 1 ∧ (M < k → c = 0) ∧
    val out + c * 65536 ^ k = val (a.take k) + val (b.take k) ∧ Below w.heap.size w wr

end Go.Proofs.YtnkmlfbnfndfpaaGreatDoor

/- The call minus on digits: the difference's digits, in new memory, where the first number is not less. -/
namespace Go.Proofs.YtnkmlfbnfndfpaaGreatDoor
open Go.RowKit

theorem ds_drewN {w : World} {A : Option Addr} {n c : Nat} {l : List Nat} (h : Ds w A n c l) (k : Nat) : Ds (w.drewN k) A n c l := h.below (below_drewN (Below.refl _ _) k)
theorem own_drewN {w : World} {base : Nat} {e : TypeId} {size : Nat} {v : Value} {n : Nat} {xs : List Value} (h : w.ownsRow base e size v n xs) (k : Nat) : (w.drewN k).ownsRow base e size v n xs := h

/-- What holds at the head of a round of minus. -/
def MinusRel (w : World) (n : Nat) (a b : List Nat) (v cr i : Value) (wr : World) : Prop :=
  ∃ (out : List Nat) (c k : Nat), wr.ownsRow w.heap.size 3 1 v k (ints out) ∧ cr = .int .i64 c ∧ i = .int .i64 k ∧ out.length = k ∧ Dig out ∧ c ≤ 1 ∧ k ≤ n ∧
    val out + val (b.take k) = val (a.take k) + c * 65536 ^ k ∧ Below w.heap.size w wr

end Go.Proofs.YtnkmlfbnfndfpaaGreatDoor

/- The call compare on digits: how two numbers stand to each other. -/
namespace Go.Proofs.YtnkmlfbnfndfpaaGreatDoor
open Go.RowKit

/-- -1, 0, 1 -/
def cmpN (x y : Nat) : Int := if x < y then -1 else if y < x then 1 else 0
theorem cmpN_lt {x y : Nat} (h : x < y) : cmpN x y = -1 := by unfold cmpN; rw [if_pos h]
theorem cmpN_gt {x y : Nat} (h : y < x) : cmpN x y = 1 := by unfold cmpN; rw [if_neg (by omega), if_pos h]
theorem cmpN_eq {x y : Nat} (h : x = y) : cmpN x y = 0 := by unfold cmpN; rw [if_neg (by omega), if_neg (by omega)]
def RetI (w : World) (x : Int) (e : Ending) (w' : World) : Prop := e = .returned (.int .i64 x) ∧ ∃ j, w' = w.drewN j

def CmpRel (w : World) (n : Nat) (a b : List Nat) (i : Value) (wr : World) : Prop :=
  ∃ k : Nat, k ≤ n ∧ i = .int .i64 ((k : Int) - 1) ∧ a.drop k = b.drop k ∧ ∃ j, wr = w.drewN j

end Go.Proofs.YtnkmlfbnfndfpaaGreatDoor

/- The calls OfU, Neg and Abs: a number without a sign, the other sign, without its sign. -/
namespace Go.Proofs.YtnkmlfbnfndfpaaGreatDoor
open Go.RowKit

theorem RetZ.of_eq {w : World} {x y : Int} {e : Ending} {w' : World} (h : RetZ w x e w') (hxy : x = y) : RetZ w y e w' := hxy ▸ h
/-- a number's answer handed on in a new world -/
theorem RetZ.from {w w0 : World} {z : Int} {e : Ending} {w' : World} (h : RetZ w z e w') (hb : Below w0.heap.size w0 w) : RetZ w0 z e w' := by
  obtain ⟨p, A, n, c, he, hz, hb'⟩ := h
  exact ⟨p, A, n, c, he, hz, hb.trans (hb'.mono hb.size)⟩

theorem Zs.val {w : World} {p : Bool} {A : Option Addr} {n c : Nat} {z : Int} (h : Zs w p A n c z) : sgn p z.natAbs = z := by
  unfold sgn
  rw [h.sign]
  by_cases hz : z < 0
  · simp [hz]; omega
  · simp [hz]; omega

/-- Digits stay while a cell is written of a block whose first cell is no number. -/
theorem Ds.set {w : World} {A : Option Addr} {n c : Nat} {l : List Nat} (h : Ds w A n c l) {b : Nat} {x : Bool} (hb : w.cell? ⟨b, 0, none⟩ = some (.bool x)) (o : Nat) (u : Value) : Ds (w.setCell ⟨b, o, none⟩ u) A n c l :=
  ⟨h.len, h.cap, h.max, h.dig, fun hn => by
    obtain ⟨g, e, hg, hc⟩ := h.cells hn
    have hne : g ≠ b := by
      rintro rfl
      have := hc 0 hn
      rw [hb] at this
      cases this
    refine ⟨g, e, by simpa [World.setCell] using hg, fun j hj => ?_⟩
    rw [World.cell?_setCell_other w _ _ _ (fun e => hne (congrArg Addr.block e).symm)]
    exact hc j hj⟩
theorem Zs.set {w : World} {p : Bool} {A : Option Addr} {n c : Nat} {z : Int} (h : Zs w p A n c z) {b : Nat} {x : Bool} (hb : w.cell? ⟨b, 0, none⟩ = some (.bool x)) (o : Nat) (u : Value) : Zs (w.setCell ⟨b, o, none⟩ u) p A n c z := ⟨h.sign, h.ds.set hb o u⟩
/-- both cells of a number's block written -/
theorem Zs.set2 {w : World} {p : Bool} {A : Option Addr} {n c : Nat} {z : Int} (h : Zs w p A n c z) {b : Nat} {x : Bool} (hb : w.cell? ⟨b, 0, none⟩ = some (.bool x)) (r : Bool) (u : Value) :
    Zs ((w.setCell ⟨b, 0, none⟩ (.bool r)).setCell ⟨b, 1, none⟩ u) p A n c z :=
  (h.set hb 0 (.bool r)).set (x := r) (World.cell?_setCell_same _ _ _ hb) 1 u
theorem retZ_mk {w w1 : World} {z : Int} {q : Bool} {B : Option Addr} {m d b : Nat} {x : Bool} (hz : Zs w1 q B m d z) (hw : Below w.heap.size w w1) (hbl : w.heap.size ≤ b) (hx : w1.cell? ⟨b, 0, none⟩ = some (.bool x)) :
    RetZ w z (.returned (.agg #[.bool q, .slice B m d])) ((w1.setCell ⟨b, 0, none⟩ (.bool q)).setCell ⟨b, 1, none⟩ (.slice B m d)) :=
  ⟨q, B, m, d, rfl, hz.set2 hx q _, (hw.setCell (p := ⟨b, 0, none⟩) hbl _).setCell (p := ⟨b, 1, none⟩) hbl _⟩

/-- What holds at the head of a round of OfU, N the number. -/
def OfURel (w0 : World) (N : Nat) (nv v i : Value) (wr : World) : Prop :=
  ∃ (out : List Nat) (k : Nat), k ≤ 4 ∧ nv = .int .u64 ((N / 65536 ^ k : Nat) : Int) ∧ wr.ownsRow w0.heap.size 3 1 v k (ints out) ∧ i = .int .i64 k ∧ out.length = k ∧ Dig out ∧ val out + 65536 ^ k * (N / 65536 ^ k) = N ∧ Below w0.heap.size w0 wr

end Go.Proofs.YtnkmlfbnfndfpaaGreatDoor

/- The calls Add and Sub: the sum and the difference of two numbers. -/
namespace Go.Proofs.YtnkmlfbnfndfpaaGreatDoor
open Go.RowKit

theorem Ds.drew {w : World} {A : Option Addr} {n c : Nat} {l : List Nat} (h : Ds w A n c l) : Ds w.drew A n c l := h.below (Below.refl _ _).drew
theorem Zs.drew {w : World} {p : Bool} {A : Option Addr} {n c : Nat} {z : Int} (h : Zs w p A n c z) : Zs w.drew p A n c z := ⟨h.sign, h.ds.drew⟩

/-- a number in a block of two cells -/
structure Box (w : World) (b : Nat) (p : Bool) (v : Value) : Prop where
  lt : b < w.heap.size
  c0 : w.cell? ⟨b, 0, none⟩ = some (.bool p)
  c1 : w.cell? ⟨b, 1, none⟩ = some v
  f0 : w.frozen? ⟨b, 0, none⟩ = false
  f1 : w.frozen? ⟨b, 1, none⟩ = false
theorem Box.below {w w' : World} {b : Nat} {p : Bool} {v : Value} (h : Box w b p v) {B : Nat} (hb : Below B w w') (hB : b < B) : Box w' b p v :=
  ⟨Nat.lt_of_lt_of_le h.lt hb.size, (hb.cell (p := ⟨b, 0, none⟩) hB).trans h.c0, (hb.cell (p := ⟨b, 1, none⟩) hB).trans h.c1, (hb.frozen (p := ⟨b, 0, none⟩) hB).trans h.f0, (hb.frozen (p := ⟨b, 1, none⟩) hB).trans h.f1⟩
theorem Box.below' {w w' : World} {b : Nat} {p : Bool} {v : Value} (h : Box w b p v) (hb : Below w.heap.size w w') : Box w' b p v := h.below hb h.lt
theorem Box.new (w : World) (p : Bool) (v : Value) (t : TypeId) : Box (w.alloc (.cells #[.bool p, v] t)) w.heap.size p v :=
  ⟨by simp, by simp, by simp, by simp, by simp⟩
theorem Box.alloc {w : World} {b : Nat} {p : Bool} {v : Value} (h : Box w b p v) (o : Obj) : Box (w.alloc o) b p v := h.below' ((Below.refl _ _).alloc (Nat.le_refl _) o)

theorem boxes3 (w : World) (p q r : Bool) (v u s : Value) (t : TypeId) :
    Box (((w.alloc (.cells #[.bool p, v] t)).alloc (.cells #[.bool q, u] t)).alloc (.cells #[.bool r, s] t)) w.heap.size p v ∧
    Box (((w.alloc (.cells #[.bool p, v] t)).alloc (.cells #[.bool q, u] t)).alloc (.cells #[.bool r, s] t)) (w.heap.size + 1) q u ∧
    Box (((w.alloc (.cells #[.bool p, v] t)).alloc (.cells #[.bool q, u] t)).alloc (.cells #[.bool r, s] t)) (w.heap.size + 2) r s ∧
    Below w.heap.size w (((w.alloc (.cells #[.bool p, v] t)).alloc (.cells #[.bool q, u] t)).alloc (.cells #[.bool r, s] t)) := by
  refine ⟨((Box.new w p v t).alloc _).alloc _, ?_, ?_, (((Below.refl _ _).alloc (Nat.le_refl _) _).alloc (by simp) _).alloc (by simp; omega) _⟩
  · have := (Box.new (w.alloc (.cells #[.bool p, v] t)) q u t).alloc (.cells #[.bool r, s] t)
    simpa only [World.size_alloc] using this
  · have := Box.new ((w.alloc (.cells #[.bool p, v] t)).alloc (.cells #[.bool q, u] t)) r s t
    simpa only [World.size_alloc] using this

theorem Box.far {w : World} {b : Nat} {p : Bool} {v : Value} (h : Box w b p v) {b' : Nat} (hne : b' ≠ b) (o : Nat) (u : Value) : Box (w.setCell ⟨b', o, none⟩ u) b p v :=
  have hb : (w.setCell ⟨b', o, none⟩ u).heap[b]? = w.heap[b]? := Below.heap_setCell w ⟨b', o, none⟩ u b (fun e => hne e.symm)
  ⟨by simpa [World.setCell] using h.lt, (World.cell?_of_block (w := w) (a := ⟨b, 0, none⟩) hb).trans h.c0, (World.cell?_of_block (w := w) (a := ⟨b, 1, none⟩) hb).trans h.c1, (World.frozen?_of_block (w := w) (a := ⟨b, 0, none⟩) hb).trans h.f0, (World.frozen?_of_block (w := w) (a := ⟨b, 1, none⟩) hb).trans h.f1⟩
theorem Box.far2 {w : World} {b : Nat} {p : Bool} {v : Value} (h : Box w b p v) {b' : Nat} (hne : b' ≠ b) (u u' : Value) : Box ((w.setCell ⟨b', 0, none⟩ u).setCell ⟨b', 1, none⟩ u') b p v := (h.far hne 0 u).far hne 1 u'
theorem Box.drew {w : World} {b : Nat} {p : Bool} {v : Value} (h : Box w b p v) : Box w.drew b p v := h.below' (Below.refl _ _).drew

/-- the answer out of a block -/
theorem Box.ret {w w1 : World} {z : Int} {q : Bool} {B : Option Addr} {m d b : Nat} {x : Bool} {v : Value} (h : Box w1 b x v) (hz : Zs w1 q B m d z) (hw : Below w.heap.size w w1) (hbl : w.heap.size ≤ b) :
    RetZ w z (.returned (.agg #[.bool q, .slice B m d])) ((w1.setCell ⟨b, 0, none⟩ (.bool q)).setCell ⟨b, 1, none⟩ (.slice B m d)) := retZ_mk hz hw hbl h.c0

theorem below_next {a b c : World} (h : Below a.heap.size a b) (k : Below b.heap.size b c) : Below a.heap.size a c := h.trans (k.mono h.size)

end Go.Proofs.YtnkmlfbnfndfpaaGreatDoor

/- The calls Sub, Cmp, Of and Power: the difference of two numbers, how they stand to each other, a number of 64 bits, and 2 to a power. -/
namespace Go.Proofs.YtnkmlfbnfndfpaaGreatDoor
open Go.RowKit

theorem Zs.len {w : World} {p : Bool} {A : Option Addr} {n c : Nat} {z : Int} (h : Zs w p A n c z) : (digs z.natAbs).length = n := h.ds.len
theorem Zs.small {w : World} {p : Bool} {A : Option Addr} {n c : Nat} {z : Int} (h : Zs w p A n c z) {k : Nat} (hk : z.natAbs < 65536 ^ k) : n ≤ k := by
  rw [← h.len]; exact digs_len_le hk

/-- -1, 0, 1 -/
def cmpZ (x y : Int) : Int := if x < y then -1 else if y < x then 1 else 0
theorem cmpZ_lt {x y : Int} (h : x < y) : cmpZ x y = -1 := by unfold cmpZ; rw [if_pos h]
theorem cmpZ_gt {x y : Int} (h : y < x) : cmpZ x y = 1 := by unfold cmpZ; rw [if_neg (by omega), if_pos h]
theorem cmpZ_eq {x y : Int} (h : x = y) : cmpZ x y = 0 := by unfold cmpZ; rw [if_neg (by omega), if_neg (by omega)]
/-- What a call that answers an integer and makes new memory leaves. -/
def RetN (w : World) (x : Int) (e : Ending) (w' : World) : Prop := e = .returned (.int .i64 x) ∧ Below w.heap.size w w'

theorem boxes2 (w : World) (p q : Bool) (v u : Value) (t : TypeId) :
    Box ((w.alloc (.cells #[.bool p, v] t)).alloc (.cells #[.bool q, u] t)) w.heap.size p v ∧
    Box ((w.alloc (.cells #[.bool p, v] t)).alloc (.cells #[.bool q, u] t)) (w.heap.size + 1) q u ∧
    Below w.heap.size w ((w.alloc (.cells #[.bool p, v] t)).alloc (.cells #[.bool q, u] t)) := by
  refine ⟨(Box.new w p v t).alloc _, ?_, ((Below.refl _ _).alloc (Nat.le_refl _) _).alloc (by simp) _⟩
  have := Box.new (w.alloc (.cells #[.bool p, v] t)) q u t
  simpa only [World.size_alloc] using this

theorem Zs.zero (w : World) : Zs w false none 0 0 0 := ⟨rfl, by rw [show (0 : Int).natAbs = 0 from rfl, digs_zero]; exact Ds.nil w⟩
theorem pow4 : (65536 : Nat) ^ 4 = 18446744073709551616 := by decide

theorem Box.self2 {w : World} {b : Nat} {p : Bool} {v : Value} (h : Box w b p v) (q : Bool) (u : Value) : Box ((w.setCell ⟨b, 0, none⟩ (.bool q)).setCell ⟨b, 1, none⟩ u) b q u := by
  refine ⟨by simpa [World.setCell] using h.lt, ?_, ?_, ?_, ?_⟩
  · rw [World.cell?_setCell_other _ _ _ _ (by simp)]
    exact World.cell?_setCell_same _ _ _ h.c0
  · refine World.cell?_setCell_same _ _ _ (u := v) ?_
    rw [World.cell?_setCell_other _ _ _ _ (by simp)]
    exact h.c1
  · simp [h.f0]
  · simp [h.f1]

/-- What holds at the head of a round of Power: g the answer's block, b the number's. -/
def PowRel (w : World) (N g b : Nat) (i : Value) (wr : World) : Prop :=
  ∃ (k : Nat) (p : Bool) (A : Option Addr) (n c : Nat), i = .int .i64 k ∧ k ≤ N ∧ Box wr g false (.slice none 0 0) ∧ Box wr b p (.slice A n c) ∧ Zs wr p A n c (2 ^ k) ∧ Below w.heap.size w wr

theorem two_pow_digits (k : Nat) : ((2 : Int) ^ k).natAbs < 65536 ^ (k + 1) := by
  rw [Int.natAbs_pow]
  have h1 : (2 : Nat) ^ k ≤ 65536 ^ k := Nat.pow_le_pow_left (by decide) k
  have h2 : (65536 : Nat) ^ k < 65536 ^ (k + 1) := Nat.pow_lt_pow_right (by decide) (Nat.lt_succ_self k)
  exact Nat.lt_of_le_of_lt h1 h2

end Go.Proofs.YtnkmlfbnfndfpaaGreatDoor
