/- Plain mathematics of the document's whole numbers of layer 1: lists of digits to the base 65536, the least one first: their value, the list without noughts on top, sums, differences, products, halves. No program here. -/
namespace Go.Proofs.Ytnopgdheffnfdaa

/-- what digits are worth -/
def val : List Nat → Nat
  | [] => 0
  | d :: r => d + 65536 * val r

/-- digits -/
def Dig (l : List Nat) : Prop := ∀ d ∈ l, d < 65536

/-- a number's digits, without noughts on top -/
def digs (n : Nat) : List Nat := if n = 0 then [] else n % 65536 :: digs (n / 65536)
termination_by n
decreasing_by omega

theorem digs_zero : digs 0 = [] := by rw [digs]; rfl
theorem digs_pos {n : Nat} (h : n ≠ 0) : digs n = n % 65536 :: digs (n / 65536) := by rw [digs, if_neg h]

theorem Dig.nil : Dig [] := by intro d h; cases h
theorem Dig.tail {d : Nat} {l : List Nat} (h : Dig (d :: l)) : Dig l := fun x hx => h x (List.mem_cons_of_mem _ hx)
theorem Dig.head {d : Nat} {l : List Nat} (h : Dig (d :: l)) : d < 65536 := h d (List.mem_cons_self ..)
theorem Dig.take {l : List Nat} (h : Dig l) (k : Nat) : Dig (l.take k) := fun x hx => h x (List.mem_of_mem_take hx)
theorem Dig.drop {l : List Nat} (h : Dig l) (k : Nat) : Dig (l.drop k) := fun x hx => h x (List.mem_of_mem_drop hx)
theorem Dig.snoc {l : List Nat} {d : Nat} (h : Dig l) (hd : d < 65536) : Dig (l ++ [d]) := by
  intro x hx
  rcases List.mem_append.1 hx with hx | hx
  · exact h x hx
  · rw [List.mem_singleton.1 hx]; exact hd
theorem Dig.set {l : List Nat} (h : Dig l) {i d : Nat} (hd : d < 65536) : Dig (l.set i d) := by
  intro x hx
  rcases List.mem_or_eq_of_mem_set hx with hx | rfl
  · exact h x hx
  · exact hd
theorem Dig.getD {l : List Nat} (h : Dig l) (i : Nat) : l.getD i 0 < 65536 := by
  rw [List.getD_eq_getElem?_getD]
  rcases hi : l[i]? with _ | x
  · simp
  · exact h x (List.mem_of_getElem? hi)
theorem Dig.replicate (n : Nat) : Dig (List.replicate n 0) := by
  intro x hx
  rw [(List.mem_replicate.1 hx).2]; decide

theorem val_append (a b : List Nat) : val (a ++ b) = val a + 65536 ^ a.length * val b := by
  induction a with
  | nil => simp [val]
  | cons d r ih =>
    simp only [List.cons_append, val, ih, List.length_cons, Nat.pow_succ]
    rw [Nat.mul_add, Nat.mul_comm (65536 ^ r.length) 65536, Nat.mul_assoc]
    omega
theorem val_lt {l : List Nat} (h : Dig l) : val l < 65536 ^ l.length := by
  induction l with
  | nil => simp [val]
  | cons d r ih =>
    have h1 := ih h.tail
    have h2 := h.head
    simp only [val, List.length_cons, Nat.pow_succ]
    omega
theorem val_replicate (n : Nat) : val (List.replicate n 0) = 0 := by
  induction n with
  | zero => rfl
  | succ n ih => rw [List.replicate_succ, val, ih]

theorem dig_digs (n : Nat) : Dig (digs n) := by
  induction n using Nat.strongRecOn with
  | _ n ih =>
    by_cases h : n = 0
    · subst h; rw [digs_zero]; exact Dig.nil
    · rw [digs_pos h]
      intro x hx
      rcases List.mem_cons.1 hx with rfl | hx
      · exact Nat.mod_lt _ (by decide)
      · exact ih (n / 65536) (by omega) x hx
theorem val_digs (n : Nat) : val (digs n) = n := by
  induction n using Nat.strongRecOn with
  | _ n ih =>
    by_cases h : n = 0
    · subst h; rw [digs_zero]; rfl
    · rw [digs_pos h, val, ih (n / 65536) (by omega)]
      omega
theorem digs_nil {n : Nat} : digs n = [] ↔ n = 0 := by
  constructor
  · intro h; have := val_digs n; rw [h] at this; exact this.symm
  · rintro rfl; exact digs_zero

theorem digs_cons (d m : Nat) (hd : d < 65536) (h : d + 65536 * m ≠ 0) : digs (d + 65536 * m) = d :: digs m := by
  rw [digs_pos h]
  rw [show (d + 65536 * m) % 65536 = d from by omega, show (d + 65536 * m) / 65536 = m from by omega]

/-- digits whose top isn't nought are those of their value -/
theorem digs_val {l : List Nat} (h : Dig l) (ht : ∀ k, l.length = k + 1 → l.getD k 0 ≠ 0) : digs (val l) = l := by
  induction l with
  | nil => exact digs_zero
  | cons d r ih =>
    have hr : ∀ k, r.length = k + 1 → r.getD k 0 ≠ 0 := by
      intro k hk
      have := ht (k + 1) (by simp [hk])
      simpa using this
    have hne : d + 65536 * val r ≠ 0 := by
      rcases r with _ | ⟨x, r⟩
      · have := ht 0 rfl
        simp at this
        simp [val]; exact this
      · intro h0
        have h1 : val (x :: r) = 0 := by omega
        have h2 := ih h.tail hr
        rw [h1, digs_zero] at h2
        cases h2
    rw [val, digs_cons d _ h.head hne, ih h.tail hr]

theorem val_take_succ (l : List Nat) (k : Nat) : val (l.take (k + 1)) = val (l.take k) + 65536 ^ k * l.getD k 0 := by
  rcases Nat.lt_or_ge k l.length with h | h
  · rw [List.take_succ_eq_append_getElem h, val_append, List.length_take_of_le (by omega)]
    simp [val, h]
  · rw [List.take_of_length_le (by omega), List.take_of_length_le h, List.getD_eq_getElem?_getD, List.getElem?_eq_none h]
    simp
theorem val_drop (l : List Nat) (k : Nat) (h : k < l.length) : val (l.drop k) = l.getD k 0 + 65536 * val (l.drop (k + 1)) := by
  rw [List.drop_eq_getElem_cons h, val]
  simp [h]
theorem val_split (l : List Nat) (k : Nat) (h : k ≤ l.length) : val l = val (l.take k) + 65536 ^ k * val (l.drop k) := by
  have := val_append (l.take k) (l.drop k)
  rw [List.take_append_drop, List.length_take_of_le h] at this
  exact this

/-- noughts on top taken away -/
theorem tidy_step {l : List Nat} {k : Nat} (h : val (l.take (k + 1)) = val l) (h0 : l.getD k 0 = 0) : val (l.take k) = val l := by
  rw [← h, val_take_succ, h0]; simp
theorem tidy_end {l : List Nat} {k : Nat} (hd : Dig l) (hk : k ≤ l.length) (h : val (l.take k) = val l) (h0 : ∀ j, k = j + 1 → l.getD j 0 ≠ 0) : l.take k = digs (val l) := by
  rw [← h]
  refine (digs_val (hd.take k) fun j hj => ?_).symm
  rw [List.length_take_of_le hk] at hj
  have h1 := h0 j hj
  have h2 : (l.take k)[j]? = l[j]? := by rw [List.getElem?_take]; simp [show j < k from by omega]
  simpa [List.getD_eq_getElem?_getD, h2] using h1

theorem digs_len_le {n k : Nat} (h : n < 65536 ^ k) : (digs n).length ≤ k := by
  induction k generalizing n with
  | zero =>
    have : n = 0 := by simpa using h
    rw [this, digs_zero]; simp
  | succ k ih =>
    by_cases h0 : n = 0
    · rw [h0, digs_zero]; simp
    · rw [digs_pos h0]
      have : n / 65536 < 65536 ^ k := by
        rw [Nat.pow_succ] at h; omega
      have := ih this
      simp only [List.length_cons]; omega
theorem lt_of_digs_len {n k : Nat} (h : (digs n).length ≤ k) : n < 65536 ^ k := by
  have h1 := val_lt (dig_digs n)
  rw [val_digs] at h1
  exact Nat.lt_of_lt_of_le h1 (Nat.pow_le_pow_right (by decide) h)
theorem lt_of_len_lt {a b : Nat} (h : (digs a).length < (digs b).length) : a < b := by
  rcases Nat.lt_or_ge a b with h1 | h1
  · exact h1
  · exfalso
    have h2 : b < 65536 ^ (digs a).length := Nat.lt_of_le_of_lt h1 (lt_of_digs_len (Nat.le_refl _))
    have := digs_len_le h2
    omega

/-- digits held against each other from the top -/
theorem cmp_lt {a b : List Nat} {i : Nat} (ha : Dig a) (_hb : Dig b) (hla : i < a.length) (hlb : i < b.length) (ht : a.drop (i + 1) = b.drop (i + 1)) (h : a.getD i 0 < b.getD i 0) : val a < val b := by
  rw [val_split a i (by omega), val_split b i (by omega), val_drop a i hla, val_drop b i hlb, ht]
  have h1 := val_lt (ha.take i)
  rw [List.length_take_of_le (by omega)] at h1
  have h2 : 65536 ^ i * (a.getD i 0 + 65536 * val (b.drop (i + 1))) + 65536 ^ i ≤ 65536 ^ i * (b.getD i 0 + 65536 * val (b.drop (i + 1))) := by
    rw [← Nat.mul_succ]; exact Nat.mul_le_mul_left _ (by omega)
  omega
theorem cmp_step {a b : List Nat} {i : Nat} (hla : i < a.length) (hlb : i < b.length) (ht : a.drop (i + 1) = b.drop (i + 1)) (h : a.getD i 0 = b.getD i 0) : a.drop i = b.drop i := by
  rw [List.drop_eq_getElem_cons hla, List.drop_eq_getElem_cons hlb, ht]
  simp [hla, hlb] at h
  rw [h]

/-- a sum's digit -/
theorem plus_step {a b out : List Nat} {i c : Nat} (ha : Dig a) (hb : Dig b) (ho : Dig out) (hl : out.length = i) (hc : c ≤ 1)
    (h : val out + c * 65536 ^ i = val (a.take i) + val (b.take i)) :
    let s := a.getD i 0 + b.getD i 0 + c
    Dig (out ++ [s % 65536]) ∧ s / 65536 ≤ 1 ∧ val (out ++ [s % 65536]) + s / 65536 * 65536 ^ (i + 1) = val (a.take (i + 1)) + val (b.take (i + 1)) := by
  intro s
  have h1 := ha.getD i
  have h2 := hb.getD i
  have hs : s = a.getD i 0 + b.getD i 0 + c := rfl
  refine ⟨ho.snoc (Nat.mod_lt _ (by decide)), by omega, ?_⟩
  rw [val_append, val_take_succ, val_take_succ, hl, Nat.pow_succ]
  have e : s = s % 65536 + 65536 * (s / 65536) := by omega
  have e2 : 65536 ^ i * s = 65536 ^ i * (s % 65536) + 65536 ^ i * (65536 * (s / 65536)) := by rw [← Nat.mul_add, ← e]
  have e3 : 65536 ^ i * s = 65536 ^ i * a.getD i 0 + 65536 ^ i * b.getD i 0 + c * 65536 ^ i := by rw [hs, Nat.mul_add, Nat.mul_add, Nat.mul_comm c]
  have e4 : s / 65536 * (65536 ^ i * 65536) = 65536 ^ i * (65536 * (s / 65536)) := by
    rw [Nat.mul_comm, Nat.mul_assoc]
  have e5 : val [s % 65536] = s % 65536 := by simp [val]
  rw [e4, e5]
  omega

/-- a difference's digit -/
theorem minus_step {a b out : List Nat} {i c : Nat} (ha : Dig a) (hb : Dig b) (ho : Dig out) (hl : out.length = i)
    (h : val out + val (b.take i) = val (a.take i) + c * 65536 ^ i) (d c' : Nat) (hd : (d : Int) = (a.getD i 0 : Int) - b.getD i 0 - c + 65536 * c') (hlt : d < 65536) :
    Dig (out ++ [d]) ∧ val (out ++ [d]) + val (b.take (i + 1)) = val (a.take (i + 1)) + c' * 65536 ^ (i + 1) := by
  have h1 := ha.getD i
  have h2 := hb.getD i
  refine ⟨ho.snoc hlt, ?_⟩
  rw [val_append, val_take_succ, val_take_succ, hl, Nat.pow_succ]
  have e5 : val [d] = d := by simp [val]
  rw [e5]
  have e : d + b.getD i 0 + c = a.getD i 0 + 65536 * c' := by omega
  have e2 : 65536 ^ i * d + 65536 ^ i * b.getD i 0 + 65536 ^ i * c = 65536 ^ i * a.getD i 0 + 65536 ^ i * (65536 * c') := by rw [← Nat.mul_add, ← Nat.mul_add, e, Nat.mul_add]
  have e4 : c' * (65536 ^ i * 65536) = 65536 ^ i * (65536 * c') := by
    rw [Nat.mul_comm, Nat.mul_assoc]
  have e6 : c * 65536 ^ i = 65536 ^ i * c := Nat.mul_comm _ _
  rw [e4]
  omega
theorem minus_end {a b out : List Nat} {c : Nat} (ho : Dig out) (hl : out.length = a.length) (hlb : b.length ≤ a.length) (hle : val b ≤ val a)
    (h : val out + val (b.take a.length) = val (a.take a.length) + c * 65536 ^ a.length) : val out = val a - val b := by
  rw [List.take_of_length_le hlb, List.take_of_length_le (Nat.le_refl _)] at h
  have h1 := val_lt ho
  rw [hl] at h1
  rcases Nat.eq_zero_or_pos c with h0 | h0
  · subst h0; omega
  · have : 65536 ^ a.length ≤ c * 65536 ^ a.length := Nat.le_mul_of_pos_left _ h0
    omega

/-- a digit stored -/
theorem val_set {l : List Nat} {j x : Nat} (h : j < l.length) : val (l.set j x) + 65536 ^ j * l.getD j 0 = val l + 65536 ^ j * x := by
  induction l generalizing j with
  | nil => simp at h
  | cons d r ih =>
    rcases j with _ | j
    · simp [val]; omega
    · have h1 := ih (j := j) (by simpa using h)
      simp only [List.set_cons_succ, val, List.getD_cons_succ, Nat.pow_succ]
      have e1 : 65536 ^ j * 65536 * r.getD j 0 = 65536 * (65536 ^ j * r.getD j 0) := by rw [Nat.mul_comm (65536 ^ j), Nat.mul_assoc]
      have e2 : 65536 ^ j * 65536 * x = 65536 * (65536 ^ j * x) := by rw [Nat.mul_comm (65536 ^ j), Nat.mul_assoc]
      rw [e1, e2]
      omega

/-- a product's digit: v is what the digits were worth ahead of the round of the digit x of a -/
theorem mul_step {out b : List Nat} {i k c x v : Nat} (ho : Dig out) (hb : Dig b) (hx : x < 65536) (hc : c < 65536) (hj : i + k < out.length)
    (h : val out + c * 65536 ^ (i + k) = v + x * val (b.take k) * 65536 ^ i) :
    let s := out.getD (i + k) 0 + x * b.getD k 0 + c
    Dig (out.set (i + k) (s % 65536)) ∧ s / 65536 < 65536 ∧ s ≤ 4294967295 ∧ val (out.set (i + k) (s % 65536)) + s / 65536 * 65536 ^ (i + k + 1) = v + x * val (b.take (k + 1)) * 65536 ^ i := by
  intro s
  have h1 := ho.getD (i + k)
  have h2 := hb.getD k
  have h3 : x * b.getD k 0 ≤ 65535 * 65535 := Nat.mul_le_mul (by omega) (by omega)
  have hs : s = out.getD (i + k) 0 + x * b.getD k 0 + c := rfl
  refine ⟨ho.set (Nat.mod_lt _ (by decide)), by omega, by omega, ?_⟩
  have h4 := val_set (x := s % 65536) hj
  rw [val_take_succ, Nat.pow_succ]
  have e : s = s % 65536 + 65536 * (s / 65536) := by omega
  generalize hP : 65536 ^ (i + k) = P at *
  have hP2 : P = 65536 ^ i * 65536 ^ k := by rw [← hP, Nat.pow_add]
  have e2 : P * s = P * (s % 65536) + P * (65536 * (s / 65536)) := by rw [← Nat.mul_add, ← e]
  have e3 : P * s = P * out.getD (i + k) 0 + P * (x * b.getD k 0) + P * c := by rw [hs, Nat.mul_add, Nat.mul_add]
  have e4 : s / 65536 * (P * 65536) = P * (65536 * (s / 65536)) := by
    rw [Nat.mul_comm, Nat.mul_assoc]
  have e5 : x * (val (b.take k) + 65536 ^ k * b.getD k 0) * 65536 ^ i = x * val (b.take k) * 65536 ^ i + P * (x * b.getD k 0) := by
    rw [Nat.mul_add, Nat.add_mul, hP2]
    congr 1
    ac_rfl
  have e6 : c * P = P * c := Nat.mul_comm _ _
  rw [e4, e5]
  omega

/-- where something is carried there is room -/
theorem mul_room {a b out : List Nat} {i k c : Nat} (ha : Dig a) (hb : Dig b) (hi : i < a.length) (hc : 0 < c)
    (h : val out + c * 65536 ^ (i + k) = val (a.take i) * val b + a.getD i 0 * val (b.take k) * 65536 ^ i) (hk : b.length ≤ k) : k ≤ b.length := by
  rcases Nat.lt_or_ge b.length k with hlt | hge
  · exfalso
    rw [List.take_of_length_le hk] at h
    have h1 : val (a.take (i + 1)) < 65536 ^ (i + 1) := by
      have := val_lt (ha.take (i + 1))
      rwa [List.length_take_of_le (by omega)] at this
    have h2 := val_lt hb
    have e : val (a.take i) * val b + a.getD i 0 * val b * 65536 ^ i = val (a.take (i + 1)) * val b := by
      rw [val_take_succ, Nat.add_mul]
      congr 1
      rw [Nat.mul_comm (65536 ^ i), Nat.mul_assoc, Nat.mul_assoc, Nat.mul_comm (val b)]
    have h3 : val (a.take (i + 1)) * val b < 65536 ^ (i + 1) * 65536 ^ b.length := Nat.mul_lt_mul'' h1 h2
    have h4 : 65536 ^ (i + 1) * 65536 ^ b.length ≤ 65536 ^ (i + k) := by
      rw [← Nat.pow_add]; exact Nat.pow_le_pow_right (by decide) (by omega)
    have h5 : 65536 ^ (i + k) ≤ c * 65536 ^ (i + k) := Nat.le_mul_of_pos_left _ hc
    omega
  · exact hge
theorem mul_round {a b out : List Nat} {i k : Nat} (h : val out + 0 * 65536 ^ (i + k) = val (a.take i) * val b + a.getD i 0 * val (b.take k) * 65536 ^ i) (hk : b.length ≤ k) :
    val out = val (a.take (i + 1)) * val b := by
  rw [List.take_of_length_le hk] at h
  rw [val_take_succ, Nat.add_mul]
  have : 65536 ^ i * a.getD i 0 * val b = a.getD i 0 * val b * 65536 ^ i := by
    rw [Nat.mul_comm (65536 ^ i), Nat.mul_assoc, Nat.mul_assoc, Nat.mul_comm (val b)]
  omega

/-- a digit of a number, and its bits -/
theorem digit_of {l : List Nat} (h : Dig l) (j : Nat) (hj : j < l.length) : val l / 65536 ^ j % 65536 = l.getD j 0 := by
  have h1 := val_lt (h.take j)
  rw [List.length_take_of_le (by omega)] at h1
  have hd := h.getD j
  rw [val_split l j (by omega), Nat.add_mul_div_left _ _ (Nat.pow_pos (by decide)), Nat.div_eq_of_lt h1, val_drop l j hj]
  omega
theorem bit_of {l : List Nat} (h : Dig l) (i : Nat) (hi : i < 16 * l.length) : l.getD (i / 16) 0 / 2 ^ (i % 16) % 2 = val l / 2 ^ i % 2 := by
  have hj : i / 16 < l.length := by omega
  rw [← digit_of h (i / 16) hj]
  have e : (2 : Nat) ^ i = 65536 ^ (i / 16) * 2 ^ (i % 16) := by
    rw [show (65536 : Nat) = 2 ^ 16 from rfl, ← Nat.pow_mul, ← Nat.pow_add]
    congr 1
    omega
  rw [e, ← Nat.div_div_eq_div_mul]
  generalize val l / 65536 ^ (i / 16) = m
  have ht : i % 16 < 16 := Nat.mod_lt _ (by decide)
  have e2 : (65536 : Nat) = 2 ^ (i % 16) * (2 * 2 ^ (15 - i % 16)) := by
    rw [← Nat.mul_assoc, ← Nat.pow_succ, ← Nat.pow_add, show i % 16 + 1 + (15 - i % 16) = 16 from by omega]
  rw [e2, Nat.mod_mul_right_div_self, Nat.mod_mul_right_mod]
end Go.Proofs.Ytnopgdheffnfdaa
