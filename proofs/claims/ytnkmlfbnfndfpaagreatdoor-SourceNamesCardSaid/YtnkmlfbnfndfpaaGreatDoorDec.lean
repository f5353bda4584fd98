/- Plain mathematics of decimal texts: the digits of a number as bytes, a minus ahead of numbers below 0, and the number that digits make. No program here. -/
namespace Go.Proofs.YtnkmlfbnfndfpaaGreatDoor

/-- a number's decimal digits, as bytes -/
def dec (n : Nat) : List UInt8 := if n < 10 then [UInt8.ofNat (48 + n)] else dec (n / 10) ++ [UInt8.ofNat (48 + n % 10)]
termination_by n
decreasing_by omega
theorem dec_small {n : Nat} (h : n < 10) : dec n = [UInt8.ofNat (48 + n)] := by rw [dec, if_pos h]
theorem dec_big {n : Nat} (h : ¬ n < 10) : dec n = dec (n / 10) ++ [UInt8.ofNat (48 + n % 10)] := by rw [dec, if_neg h]

/-- a number's text -/
def decZ (z : Int) : List UInt8 := if z < 0 then 45 :: dec z.natAbs else dec z.natAbs

theorem dec_digit (n : Nat) : ∀ b ∈ dec n, 48 ≤ b.toNat ∧ b.toNat ≤ 57 := by
  induction n using Nat.strongRecOn with
  | _ n ih =>
    intro b hb
    by_cases h : n < 10
    · rw [dec_small h] at hb
      rw [List.mem_singleton.1 hb, UInt8.toNat_ofNat']
      omega
    · rw [dec_big h] at hb
      rcases List.mem_append.1 hb with hb | hb
      · exact ih (n / 10) (by omega) b hb
      · rw [List.mem_singleton.1 hb, UInt8.toNat_ofNat']
        omega
theorem dec_ne (n : Nat) : dec n ≠ [] := by
  by_cases h : n < 10
  · rw [dec_small h]; simp
  · rw [dec_big h]; simp
theorem dec_len {n k : Nat} (h : n < 10 ^ (k + 1)) : (dec n).length ≤ k + 1 := by
  induction k generalizing n with
  | zero => rw [dec_small (by simpa using h)]; simp
  | succ k ih =>
    by_cases h1 : n < 10
    · rw [dec_small h1]; simp
    · rw [dec_big h1]
      have := ih (n := n / 10) (by rw [Nat.pow_succ] at h; omega)
      simp only [List.length_append, List.length_singleton]
      omega

/-- the number that digits make -/
def accD (a : Nat) (l : List UInt8) : Nat := l.foldl (fun a b => a * 10 + (b.toNat - 48)) a
theorem accD_snoc (a : Nat) (l : List UInt8) (b : UInt8) : accD a (l ++ [b]) = accD a l * 10 + (b.toNat - 48) := by
  unfold accD; rw [List.foldl_append]; rfl
theorem accD_dec (n : Nat) : accD 0 (dec n) = n := by
  induction n using Nat.strongRecOn with
  | _ n ih =>
    by_cases h : n < 10
    · rw [dec_small h]
      show 0 * 10 + ((UInt8.ofNat (48 + n)).toNat - 48) = n
      rw [UInt8.toNat_ofNat']
      omega
    · rw [dec_big h, accD_snoc, ih (n / 10) (by omega), UInt8.toNat_ofNat']
      omega
theorem dec_inj {a b : Nat} (h : dec a = dec b) : a = b := by
  rw [← accD_dec a, ← accD_dec b, h]
theorem dec_head {n : Nat} {b : UInt8} {l : List UInt8} (h : dec n = b :: l) : b ≠ 45 := by
  rintro rfl
  have := (dec_digit n 45 (by rw [h]; exact List.mem_cons_self ..)).1
  revert this
  decide
theorem decZ_inj {a b : Int} (h : decZ a = decZ b) : a = b := by
  unfold decZ at h
  by_cases ha : a < 0 <;> by_cases hb : b < 0
  · rw [if_pos ha, if_pos hb] at h
    injection h with _ h
    have := dec_inj h
    omega
  · rw [if_pos ha, if_neg hb] at h
    exact absurd rfl (dec_head h.symm)
  · rw [if_neg ha, if_pos hb] at h
    exact absurd rfl (dec_head h)
  · rw [if_neg ha, if_neg hb] at h
    have := dec_inj h
    omega
theorem accD_bound (l : List UInt8) (h : ∀ b ∈ l, 48 ≤ b.toNat ∧ b.toNat ≤ 57) : accD 0 l < 10 ^ l.length := by
  have key : ∀ (l : List UInt8), (∀ b ∈ l, 48 ≤ b.toNat ∧ b.toNat ≤ 57) → ∀ a k, a < 10 ^ k → accD a l < 10 ^ (k + l.length) := by
    intro l
    induction l with
    | nil => intro _ a k ha; simpa [accD] using ha
    | cons b l ih =>
      intro hl a k ha
      have hb := hl b (List.mem_cons_self ..)
      have := ih (fun x hx => hl x (List.mem_cons_of_mem _ hx)) (a * 10 + (b.toNat - 48)) (k + 1) (by rw [Nat.pow_succ]; omega)
      rw [List.length_cons, show k + (l.length + 1) = k + 1 + l.length from by omega]
      exact this
  have := key l h 0 0 (by simp)
  simpa using this

/-- what stands behind a minus, and whether there is one -/
def body (l : List UInt8) : List UInt8 := if l.head? = some 45 then l.tail else l
def sgnb (l : List UInt8) : Bool := decide (l.head? = some 45)
theorem body_nil : body [] = [] := rfl
theorem body_minus : body [45] = [] := rfl
theorem sgnb_nil : sgnb [] = false := rfl
theorem sgnb_minus : sgnb [45] = true := rfl
theorem body_snoc (l : List UInt8) (b : UInt8) (h : l ≠ [] ∨ b ≠ 45) : body (l ++ [b]) = body l ++ [b] ∧ sgnb (l ++ [b]) = sgnb l := by
  rcases l with _ | ⟨x, r⟩
  · have hb : b ≠ 45 := h.resolve_left (fun h => h rfl)
    constructor
    · unfold body; simp [hb]
    · unfold sgnb; simp [hb]
  · constructor
    · unfold body
      by_cases hx : x = 45 <;> simp [hx]
    · unfold sgnb; simp
theorem head_dec (n : Nat) : (dec n).head? ≠ some 45 := by
  intro h
  rcases hd : dec n with _ | ⟨b, l⟩
  · exact dec_ne n hd
  · rw [hd] at h
    simp at h
    exact dec_head hd h
theorem body_decZ (z : Int) : body (decZ z) = dec z.natAbs ∧ sgnb (decZ z) = decide (z < 0) := by
  unfold decZ body sgnb
  by_cases h : z < 0
  · simp [h]
  · simp [h, head_dec]

/-- the number that a text makes -/
def numDec (l : List UInt8) : Int := if sgnb l = true then -(accD 0 (body l) : Int) else accD 0 (body l)
theorem numD_decZ (z : Int) : numDec (decZ z) = z := by
  unfold numDec
  obtain ⟨h1, h2⟩ := body_decZ z
  rw [h1, h2, accD_dec]
  by_cases h : z < 0
  · simp [h]; omega
  · simp [h]; omega
theorem decZ_digits (z : Int) : ∀ b ∈ body (decZ z), 48 ≤ b.toNat ∧ b.toNat ≤ 57 := by
  rw [(body_decZ z).1]; exact dec_digit _
theorem decZ_len {z : Int} {k : Nat} (h : z.natAbs < 10 ^ (k + 1)) : (decZ z).length ≤ k + 2 := by
  have := dec_len h
  unfold decZ
  split <;> simp <;> omega
/-- a byte that is no digit, and no minus at the head, stands in no number's text -/
theorem no_text (l : List UInt8) (k : Nat) (b : UInt8) (hk : l[k]? = some b) (h : ¬ (48 ≤ b.toNat ∧ b.toNat ≤ 57)) (h0 : k = 0 → b ≠ 45) (z : Int) : decZ z ≠ l := by
  rintro rfl
  have hd := decZ_digits z
  obtain ⟨h1, h2⟩ := body_decZ z
  unfold body at hd
  by_cases hh : (decZ z).head? = some 45
  · rw [if_pos hh] at hd
    rcases k with _ | k
    · rw [← List.head?_eq_getElem?] at hk
      rw [hk] at hh
      exact h0 rfl (by simpa using hh)
    · have : b ∈ (decZ z).tail := by
        rw [← List.getElem?_tail] at hk
        exact List.mem_of_getElem? hk
      exact h (hd b this)
  · rw [if_neg hh] at hd
    exact h (hd b (List.mem_of_getElem? hk))
end Go.Proofs.YtnkmlfbnfndfpaaGreatDoor
