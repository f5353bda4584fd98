/- Package fields: what reading a line answers, beside the document's answer; no walk. -/
import Derived.Test.YtnojlbeiknkooaaFkind
namespace Go.Proofs.Ytnojlbeiknkooaa
open Go.RowKit
theorem quo_noq {s : ByteArray} : ∀ (d k : Nat), s.size - k ≤ d → k ≤ s.size → (quoAt s k = none → endOf noQ s k = s.size) ∧ (∀ e, quoAt s k = some e → endOf noQ s k = e ∧ e < s.size ∧ k ≤ e) := by
  intro d
  induction d with
  | zero => intro k hd hk; rw [quo_end (by omega), endOf_end (by omega)]; exact ⟨fun _ => rfl, fun e h => (by cases h)⟩
  | succ d ih =>
    intro k hd hk
    by_cases h : k < s.size
    · by_cases q : s[k] = 34
      · have b : noQ s[k].toNat = false := by rw [q]; rfl
        rw [quo_here h q, endOf_here h b]
        exact ⟨fun c => (by cases c), fun e h' => (by cases h'; exact ⟨rfl, h, Nat.le_refl _⟩)⟩
      · have b : noQ s[k].toNat = true := by
          unfold noQ
          rw [bne_iff_ne]
          intro c
          exact q (by rw [← UInt8.toNat_inj]; show s[k].toNat = 34; omega)
        rw [quo_on h q, endOf_on h b]
        have := ih (k + 1) (by omega) (by omega)
        exact ⟨this.1, fun e he => by have := this.2 e he; omega⟩
    · rw [quo_end h, endOf_end h]; exact ⟨fun _ => rfl, fun e h => (by cases h)⟩
theorem quo_none {s : ByteArray} {k : Nat} (hk : k ≤ s.size) (h : quoAt s k = none) : endOf noQ s k = s.size := (quo_noq s.size k (by omega) hk).1 h
theorem quo_some {s : ByteArray} {k e : Nat} (hk : k ≤ s.size) (h : quoAt s k = some e) : endOf noQ s k = e ∧ e < s.size ∧ k ≤ e := (quo_noq s.size k (by omega) hk).2 e h
theorem quo_is {s : ByteArray} : ∀ (d k : Nat), s.size - k ≤ d → ∀ e, quoAt s k = some e → ∃ h : e < s.size, s[e] = 34 ∧ ∀ (j : Nat) (g : j < s.size), k ≤ j → j < e → ¬ s[j] = 34 := by
  intro d
  induction d with
  | zero => intro k hd e he; rw [quo_end (by omega)] at he; cases he
  | succ d ih =>
    intro k hd e he
    by_cases h : k < s.size
    · by_cases q : s[k] = 34
      · rw [quo_here h q] at he
        cases he
        exact ⟨h, q, fun j _ h1 h2 => by omega⟩
      · rw [quo_on h q] at he
        obtain ⟨g, e1, e2⟩ := ih (k + 1) (by omega) e he
        refine ⟨g, e1, fun j gj h1 h2 => ?_⟩
        by_cases c : j = k
        · subst c; exact q
        · exact e2 j gj (by omega) h2
    · rw [quo_end h] at he; cases he
theorem okB_34 : okB 34 = false := by decide
/-- ahead of a second quotation mark: the first byte that may not be in a field -/
theorem bad_end {s : ByteArray} {e : Nat} (he : e < s.size) (e34 : s[e] = 34) : ∀ (d k : Nat), e - k ≤ d → k ≤ e → (∀ (j : Nat) (g : j < s.size), k ≤ j → j < e → ¬ s[j] = 34) → (badIn s k e = none → endOf okB s k = e) ∧ (∀ b, badIn s k e = some b → endOf okB s k = b ∧ k ≤ b ∧ b < e) := by
  intro d
  induction d with
  | zero =>
    intro k hd hk hn
    obtain rfl : k = e := by omega
    rw [badIn_end (by omega), endOf_here he (by rw [e34]; exact okB_34)]
    exact ⟨fun _ => rfl, fun b h => (by cases h)⟩
  | succ d ih =>
    intro k hd hk hn
    by_cases h : k < e
    · have g : k < s.size := by omega
      have n34 : ¬ ((s[k].toNat : Int) = 34) := fun c => hn k g (Nat.le_refl _) h (by rw [← UInt8.toNat_inj]; show s[k].toNat = 34; omega)
      by_cases c : s[k].toNat < 32 ∨ 126 < s[k].toNat
      · rw [badIn_here h g c, endOf_here g (decide_eq_false (by omega))]
        exact ⟨fun c => (by cases c), fun b hb => (by cases hb; exact ⟨rfl, Nat.le_refl _, h⟩)⟩
      · rw [badIn_on h g c, endOf_on g (decide_eq_true (by omega))]
        have := ih (k + 1) (by omega) (by omega) (fun j g h1 h2 => hn j g (by omega) h2)
        exact ⟨this.1, fun b hb => by have := this.2 b hb; omega⟩
    · obtain rfl : k = e := by omega
      rw [badIn_end (by omega), endOf_here he (by rw [e34]; exact okB_34)]
      exact ⟨fun _ => rfl, fun b h => (by cases h)⟩
/-- what stands behind a quotation mark -/
def quoRes (s : ByteArray) (k : Nat) : ByteArray × Nat × Int :=
  if endOf noQ s (k + 1) = s.size then (⟨#[]⟩, 0, (k : Int))
  else if endOf okB s (k + 1) = endOf noQ s (k + 1) then (s.extract (k + 1) (endOf noQ s (k + 1)), endOf noQ s (k + 1) + 1, -1)
  else (⟨#[]⟩, 0, (endOf okB s (k + 1) : Int))
def headRes (s : ByteArray) (k : Nat) : ByteArray × Nat × Int :=
  if ∃ h : k < s.size, s[k] = 34 then quoRes s k else (s.extract k (endOf bareB s k), endOf bareB s k, -1)
/-- a field: its text, where the line goes on, the first byte that is wrong -/
def fieldRes (s : ByteArray) (k : Nat) : ByteArray × Nat × Int :=
  if (headRes s k).2.2 = -1 ∧ blocked s (headRes s k).2.1 = true then ((headRes s k).1, (headRes s k).2.1, ((headRes s k).2.1 : Int)) else headRes s k
def lone (s : ByteArray) (k : Nat) : Bool := if h : k < s.size then decide (s[k] = 34) && (quoAt s (k + 1)).isNone else false
/-- where a quotation mark alone stands in the place of a seventeenth field -/
def fixR (s : ByteArray) (r : Fld) : Fld := if r.2.2 = 12 ∧ lone s r.2.1.toNat = true then ([], r.2.1, 6) else r
/-- what package fields answers -/
def splitC (s : ByteArray) : Fld := if 500 < s.size then ([], 500, 12) else fixR s (splitRes s)
theorem splitC_ok {s : ByteArray} {r : List (ByteArray × Int)} (h : splitRes s = (r, 0, 0)) : splitC s = (r, 0, 0) := by
  unfold splitC
  split
  · rename_i g
    unfold splitRes at h
    rw [if_pos g] at h
    exact h
  · rw [h]
    rfl
theorem fix_id {s : ByteArray} {r : Fld} (h : ¬ r.2.2 = 12) : fixR s r = r := if_neg fun c => h c.1
theorem bareEnd_eq {s : ByteArray} {k : Nat} (hk : k ≤ s.size) : endOf bareB s k = bareEnd s k := by
  have main : ∀ (d k : Nat), s.size - k ≤ d → k ≤ s.size → endOf bareB s k = bareEnd s k := by
    intro d
    induction d with
    | zero => intro k hd hk; rw [endOf_end (by omega), bareEnd_end (by omega)]; omega
    | succ d ih =>
      intro k hd hk
      by_cases h : k < s.size
      · cases b : bareB s[k].toNat with
        | true => rw [endOf_on h b, bareEnd_on h b]; exact ih (k + 1) (by omega) (by omega)
        | false => rw [endOf_here h b, bareEnd_here h b]
      · rw [endOf_end h, bareEnd_end h]; omega
  exact main s.size k (by omega) hk
theorem toNat_nat (k : Nat) : (k : Int).toNat = k := Int.toNat_natCast k
/-- a round of reading a line -/
theorem step {s : ByteArray} {k f : Nat} {out : List (ByteArray × Int)} (h : k < s.size) (nb : blankB s[k].toNat = false) (nr : ¬ s[k] = 35) :
    (out.length = 16 → ¬ (fieldRes s k).2.2 = (k : Int) → fixR s (splitGo s (f + 1) out k) = ([], (k : Int), 12))
    ∧ (¬ (out.length = 16 ∧ ¬ (fieldRes s k).2.2 = (k : Int)) → ¬ (fieldRes s k).2.2 = -1 → fixR s (splitGo s (f + 1) out k) = ([], (fieldRes s k).2.2, 6))
    ∧ (¬ out.length = 16 → (fieldRes s k).2.2 = -1 → splitGo s (f + 1) out k = splitGo s f (out ++ [((fieldRes s k).1, (k : Int))]) (fieldRes s k).2.1 ∧ k < (fieldRes s k).2.1 ∧ (fieldRes s k).2.1 ≤ s.size)
    ∧ (fieldRes s k).2.1 ≤ s.size ∧ -1 ≤ (fieldRes s k).2.2 ∧ (fieldRes s k).2.2 ≤ s.size := by
  by_cases q : s[k] = 34
  · have hH : headRes s k = quoRes s k := if_pos ⟨h, q⟩
    cases hq : quoAt s (k + 1) with
    | none =>
      have e1 := quo_none (by omega) hq
      have hR : fieldRes s k = (⟨#[]⟩, 0, (k : Int)) := by
        unfold fieldRes
        rw [hH]
        unfold quoRes
        rw [if_pos e1, if_neg (by intro c; have c1 := c.1; simp at c1 <;> omega)]
      have hl : lone s k = true := by unfold lone; rw [dif_pos h, hq, decide_eq_true q]; rfl
      rw [hR]
      refine ⟨fun _ c => absurd rfl c, fun _ _ => ?_, fun _ c => (by simp at c <;> omega), by simp, by simp <;> omega, by simp <;> omega⟩
      by_cases m : out.length = 16
      · rw [sp_many h nr nb (.inl q) m]
        unfold fixR
        rw [if_pos ⟨rfl, by rw [toNat_nat]; exact hl⟩]
      · rw [sp_quo h nr nb q m, hq]
        exact fix_id (by simp)
    | some e =>
      obtain ⟨e1, e2, e3⟩ := quo_some (by omega) hq
      obtain ⟨_, e4, e5⟩ := quo_is s.size (k + 1) (by omega) e hq
      have hl : lone s k = false := by unfold lone; rw [dif_pos h, hq, decide_eq_true q]; rfl
      have BE := bad_end e2 e4 e (k + 1) (by omega) e3 e5
      have hM : ∀ m : out.length = 16, fixR s (splitGo s (f + 1) out k) = ([], (k : Int), 12) := fun m => by
        rw [sp_many h nr nb (.inl q) m]
        unfold fixR
        rw [if_neg (by rw [toNat_nat, hl]; simp)]
      cases hb : badIn s (k + 1) e with
      | some b =>
        obtain ⟨b1, b2, b3⟩ := BE.2 b hb
        have hQ : quoRes s k = (⟨#[]⟩, 0, (b : Int)) := by
          unfold quoRes
          rw [if_neg (by omega), if_neg (by omega), b1]
        have hR : fieldRes s k = (⟨#[]⟩, 0, (b : Int)) := by
          unfold fieldRes
          rw [hH, hQ, if_neg (by intro c; have c1 := c.1; simp at c1 <;> omega)]
        rw [hR]
        refine ⟨fun m _ => hM m, fun c _ => ?_, fun _ c => (by simp at c <;> omega), by simp, by simp <;> omega, by simp <;> omega⟩
        have m : ¬ out.length = 16 := fun m => c ⟨m, by simp <;> omega⟩
        rw [sp_quo h nr nb q m, hq]
        simp only [hb]
        exact fix_id (by simp)
      | none =>
        have b1 := BE.1 hb
        have hQ : quoRes s k = (s.extract (k + 1) e, e + 1, -1) := by
          unfold quoRes
          rw [if_neg (by omega), if_pos (by omega), e1]
        cases bl : blocked s (e + 1) with
        | true =>
          have hR : fieldRes s k = (s.extract (k + 1) e, e + 1, ((e + 1 : Nat) : Int)) := by
            unfold fieldRes
            rw [hH, hQ, if_pos ⟨rfl, bl⟩]
          rw [hR]
          refine ⟨fun m _ => hM m, fun c _ => ?_, fun _ c => (by simp at c <;> omega), by simp <;> omega, by simp <;> omega, by simp <;> omega⟩
          have m : ¬ out.length = 16 := fun m => c ⟨m, by simp <;> omega⟩
          rw [sp_quo h nr nb q m, hq]
          simp only [hb, bl, if_true]
          exact fix_id (by simp)
        | false =>
          have hR : fieldRes s k = (s.extract (k + 1) e, e + 1, -1) := by
            unfold fieldRes
            rw [hH, hQ, if_neg (by simp [bl])]
          rw [hR]
          refine ⟨fun m _ => hM m, fun _ c => absurd rfl c, fun m _ => ⟨?_, by simp <;> omega, by simp <;> omega⟩, by simp <;> omega, by simp, by simp <;> omega⟩
          rw [sp_quo h nr nb q m, hq]
          simp only [hb, bl]
          rfl
  · have hH : headRes s k = (s.extract k (endOf bareB s k), endOf bareB s k, -1) := if_neg fun ⟨_, c⟩ => q c
    rw [bareEnd_eq (by omega)] at hH
    have hl : lone s k = false := by unfold lone; rw [dif_pos h, decide_eq_false q]; rfl
    cases ba : bareB s[k].toNat with
    | false =>
      have b0 : bareEnd s k = k := bareEnd_here h ba
      rw [b0] at hH
      have bl : blocked s k = true := by unfold blocked; rw [dif_pos h, nb, decide_eq_true nr]; rfl
      have hR : fieldRes s k = (s.extract k k, k, (k : Int)) := by
        unfold fieldRes
        rw [hH, if_pos ⟨rfl, bl⟩]
      rw [hR]
      refine ⟨fun _ c => absurd rfl c, fun _ _ => ?_, fun _ c => (by simp at c <;> omega), by simp <;> omega, by simp <;> omega, by simp <;> omega⟩
      rw [sp_no h nr nb q ba]
      exact fix_id (by simp)
    | true =>
      obtain ⟨b1, b2⟩ := bareEnd_lt h ba
      have hM : ∀ m : out.length = 16, fixR s (splitGo s (f + 1) out k) = ([], (k : Int), 12) := fun m => by
        rw [sp_many h nr nb (.inr ba) m]
        unfold fixR
        rw [if_neg (by rw [toNat_nat, hl]; simp)]
      cases bl : blocked s (bareEnd s k) with
      | true =>
        have hR : fieldRes s k = (s.extract k (bareEnd s k), bareEnd s k, (bareEnd s k : Int)) := by
          unfold fieldRes
          rw [hH, if_pos ⟨rfl, bl⟩]
        rw [hR]
        refine ⟨fun m _ => hM m, fun c _ => ?_, fun _ c => (by simp at c <;> omega), by simp <;> omega, by simp <;> omega, by simp <;> omega⟩
        have m : ¬ out.length = 16 := fun m => c ⟨m, by simp <;> omega⟩
        rw [sp_bare h nr nb q ba m, if_pos bl]
        exact fix_id (by simp)
      | false =>
        have hR : fieldRes s k = (s.extract k (bareEnd s k), bareEnd s k, -1) := by
          unfold fieldRes
          rw [hH, if_neg (by simp [bl])]
        rw [hR]
        refine ⟨fun m _ => hM m, fun _ c => absurd rfl c, fun m _ => ⟨?_, by simp <;> omega, by simp <;> omega⟩, by simp <;> omega, by simp, by simp <;> omega⟩
        rw [sp_bare h nr nb q ba m, if_neg (by rw [bl]; decide)]
/-- where a field begins behind blanks -/
def startOf (s : ByteArray) (k : Nat) : Nat := if (if h : endOf blankB s k < s.size then decide (s[endOf blankB s k] = 35) else false) = true then s.size else endOf blankB s k
theorem start_le {s : ByteArray} {k : Nat} (hk : k ≤ s.size) : k ≤ startOf s k ∧ startOf s k ≤ s.size := by
  have h := endOf_le (K := blankB) hk
  unfold startOf
  generalize (if h : endOf blankB s k < s.size then decide (s[endOf blankB s k] = 35) else false) = b
  cases b
  · rw [if_neg (by decide)]; exact h
  · rw [if_pos rfl]; exact ⟨hk, Nat.le_refl _⟩
theorem start_at {s : ByteArray} {k : Nat} (h : startOf s k < s.size) : blankB s[startOf s k].toNat = false ∧ ¬ s[startOf s k] = 35 := by
  by_cases g : endOf blankB s k < s.size
  · have hb := endOf_at (K := blankB) (s := s) s.size k (by omega) g
    by_cases c : s[endOf blankB s k] = 35
    · have : startOf s k = s.size := by unfold startOf; rw [dif_pos g, decide_eq_true c, if_pos rfl]
      omega
    · have : startOf s k = endOf blankB s k := by unfold startOf; rw [dif_pos g, decide_eq_false c, if_neg (by decide)]
      simp only [this]
      exact ⟨hb, c⟩
  · have : startOf s k = endOf blankB s k := by unfold startOf; rw [dif_neg g, if_neg (by decide)]
    omega
/-- blanks are gone over -/
theorem skip {s : ByteArray} {out : List (ByteArray × Int)} : ∀ (d k f : Nat), s.size - k ≤ d → k ≤ s.size → s.size - k < f → ∃ g, s.size - startOf s k < g ∧ splitGo s f out k = splitGo s g out (startOf s k) := by
  intro d
  induction d with
  | zero =>
    intro k f hd hk hf
    have e : endOf blankB s k = s.size := endOf_end (by omega)
    have : startOf s k = s.size := by unfold startOf; rw [e, dif_neg (by omega), if_neg (by decide)]
    exact ⟨f, by omega, by rw [this, show k = s.size from by omega]⟩
  | succ d ih =>
    intro k f hd hk hf
    obtain ⟨f, rfl⟩ : ∃ g, f = g + 1 := ⟨f - 1, by omega⟩
    by_cases h : k < s.size
    · cases b : blankB s[k].toNat with
      | true =>
        have nr : ¬ s[k] = 35 := fun c => by rw [c] at b; exact absurd b (by decide)
        obtain ⟨g, g1, g2⟩ := ih (k + 1) f (by omega) (by omega) (by omega)
        have e : startOf s k = startOf s (k + 1) := by unfold startOf; simp only [endOf_on h b]
        refine ⟨g, by rw [e]; exact g1, ?_⟩
        rw [sp_blank h nr b, g2, e]
      | false =>
        have e : endOf blankB s k = k := endOf_here h b
        by_cases c : s[k] = 35
        · have : startOf s k = s.size := by unfold startOf; simp only [e]; rw [dif_pos h, decide_eq_true c, if_pos rfl]
          refine ⟨1, by omega, ?_⟩
          rw [this, sp_remark h c, sp_end (by omega)]
        · have : startOf s k = k := by unfold startOf; simp only [e]; rw [dif_pos h, decide_eq_false c, if_neg (by decide)]
          exact ⟨f + 1, by omega, by rw [this]⟩
    · have e : endOf blankB s k = s.size := endOf_end (by omega)
      have : startOf s k = s.size := by unfold startOf; rw [e, dif_neg (by omega), if_neg (by decide)]
      exact ⟨f + 1, by omega, by rw [this, show k = s.size from by omega]⟩
end Go.Proofs.Ytnojlbeiknkooaa
