/- What was joined is split into the same: facts of the document's answer alone. -/
import Derived.Test.YtnojlbeiknkooaaSwords
import Derived.Test.YtnojlbeiknkooaaSjoin
namespace Go.Proofs.Ytnojlbeiknkooaa
open Go.RowKit
theorem bareEnd_run {s : ByteArray} : ∀ (m i : Nat), i + m ≤ s.size → (∀ (j : Nat) (h : j < s.size), i ≤ j → j < i + m → bareB s[j].toNat = true) → bareEnd s i = bareEnd s (i + m) := by
  intro m
  induction m with
  | zero => intro i _ _; rfl
  | succ m ih =>
    intro i hm h
    have hi : i < s.size := by omega
    rw [bareEnd_on hi (h i hi (by omega) (by omega)), ih (i + 1) (by omega) (fun j hj h1 h2 => h j hj (by omega) (by omega))]
    congr 1
    omega
theorem quo_run {s : ByteArray} : ∀ (m i : Nat), i + m ≤ s.size → (∀ (j : Nat) (h : j < s.size), i ≤ j → j < i + m → ¬ s[j] = 34) → quoAt s i = quoAt s (i + m) := by
  intro m
  induction m with
  | zero => intro i _ _; rfl
  | succ m ih =>
    intro i hm h
    have hi : i < s.size := by omega
    rw [quo_on hi (h i hi (by omega) (by omega)), ih (i + 1) (by omega) (fun j hj h1 h2 => h j hj (by omega) (by omega))]
    congr 1
    omega
theorem badIn_run {s : ByteArray} : ∀ (m i e : Nat), i + m = e → e ≤ s.size → (∀ (j : Nat) (h : j < s.size), i ≤ j → j < e → okB s[j].toNat = true) → badIn s i e = none := by
  intro m
  induction m with
  | zero => intro i e hm _ _; exact badIn_end (by omega)
  | succ m ih =>
    intro i e hm he h
    have hi : i < s.size := by omega
    have o := okB_yes (h i hi (by omega) (by omega))
    rw [badIn_on (by omega) hi (by omega)]
    exact ih (i + 1) e (by omega) he (fun j hj h1 h2 => h j hj (by omega) h2)
theorem bare_not_quote {c : UInt8} (h : bareB c.toNat = true) : ¬ c = 34 ∧ ¬ c = 35 ∧ blankB c.toNat = false := by
  have h := of_decide_eq_true h
  refine ⟨?_, ?_, ?_⟩
  · rintro rfl; exact h.2.2.1 rfl
  · rintro rfl; exact h.2.2.2 rfl
  · exact decide_eq_false (by omega)
/-- behind a field: the end, a blank, or a remark -/
def free (s : ByteArray) (j : Nat) : Prop := ∀ h : j < s.size, blankB s[j].toNat = true ∨ s[j] = 35
theorem free_not {s : ByteArray} {j : Nat} (h : free s j) : blocked s j = false := by
  unfold blocked
  split
  · rename_i hj
    rcases h hj with b | b
    · rw [b]; rfl
    · rw [b]; simp
  · rfl
theorem bare_free {s : ByteArray} {j : Nat} (h : free s j) : bareEnd s j = j := by
  by_cases hj : j < s.size
  · refine bareEnd_here hj ?_
    cases b : bareB s[j].toNat with
    | false => rfl
    | true =>
      obtain ⟨_, n2, n3⟩ := bare_not_quote b
      rcases h hj with g | g
      · rw [n3] at g; cases g
      · exact absurd g n2
  · exact bareEnd_end hj
/-- a plain field is taken -/
theorem take_plain {s : ByteArray} {i m f : Nat} {out : List (ByteArray × Int)} (h0 : 0 < m) (hm : i + m ≤ s.size) (hb : ∀ (j : Nat) (h : j < s.size), i ≤ j → j < i + m → bareB s[j].toNat = true) (fr : free s (i + m)) (n16 : ¬ out.length = 16) :
    splitGo s (f + 1) out i = splitGo s f (out ++ [(s.extract i (i + m), (i : Int))]) (i + m) := by
  have hi : i < s.size := by omega
  have b := hb i hi (by omega) (by omega)
  obtain ⟨n1, n2, n3⟩ := bare_not_quote b
  have e : bareEnd s i = i + m := by rw [bareEnd_run m i hm hb, bare_free fr]
  rw [sp_bare hi n2 n3 n1 b n16, e, free_not fr, if_neg (by decide)]
/-- a field within marks is taken -/
theorem take_quoted {s : ByteArray} {i e f : Nat} {out : List (ByteArray × Int)} (hi : i < s.size) (q : s[i] = 34) (he : e < s.size) (hie : i + 1 ≤ e) (hq : s[e] = 34) (hb : ∀ (j : Nat) (h : j < s.size), i + 1 ≤ j → j < e → okB s[j].toNat = true) (fr : free s (e + 1)) (n16 : ¬ out.length = 16) :
    splitGo s (f + 1) out i = splitGo s f (out ++ [(s.extract (i + 1) e, (i : Int))]) (e + 1) := by
  have eq : quoAt s (i + 1) = some e := by
    rw [quo_run (e - (i + 1)) (i + 1) (by omega) (fun j hj h1 h2 c => (okB_yes (hb j hj h1 (by omega))).2.2 (by rw [c]; rfl))]
    rw [show i + 1 + (e - (i + 1)) = e by omega]
    exact quo_here he hq
  rw [sp_quo hi (by rw [q]; decide) (by rw [q]; rfl) q n16, eq]
  simp only [badIn_run (e - (i + 1)) (i + 1) e (by omega) (by omega) hb, free_not fr]
  rfl
end Go.Proofs.Ytnojlbeiknkooaa
