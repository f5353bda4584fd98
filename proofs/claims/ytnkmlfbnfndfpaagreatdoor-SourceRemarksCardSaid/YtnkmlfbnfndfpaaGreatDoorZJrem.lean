/- Layer 10: lines without fields, and remarks, turn nothing but lines' numbers. No program here. -/
import Derived.Test.YtnkmlfbnfndfpaaGreatDoorZJahead
namespace Go.Proofs.YtnkmlfbnfndfpaaGreatDoor
open Go.RowKit
def soT : ByteArray := ⟨#[32, 35, 32, 115, 111]⟩
def moreT : ByteArray := ⟨#[32, 35, 32, 109, 111, 114, 101]⟩
section
variable {t : ByteArray}
theorem so_get {i : Nat} (h : i < t.size) (h' : i < (t ++ soT).size) : (t ++ soT)[i] = t[i] := ByteArray.getElem_append_left h
theorem so_size : (t ++ soT).size = t.size + 5 := by rw [size_app]; rfl
theorem so_32 (h : t.size < (t ++ soT).size) : (t ++ soT)[t.size] = 32 := by
  rw [ByteArray.getElem_append_right (Nat.le_refl _)]
  simp only [Nat.sub_self]
  rfl
theorem so_35 (h : t.size + 1 < (t ++ soT).size) : (t ++ soT)[t.size + 1] = 35 := by
  rw [ByteArray.getElem_append_right (by omega)]
  simp only [Nat.add_sub_cancel_left]
  rfl
theorem so_quo : ∀ (d k e : Nat), t.size - k ≤ d → quoAt t k = some e → quoAt (t ++ soT) k = some e := by
  have hz := so_size (t := t)
  intro d
  induction d with
  | zero => intro k e hd h; rw [quoAt, dif_neg (by omega)] at h; cases h
  | succ d ih =>
    intro k e hd h
    by_cases hk : k < t.size
    · rw [quoAt, dif_pos hk] at h
      rw [quoAt, dif_pos (by omega), so_get hk]
      split
      · rename_i c; rw [if_pos c] at h; exact h
      · rename_i c; rw [if_neg c] at h; exact ih (k + 1) e (by omega) h
    · rw [quoAt, dif_neg hk] at h; cases h
theorem so_bare : ∀ (d k : Nat), t.size - k ≤ d → k ≤ t.size → bareEnd (t ++ soT) k = bareEnd t k := by
  have hz := so_size (t := t)
  intro d
  induction d with
  | zero =>
    intro k hd hk
    obtain rfl : k = t.size := by omega
    rw [bareEnd_end (s := t) (Nat.lt_irrefl _), bareEnd_here (by omega) (by rw [so_32]; rfl)]
  | succ d ih =>
    intro k hd hk
    by_cases hk' : k < t.size
    case neg => exact ih k (by omega) hk
    by_cases b : bareB t[k].toNat = true
    · rw [bareEnd_on hk' b, bareEnd_on (by omega) (by rw [so_get hk']; exact b), ih (k + 1) (by omega) (by omega)]
    · have b' : bareB t[k].toNat = false := by simpa using b
      rw [bareEnd_here hk' b', bareEnd_here (by omega) (by rw [so_get hk']; exact b')]
theorem so_bad : ∀ (d k e : Nat), e - k ≤ d → e ≤ t.size → badIn (t ++ soT) k e = badIn t k e := by
  have hz := so_size (t := t)
  intro d
  induction d with
  | zero => intro k e hd he; rw [badIn_end (by omega), badIn_end (by omega)]
  | succ d ih =>
    intro k e hd he
    by_cases hk : k < e
    case neg => rw [badIn_end hk, badIn_end hk]
    have hk' : k < t.size := by omega
    by_cases b : t[k].toNat < 32 ∨ 126 < t[k].toNat
    · rw [badIn_here hk hk' b, badIn_here hk (by omega) (by rw [so_get hk']; exact b)]
    · rw [badIn_on hk hk' b, badIn_on hk (by omega) (by rw [so_get hk']; exact b), ih (k + 1) e (by omega) he]
theorem so_blocked {j : Nat} (hj : j ≤ t.size) : blocked (t ++ soT) j = blocked t j := by
  have hz := so_size (t := t)
  unfold blocked
  rw [dif_pos (show j < (t ++ soT).size by omega)]
  by_cases h : j < t.size
  · rw [dif_pos h, so_get h]
  · obtain rfl : j = t.size := by omega
    rw [dif_neg h, so_32]
    rfl
theorem rem_go : ∀ (d i : Nat) (out : List (ByteArray × Int)) (f g : Nat), t.size - i ≤ d → i ≤ t.size → t.size - i < f → t.size + 5 - i < g → (splitGo t f out i).2.2 = 0 → splitGo (t ++ soT) g out i = splitGo t f out i := by
  have hz := so_size (t := t)
  intro d
  induction d with
  | zero =>
    intro i out f g hd hi hf hg _
    obtain rfl : i = t.size := by omega
    obtain ⟨f, rfl⟩ : ∃ f', f = f' + 1 := ⟨f - 1, by omega⟩
    obtain ⟨g, rfl⟩ : ∃ g', g = g' + 1 + 1 := ⟨g - 2, by omega⟩
    rw [sp_end (Nat.lt_irrefl _), sp_blank (by omega) (by rw [so_32]; decide) (by rw [so_32]; rfl), sp_remark (by omega) (so_35 _)]
  | succ d ih =>
    intro i out f g hd hi hf hg h
    by_cases hi' : i < t.size
    case neg => exact ih i out f g (by omega) hi hf hg h
    obtain ⟨f, rfl⟩ : ∃ f', f = f' + 1 := ⟨f - 1, by omega⟩
    obtain ⟨g, rfl⟩ : ∃ g', g = g' + 1 := ⟨g - 1, by omega⟩
    have hu : i < (t ++ soT).size := by omega
    have hb := so_get hi' hu
    by_cases a : t[i] = 35
    · rw [sp_remark hi' a, sp_remark hu (hb.trans a)]
    have a' : ¬ (t ++ soT)[i] = 35 := by rw [hb]; exact a
    by_cases b : blankB t[i].toNat = true
    · rw [sp_blank hi' a b] at h ⊢
      rw [sp_blank hu a' (by rw [hb]; exact b)]
      exact ih (i + 1) out f g (by omega) (by omega) (by omega) (by omega) h
    have b1 : blankB t[i].toNat = false := by simpa using b
    have b' : blankB (t ++ soT)[i].toNat = false := by rw [hb]; exact b1
    by_cases m : out.length = 16
    · by_cases q : t[i] = 34 ∨ bareB t[i].toNat = true
      · rw [sp_many hi' a b1 q m] at h; exact absurd (show (12 : Int) = 0 from h) (by decide)
      · rw [sp_no hi' a b1 (fun c => q (.inl c)) (by simpa using fun c => q (.inr c))] at h; exact absurd (show (6 : Int) = 0 from h) (by decide)
    by_cases q : t[i] = 34
    · rw [sp_quo hi' a b1 q m] at h ⊢
      rw [sp_quo hu a' b' (by rw [hb]; exact q) m]
      cases e : quoAt t (i + 1) with
      | none => rw [e] at h; exact absurd (show (6 : Int) = 0 from h) (by decide)
      | some k =>
        have hk := quoAt_in _ _ (Nat.le_refl _) k e
        rw [e] at h
        rw [so_quo _ _ k (Nat.le_refl _) e]
        show (match badIn (t ++ soT) (i + 1) k with | some k => _ | none => _) = (match badIn t (i + 1) k with | some k => _ | none => _)
        have h2 : (match badIn t (i + 1) k with | some k => ([], (k : Int), 6) | none => if blocked t (k + 1) = true then ([], ((k + 1 : Nat) : Int), 6) else splitGo t f (out ++ [(t.extract (i + 1) k, (i : Int))]) (k + 1) : Fld).2.2 = 0 := h
        rw [so_bad _ _ _ (Nat.le_refl _) (by omega)]
        cases eb : badIn t (i + 1) k with
        | some j => rw [eb] at h2
        | none =>
          rw [eb] at h2
          show (if blocked (t ++ soT) (k + 1) = true then _ else _) = (if blocked t (k + 1) = true then _ else _)
          rw [so_blocked (by omega)]
          have h3 : (if blocked t (k + 1) = true then ([], ((k + 1 : Nat) : Int), 6) else splitGo t f (out ++ [(t.extract (i + 1) k, (i : Int))]) (k + 1) : Fld).2.2 = 0 := h2
          by_cases c : blocked t (k + 1) = true
          · rw [if_pos c] at h3; exact absurd (show (6 : Int) = 0 from h3) (by decide)
          · rw [if_neg c] at h3
            rw [if_neg c, if_neg c, ext_app (by omega)]
            exact ih (k + 1) _ f g (by omega) (by omega) (by omega) (by omega) h3
    · by_cases c : bareB t[i].toNat = true
      · have hk := bareEnd_lt hi' c
        rw [sp_bare hi' a b1 q c m] at h ⊢
        rw [sp_bare hu a' b' (by rw [hb]; exact q) (by rw [hb]; exact c) m, so_bare _ _ (Nat.le_refl _) hi, so_blocked hk.2]
        by_cases bl : blocked t (bareEnd t i) = true
        · rw [if_pos bl] at h; exact absurd (show (6 : Int) = 0 from h) (by decide)
        · rw [if_neg bl] at h
          rw [if_neg bl, if_neg bl, ext_app hk.2]
          exact ih (bareEnd t i) _ f g (by omega) hk.2 (by omega) (by omega) h
      · rw [sp_no hi' a b1 q (by simpa using c)] at h; exact absurd (show (6 : Int) = 0 from h) (by decide)
end
theorem split_rem {t : ByteArray} (h : (splitRes t).2.2 = 0) (z : t.size < 400) : splitRes (t ++ soT) = splitRes t := by
  have hz := so_size (t := t)
  unfold splitRes at h ⊢
  rw [if_neg (by omega)] at h
  rw [if_neg (show ¬ 500 < (t ++ soT).size by omega), if_neg (show ¬ 500 < t.size by omega)]
  exact rem_go t.size 0 [] _ _ (by omega) (Nat.zero_le _) (by omega) (by omega) h
/-! ### faults but for their lines -/
def simF (f g : Flt) : Prop := f.1 = g.1 ∧ (f.1 = 14 ∨ f.2.2 = g.2.2)
theorem sim_same (e n m a : Int) : simF (e, n, a) (e, m, a) := ⟨rfl, .inr rfl⟩
theorem sim_refl (f : Flt) : simF f f := ⟨rfl, .inr rfl⟩
theorem sim_orF {a b c d : Flt} (h : simF a c) (k : simF b d) : simF (orF a b) (orF c d) := by
  unfold orF
  rw [← h.1]
  split
  · exact k
  · exact h
theorem sim_chk {b : Bool} {f g : Flt} (h : simF f g) : simF (chk b f) (chk b g) := by
  unfold chk
  split
  · exact sim_refl _
  · exact h
theorem sim_count (l : List (ByteArray × Int)) (all all' : ByteArray) (n m : Int) (x y : Nat) : simF (countRes l all n x y) (countRes l all' m x y) := by
  unfold countRes
  split
  · exact ⟨rfl, .inl rfl⟩
  split
  · exact sim_same _ _ _ _
  · exact sim_refl _
theorem sim_spot (l : List (ByteArray × Int)) (f : Nat) (n m : Int) : simF (spotRes l f n).2 (spotRes l f m).2 ∧ (spotRes l f n).1 = (spotRes l f m).1 := by
  unfold spotRes
  split
  · exact ⟨sim_refl _, rfl⟩
  · exact ⟨sim_same _ _ _ _, rfl⟩
theorem sim_save (r : ByteArray) (n m a : Int) : simF (eraSave r n a) (eraSave r m a) := by
  unfold eraSave
  split
  · exact sim_refl _
  split
  · exact sim_chk (sim_same _ _ _ _)
  · exact sim_same _ _ _ _
theorem sim_rule (l : List (ByteArray × Int)) (n m : Int) : simF (ruleFlt l n) (ruleFlt l m) ∧ ruleVal l n = ruleVal l m := by
  refine ⟨sim_orF (sim_chk (sim_same _ _ _ _)) (sim_orF (sim_chk (sim_same _ _ _ _)) (sim_orF (sim_chk (sim_same _ _ _ _)) (sim_orF (sim_chk (sim_same _ _ _ _)) (sim_orF (sim_spot _ _ _ _).1 (sim_orF (sim_same _ _ _ _) (sim_chk (sim_same _ _ _ _))))))), ?_⟩
  unfold ruleVal
  rw [(sim_spot l 5 n m).2]
theorem sim_era (l : List (ByteArray × Int)) (i : Nat) (n m : Int) : simF (eraFlt l i n) (eraFlt l i m) ∧ eraVal l i n = eraVal l i m := by
  refine ⟨sim_orF (sim_same _ _ _ _) (sim_orF (sim_save _ _ _ _) (sim_orF (sim_chk (sim_same _ _ _ _)) ?_)), ?_⟩
  · split
    · exact sim_orF (sim_chk (sim_same _ _ _ _)) (sim_spot _ _ _ _).1
    · exact sim_refl _
  · unfold eraVal
    rw [(sim_spot l (i + 4) n m).2]
theorem sim_line (S : Sr) (l : List (ByteArray × Int)) (all all' : ByteArray) (n m : Int) : simF (lineFlt S l all n) (lineFlt S l all' m) ∧ lineSrc S l n = lineSrc S l m := by
  constructor
  · unfold lineFlt
    split
    · exact sim_orF (sim_chk (sim_same _ _ _ _)) (sim_orF (sim_count _ _ _ _ _ _ _) (sim_era _ _ _ _).1)
    split
    · exact sim_orF (sim_chk (sim_same _ _ _ _)) (sim_orF (sim_count _ _ _ _ _ _ _) (sim_rule _ _ _).1)
    split
    · exact sim_orF (sim_chk (sim_same _ _ _ _)) (sim_orF (sim_count _ _ _ _ _ _ _) (sim_orF (sim_chk (sim_same _ _ _ _)) (sim_era _ _ _ _).1))
    split
    · exact sim_orF (sim_chk (sim_same _ _ _ _)) (sim_orF (sim_count _ _ _ _ _ _ _) (sim_orF (sim_chk (sim_same _ _ _ _)) (sim_chk (sim_same _ _ _ _))))
    · exact sim_same _ _ _ _
  · unfold lineSrc
    rw [(sim_rule l n m).2, (sim_era l 0 n m).2, (sim_era l 2 n m).2]
theorem sim_step (S : Sr) {t u : ByteArray} (n m : Int) (h : splitC u = splitC t) : simF (lineStep S t n).1 (lineStep S u m).1 ∧ (lineStep S t n).2 = (lineStep S u m).2 := by
  unfold lineStep
  rw [h]
  split
  · exact ⟨sim_same _ _ _ _, rfl⟩
  split
  · exact ⟨sim_refl _, rfl⟩
  · exact sim_line _ _ _ _ _ _
def remLine (t : ByteArray) : ByteArray := if (splitRes t).2.2 = 0 ∧ t.size < 400 then t ++ soT else t
theorem split_remLine (t : ByteArray) : splitC (remLine t) = splitC t := by
  unfold remLine
  split
  · rename_i c
    have e := split_rem c.1 c.2
    rw [splitC_eq c.1, splitC_eq (by rw [e]; exact c.1), e]
  · rfl
/-- the lines with more of them, and remarks -/
def remk (k : Nat) : Nat → List ByteArray → List ByteArray
  | _, [] => []
  | i, t :: r => (if i % k = 0 then [moreT, ⟨#[]⟩] else []) ++ remLine t :: remk k (i + 1) r
theorem step_none {S : Sr} {t : ByteArray} {n : Int} (h : splitC t = ([], 0, 0)) : lineStep S t n = (Flt.no, S) := by
  unfold lineStep
  rw [h, if_neg (fun c => c rfl), if_pos rfl]
theorem split_more : splitC moreT = ([], 0, 0) := splitC_ok (by rfl)
theorem split_nil : splitC ⟨#[]⟩ = ([], 0, 0) := splitC_ok (by rfl)
theorem go_rem (k : Nat) : ∀ (ts : List ByteArray) (i : Nat) (n m : Int) (S : Sr), simF (linesGo ts n S).1 (linesGo (remk k i ts) m S).1 ∧ (linesGo ts n S).2 = (linesGo (remk k i ts) m S).2
  | [], _, _, _, _ => ⟨sim_refl _, rfl⟩
  | t :: r, i, n, m, S => by
    have base : ∀ m : Int, simF (linesGo (t :: r) n S).1 (linesGo (remLine t :: remk k (i + 1) r) m S).1 ∧ (linesGo (t :: r) n S).2 = (linesGo (remLine t :: remk k (i + 1) r) m S).2 := by
      intro m
      obtain ⟨s1, s2⟩ := sim_step S n m (split_remLine t)
      unfold linesGo
      rw [← s1.1, ← s2]
      split
      · exact go_rem k r (i + 1) (n + 1) (m + 1) _
      · exact ⟨s1, rfl⟩
    unfold remk
    split
    · show simF _ (linesGo (moreT :: ⟨#[]⟩ :: remLine t :: remk k (i + 1) r) m S).1 ∧ _ = (linesGo (moreT :: ⟨#[]⟩ :: remLine t :: remk k (i + 1) r) m S).2
      rw [go_step (step_none split_more), go_step (step_none split_nil)]
      exact base _
    · exact base m
theorem lns_no10 {s : ByteArray} : ∀ (d a k : Nat), s.size - k ≤ d → a ≤ k → k ≤ s.size → (∀ (j : Nat) (h : j < s.size), a ≤ j → j < k → ¬ s[j] = 10) → ∀ t ∈ lnsFrom s a k, no10 t := by
  have cut : ∀ a k, k ≤ s.size → (∀ (j : Nat) (h : j < s.size), a ≤ j → j < k → ¬ s[j] = 10) → no10 (s.extract a k) := by
    intro a k hk h j hj
    have hz : (s.extract a k).size = min k s.size - a := ByteArray.size_extract
    rw [ByteArray.getElem_extract]
    exact h _ _ (by omega) (by omega)
  intro d
  induction d with
  | zero =>
    intro a k hd ha hk h t ht
    rw [lns_end (by omega)] at ht
    split at ht
    · obtain rfl := List.mem_singleton.1 ht
      exact cut a s.size (Nat.le_refl _) (fun j hj h1 _ => h j hj h1 (by omega))
    · cases ht
  | succ d ih =>
    intro a k hd ha hk h t ht
    by_cases hk' : k < s.size
    case neg => exact ih a k (by omega) ha hk h t ht
    by_cases c : s[k] = 10
    · rw [lns_cut hk' c] at ht
      rcases List.mem_cons.1 ht with rfl | ht
      · exact cut a k hk h
      · exact ih (k + 1) (k + 1) (by omega) (Nat.le_refl _) (by omega) (fun j hj h1 h2 => by omega) t ht
    · rw [lns_on hk' c] at ht
      refine ih a (k + 1) (by omega) (by omega) (by omega) (fun j hj h1 h2 => ?_) t ht
      by_cases e : j = k
      · subst e; exact c
      · exact h j hj h1 (by omega)
theorem no10_list {l : List UInt8} (h : ∀ c ∈ l, ¬ c = 10) : no10 ⟨l.toArray⟩ := fun j hj => by
  have hj' : j < l.length := hj
  exact h l[j] (List.getElem_mem hj')
theorem remk_no10 (k : Nat) : ∀ (ts : List ByteArray) (i : Nat), (∀ t ∈ ts, no10 t) → ∀ t ∈ remk k i ts, no10 t
  | [], _, _, t, ht => by cases ht
  | u :: r, i, h, t, ht => by
    have m10 : no10 moreT := no10_list (l := [32, 35, 32, 109, 111, 114, 101]) (by decide)
    have s10 : no10 soT := no10_list (l := [32, 35, 32, 115, 111]) (by decide)
    have u10 : no10 (remLine u) := by
      unfold remLine
      split
      · exact get_app (P := fun c => ¬ c = 10) (h u (by simp)) s10
      · exact h u (by simp)
    unfold remk at ht
    rcases List.mem_append.1 ht with ht | ht
    · split at ht
      · simp only [List.mem_cons, List.not_mem_nil, or_false] at ht
        rcases ht with rfl | rfl
        · exact m10
        · exact fun j hj => absurd hj (Nat.not_lt_zero j)
      · cases ht
    · rcases List.mem_cons.1 ht with rfl | ht
      · exact u10
      · exact remk_no10 k r (i + 1) (fun x hx => h x (List.mem_cons_of_mem _ hx)) t ht
/-- LINES WITHOUT FIELDS, AND REMARKS, TURN NOTHING BUT LINES' NUMBERS. -/
theorem src_rem {s : ByteArray} (k : Nat) (h1 : s.size ≤ 100000) (h2 : (textB (remk k 0 (lnsFrom s 0 0))).size ≤ 100000) :
    simF (srcRes s).2 (srcRes (textB (remk k 0 (lnsFrom s 0 0)))).2 ∧ (srcRes s).1 = (srcRes (textB (remk k 0 (lnsFrom s 0 0)))).1 := by
  have a := lns_no10 (s := s) s.size 0 0 (by omega) (Nat.le_refl _) (Nat.zero_le _) (fun j hj h1 h2 => by omega)
  have e := lns_all (remk_no10 k _ 0 a)
  obtain ⟨g1, g2⟩ := go_rem k (lnsFrom s 0 0) 0 1 1 .none
  unfold srcRes
  rw [e, if_neg (show ¬ 100000 < s.size by omega), if_neg (show ¬ 100000 < (textB (remk k 0 (lnsFrom s 0 0))).size by omega), ← g1.1, ← g2]
  split
  · exact ⟨g1, rfl⟩
  split
  · exact ⟨⟨rfl, .inr rfl⟩, rfl⟩
  · exact ⟨sim_refl _, rfl⟩
end Go.Proofs.YtnkmlfbnfndfpaaGreatDoor
