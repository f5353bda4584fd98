/- Package fields: bytes of a kind; where a row of them ends. -/
import Derived.Test.YtnojlbeiknkooaaSjoin
import Derived.Test.YtnojlbeiknkooaaSwords
import Derived.WalkSmall
namespace Go.Proofs.Ytnojlbeiknkooaa
open Go.RowKit
/-- where the row of bytes of a kind ends that begins at k -/
def endOf (K : Int → Bool) (s : ByteArray) (k : Nat) : Nat :=
  if h : k < s.size then (if K s[k].toNat = true then endOf K s (k + 1) else k) else s.size
termination_by s.size - k
theorem endOf_on {K : Int → Bool} {s : ByteArray} {k : Nat} (h : k < s.size) (b : K s[k].toNat = true) : endOf K s k = endOf K s (k + 1) := by rw [endOf, dif_pos h, if_pos b]
theorem endOf_here {K : Int → Bool} {s : ByteArray} {k : Nat} (h : k < s.size) (b : K s[k].toNat = false) : endOf K s k = k := by rw [endOf, dif_pos h, if_neg (by rw [b]; decide)]
theorem endOf_end {K : Int → Bool} {s : ByteArray} {k : Nat} (h : ¬ k < s.size) : endOf K s k = s.size := by rw [endOf, dif_neg h]
theorem endOf_in {K : Int → Bool} {s : ByteArray} : ∀ (d k : Nat), s.size - k ≤ d → k ≤ s.size → k ≤ endOf K s k ∧ endOf K s k ≤ s.size := by
  intro d
  induction d with
  | zero => intro k hd hk; rw [endOf_end (by omega)]; omega
  | succ d ih =>
    intro k hd hk
    by_cases h : k < s.size
    · cases b : K s[k].toNat with
      | true => rw [endOf_on h b]; have := ih (k + 1) (by omega) (by omega); omega
      | false => rw [endOf_here h b]; omega
    · rw [endOf_end h]; omega
theorem endOf_le {K : Int → Bool} {s : ByteArray} {k : Nat} (hk : k ≤ s.size) : k ≤ endOf K s k ∧ endOf K s k ≤ s.size := endOf_in s.size k (by omega) hk
/-- ahead of the end all are of the kind; at it none is -/
theorem endOf_all {K : Int → Bool} {s : ByteArray} : ∀ (d k : Nat), s.size - k ≤ d → ∀ (j : Nat) (h : j < s.size), k ≤ j → j < endOf K s k → K s[j].toNat = true := by
  intro d
  induction d with
  | zero => intro k hd j h hk hj; omega
  | succ d ih =>
    intro k hd j h hk hj
    have h' : k < s.size := by omega
    cases b : K s[k].toNat with
    | true =>
      by_cases e : j = k
      · subst e; exact b
      · rw [endOf_on h' b] at hj; exact ih (k + 1) (by omega) j h (by omega) hj
    | false => rw [endOf_here h' b] at hj; omega
theorem endOf_at {K : Int → Bool} {s : ByteArray} : ∀ (d k : Nat), s.size - k ≤ d → ∀ (h : endOf K s k < s.size), K s[endOf K s k].toNat = false := by
  intro d
  induction d with
  | zero => intro k hd h; rw [endOf_end (by omega)] at h; omega
  | succ d ih =>
    intro k hd h
    by_cases h' : k < s.size
    · cases b : K s[k].toNat with
      | true => simp only [endOf_on h' b] at h ⊢; exact ih (k + 1) (by omega) h
      | false => simp only [endOf_here h' b] at h ⊢; exact b
    · rw [endOf_end h'] at h; omega
/-- the end is the first that is not of the kind -/
theorem endOf_eq {K : Int → Bool} {s : ByteArray} {k e : Nat} (hk : k ≤ e) (he : e ≤ s.size) (ha : ∀ (j : Nat) (h : j < s.size), k ≤ j → j < e → K s[j].toNat = true) (hb : ∀ (h : e < s.size), K s[e].toNat = false) : endOf K s k = e := by
  have ⟨h1, h2⟩ := endOf_le (K := K) (s := s) (k := k) (by omega)
  rcases Nat.lt_trichotomy (endOf K s k) e with h | h | h
  · have := endOf_at (K := K) (s := s) s.size k (by omega) (by omega)
    rw [ha _ (by omega) h1 h] at this
    cases this
  · exact h
  · have := endOf_all (K := K) (s := s) s.size k (by omega) e (by omega) hk h
    rw [hb (by omega)] at this
    cases this
def noQ (c : Int) : Bool := c != 34
theorem bare_okB (c : Int) : bareB c = (okB c && (c != 32) && (c != 35)) := by
  unfold bareB okB
  by_cases h : c = 32
  · subst h; rfl
  · by_cases g : c = 35
    · subst g; rfl
    · rw [bne_iff_ne.2 h, bne_iff_ne.2 g, Bool.and_true, Bool.and_true]
      by_cases k : 32 < c ∧ c < 127 ∧ ¬ c = 34 ∧ ¬ c = 35
      · rw [decide_eq_true k, decide_eq_true (by omega)]
      · rw [decide_eq_false k, decide_eq_false (by omega)]
set_option maxRecDepth 100000 in
theorem fblank (c : Int) (w : World) : Calls Try.prog 36 #[.int .u8 c] w (fun e w' => e = .returned (.bool (blankB c)) ∧ w = w') := by
  by_cases h1 : c = 32
  · rw [show blankB c = true from decide_eq_true (.inl h1)]
    subst h1
    go_enter Try.func36, Try.ntmps36
    go_wp2
    go_ret
    exact ⟨rfl, rfl⟩
  · have g1 : (c == 32) = false := by rw [beq_eq_false_iff_ne]; exact h1
    have e : blankB c = (c == 9) := by
      by_cases h2 : c = 9
      · rw [show blankB c = true from decide_eq_true (.inr h2), h2]; rfl
      · rw [show blankB c = false from decide_eq_false (by omega), beq_eq_false_iff_ne.2 h2]
    rw [e]
    clear e h1
    go_enter Try.func36, Try.ntmps36
    go_wp2
    go_ret
    exact ⟨rfl, rfl⟩
set_option maxRecDepth 100000 in
theorem fquotable (c : Int) (w : World) : Calls Try.prog 26 #[.int .u8 c] w (fun e w' => e = .returned (.bool (okB c)) ∧ w = w') := by
  by_cases h1 : 32 ≤ c
  · have g1 : decide (32 ≤ c) = true := decide_eq_true h1
    by_cases h2 : c ≤ 126
    · have g2 : decide (c ≤ 126) = true := decide_eq_true h2
      have e : okB c = (c != 34) := by
        by_cases h4 : c = 34
        · rw [show okB c = false from decide_eq_false fun k => k.2.2 h4, h4]; rfl
        · rw [show okB c = true from decide_eq_true ⟨h1, h2, h4⟩, (bne_iff_ne.2 h4)]
      rw [e]
      clear e h1 h2
      go_enter Try.func26, Try.ntmps26
      go_wp2
      go_ret
      exact ⟨rfl, rfl⟩
    · have g2 : decide (c ≤ 126) = false := decide_eq_false h2
      rw [show okB c = false from decide_eq_false fun k => h2 k.2.1]
      clear h1 h2
      go_enter Try.func26, Try.ntmps26
      go_wp2
      go_ret
      exact ⟨rfl, rfl⟩
  · have g1 : decide (32 ≤ c) = false := decide_eq_false h1
    rw [show okB c = false from decide_eq_false fun k => h1 k.1]
    clear h1
    go_enter Try.func26, Try.ntmps26
    go_wp2
    go_ret
    exact ⟨rfl, rfl⟩
set_option maxRecDepth 100000 in
theorem fplain (c : Int) (w : World) : Calls Try.prog 38 #[.int .u8 c] w (fun e w' => e = .returned (.bool (bareB c)) ∧ w = w') := by
  have QW := Lib.hid (fquotable c)
  rw [bare_okB]
  cases h1 : okB c with
  | false =>
    rw [h1] at QW
    simp only [Bool.false_and]
    clear h1
    go_enter Try.func38, Try.ntmps38
    go_wp2_with (go_at_call 26; refine (QW.out _).mono ?_; rintro e w' ⟨rfl, rfl⟩)
    go_ret
    exact ⟨rfl, rfl⟩
  | true =>
    rw [h1] at QW
    simp only [Bool.true_and]
    clear h1
    by_cases h2 : c = 32
    · subst h2
      go_enter Try.func38, Try.ntmps38
      go_wp2_with (go_at_call 26; refine (QW.out _).mono ?_; rintro e w' ⟨rfl, rfl⟩)
      go_ret
      exact ⟨rfl, rfl⟩
    · have g2 : (c != 32) = true := by rw [bne_iff_ne]; exact h2
      rw [g2]
      simp only [Bool.true_and]
      clear h2
      go_enter Try.func38, Try.ntmps38
      go_wp2_with (go_at_call 26; refine (QW.out _).mono ?_; rintro e w' ⟨rfl, rfl⟩)
      go_ret
      exact ⟨rfl, rfl⟩
set_option maxRecDepth 100000 in
theorem fquoteless (c : Int) (w : World) : Calls Try.prog 42 #[.int .u8 c] w (fun e w' => e = .returned (.bool (noQ c)) ∧ w = w') := by
  unfold noQ
  go_enter Try.func42, Try.ntmps42
  go_wp2
  go_ret
  exact ⟨rfl, rfl⟩
set_option maxRecDepth 100000 in
theorem end_blank (s : ByteArray) (hs : s.size ≤ 1000000) (a : Nat) (ha : a ≤ 1000001) (w : World) : Calls Try.prog 35 #[.string s, .int .i64 a, .func (.func 36) #[] #[]] w (fun e w' => e = .returned (.int .i64 (endOf blankB s a)) ∧ w = w') := by
  go_enter Try.func35, Try.ntmps35
  go_wp2
  go_loop [7] (fun i => ∃ k : Nat, k ≤ 1000001 ∧ i = .int .i64 k ∧ endOf blankB s k = endOf blankB s a) (fun i => s.size - (intOf i).toNat)
  case atStart => exact ⟨a, ha, rfl, rfl⟩
  case round =>
    obtain ⟨k, hk, rfl, he⟩ := hrel
    by_cases h1 : k < s.size
    · cases b : blankB s[k].toNat with
      | false =>
        have HE := Lib.hid (he.symm.trans (endOf_here h1 b))
        have KW := Lib.hid (fun w => (b ▸ fblank s[k].toNat w : Calls Try.prog 36 #[.int .u8 s[k].toNat] w (fun e w' => e = .returned (.bool false) ∧ w = w')))
        clear b he
        go_wp2_with (go_at_call 36; refine (KW.out _).mono ?_; rintro e w' ⟨rfl, rfl⟩)
        go_ret
        exact ⟨by rw [HE.out]; rfl, rfl⟩
      | true =>
        have HE := Lib.hid (((endOf_on h1 b).symm).trans he)
        have KW := Lib.hid (fun w => (b ▸ fblank s[k].toNat w : Calls Try.prog 36 #[.int .u8 s[k].toNat] w (fun e w' => e = .returned (.bool true) ∧ w = w')))
        clear b he
        go_wp2_with (go_at_call 36; refine (KW.out _).mono ?_; rintro e w' ⟨rfl, rfl⟩)
        go_round
        case rel => exact ⟨k + 1, by omega, by go_num, HE.out⟩
        case measure => simp [intOf]; omega
    · have HE := Lib.hid (he.symm.trans (endOf_end h1))
      clear he
      go_wp2
      go_ret
      exact ⟨by rw [HE.out]; rfl, rfl⟩
set_option maxRecDepth 100000 in
theorem end_ok (s : ByteArray) (hs : s.size ≤ 1000000) (a : Nat) (ha : a ≤ 1000001) (w : World) : Calls Try.prog 35 #[.string s, .int .i64 a, .func (.func 26) #[] #[]] w (fun e w' => e = .returned (.int .i64 (endOf okB s a)) ∧ w = w') := by
  go_enter Try.func35, Try.ntmps35
  go_wp2
  go_loop [7] (fun i => ∃ k : Nat, k ≤ 1000001 ∧ i = .int .i64 k ∧ endOf okB s k = endOf okB s a) (fun i => s.size - (intOf i).toNat)
  case atStart => exact ⟨a, ha, rfl, rfl⟩
  case round =>
    obtain ⟨k, hk, rfl, he⟩ := hrel
    by_cases h1 : k < s.size
    · cases b : okB s[k].toNat with
      | false =>
        have HE := Lib.hid (he.symm.trans (endOf_here h1 b))
        have KW := Lib.hid (fun w => (b ▸ fquotable s[k].toNat w : Calls Try.prog 26 #[.int .u8 s[k].toNat] w (fun e w' => e = .returned (.bool false) ∧ w = w')))
        clear b he
        go_wp2_with (go_at_call 26; refine (KW.out _).mono ?_; rintro e w' ⟨rfl, rfl⟩)
        go_ret
        exact ⟨by rw [HE.out]; rfl, rfl⟩
      | true =>
        have HE := Lib.hid (((endOf_on h1 b).symm).trans he)
        have KW := Lib.hid (fun w => (b ▸ fquotable s[k].toNat w : Calls Try.prog 26 #[.int .u8 s[k].toNat] w (fun e w' => e = .returned (.bool true) ∧ w = w')))
        clear b he
        go_wp2_with (go_at_call 26; refine (KW.out _).mono ?_; rintro e w' ⟨rfl, rfl⟩)
        go_round
        case rel => exact ⟨k + 1, by omega, by go_num, HE.out⟩
        case measure => simp [intOf]; omega
    · have HE := Lib.hid (he.symm.trans (endOf_end h1))
      clear he
      go_wp2
      go_ret
      exact ⟨by rw [HE.out]; rfl, rfl⟩
set_option maxRecDepth 100000 in
theorem end_bare (s : ByteArray) (hs : s.size ≤ 1000000) (a : Nat) (ha : a ≤ 1000001) (w : World) : Calls Try.prog 35 #[.string s, .int .i64 a, .func (.func 38) #[] #[]] w (fun e w' => e = .returned (.int .i64 (endOf bareB s a)) ∧ w = w') := by
  go_enter Try.func35, Try.ntmps35
  go_wp2
  go_loop [7] (fun i => ∃ k : Nat, k ≤ 1000001 ∧ i = .int .i64 k ∧ endOf bareB s k = endOf bareB s a) (fun i => s.size - (intOf i).toNat)
  case atStart => exact ⟨a, ha, rfl, rfl⟩
  case round =>
    obtain ⟨k, hk, rfl, he⟩ := hrel
    by_cases h1 : k < s.size
    · cases b : bareB s[k].toNat with
      | false =>
        have HE := Lib.hid (he.symm.trans (endOf_here h1 b))
        have KW := Lib.hid (fun w => (b ▸ fplain s[k].toNat w : Calls Try.prog 38 #[.int .u8 s[k].toNat] w (fun e w' => e = .returned (.bool false) ∧ w = w')))
        clear b he
        go_wp2_with (go_at_call 38; refine (KW.out _).mono ?_; rintro e w' ⟨rfl, rfl⟩)
        go_ret
        exact ⟨by rw [HE.out]; rfl, rfl⟩
      | true =>
        have HE := Lib.hid (((endOf_on h1 b).symm).trans he)
        have KW := Lib.hid (fun w => (b ▸ fplain s[k].toNat w : Calls Try.prog 38 #[.int .u8 s[k].toNat] w (fun e w' => e = .returned (.bool true) ∧ w = w')))
        clear b he
        go_wp2_with (go_at_call 38; refine (KW.out _).mono ?_; rintro e w' ⟨rfl, rfl⟩)
        go_round
        case rel => exact ⟨k + 1, by omega, by go_num, HE.out⟩
        case measure => simp [intOf]; omega
    · have HE := Lib.hid (he.symm.trans (endOf_end h1))
      clear he
      go_wp2
      go_ret
      exact ⟨by rw [HE.out]; rfl, rfl⟩
set_option maxRecDepth 100000 in
theorem end_noq (s : ByteArray) (hs : s.size ≤ 1000000) (a : Nat) (ha : a ≤ 1000001) (w : World) : Calls Try.prog 35 #[.string s, .int .i64 a, .func (.func 42) #[] #[]] w (fun e w' => e = .returned (.int .i64 (endOf noQ s a)) ∧ w = w') := by
  go_enter Try.func35, Try.ntmps35
  go_wp2
  go_loop [7] (fun i => ∃ k : Nat, k ≤ 1000001 ∧ i = .int .i64 k ∧ endOf noQ s k = endOf noQ s a) (fun i => s.size - (intOf i).toNat)
  case atStart => exact ⟨a, ha, rfl, rfl⟩
  case round =>
    obtain ⟨k, hk, rfl, he⟩ := hrel
    by_cases h1 : k < s.size
    · cases b : noQ s[k].toNat with
      | false =>
        have HE := Lib.hid (he.symm.trans (endOf_here h1 b))
        have KW := Lib.hid (fun w => (b ▸ fquoteless s[k].toNat w : Calls Try.prog 42 #[.int .u8 s[k].toNat] w (fun e w' => e = .returned (.bool false) ∧ w = w')))
        clear b he
        go_wp2_with (go_at_call 42; refine (KW.out _).mono ?_; rintro e w' ⟨rfl, rfl⟩)
        go_ret
        exact ⟨by rw [HE.out]; rfl, rfl⟩
      | true =>
        have HE := Lib.hid (((endOf_on h1 b).symm).trans he)
        have KW := Lib.hid (fun w => (b ▸ fquoteless s[k].toNat w : Calls Try.prog 42 #[.int .u8 s[k].toNat] w (fun e w' => e = .returned (.bool true) ∧ w = w')))
        clear b he
        go_wp2_with (go_at_call 42; refine (KW.out _).mono ?_; rintro e w' ⟨rfl, rfl⟩)
        go_round
        case rel => exact ⟨k + 1, by omega, by go_num, HE.out⟩
        case measure => simp [intOf]; omega
    · have HE := Lib.hid (he.symm.trans (endOf_end h1))
      clear he
      go_wp2
      go_ret
      exact ⟨by rw [HE.out]; rfl, rfl⟩
end Go.Proofs.Ytnojlbeiknkooaa