import Derived.Test.YtnkmlfbnfndfpaaGreatDoorXGq
import Derived.WalkSmall
import Derived.Laws.DeepStrings4
import Derived.Shelf.Strings.BuilderK
import Derived.Shelf.LaysM
import Derived.Shelf.Strconv.Clone
import Derived.Shelf.Strings.Search2
import Derived.Test.YtnkmlfbnfndfpaaGreatDoorProg
import Derived.Lib.FrozenHead2
import Derived.Lib.IndexLaws
import Derived.Shelf.RegionOpenPlain
import Derived.RangeFuncNested
import Derived.RangeFuncBound
import Derived.RangeFuncCalls
import Derived.RangeFuncLeaves
import Derived.RangeFuncBox
import Derived.Shelf.Abstract
import Derived.Shelf.RegionOpen
import Derived.WalkKit
import Derived.OwnWalkIn
import Derived.TacticsInMore
import Derived.LoopNIn
import Derived.LoopIn
import Derived.Maps.AppendAt
set_option maxRecDepth 100000
set_option maxHeartbeats 64000000
namespace Go.Proofs.YtnkmlfbnfndfpaaGreatDoor
open Go.RowKit
def endOf (K : Int → Bool) (s : ByteArray) (k : Nat) : Nat :=
  if h : k < s.size then (if K s[k].toNat = true then endOf K s (k + 1) else k) else s.size
termination_by s.size - k
theorem endOf_on {K : Int → Bool} {s : ByteArray} {k : Nat} (h : k < s.size) (b : K s[k].toNat = true) : endOf K s k = endOf K s (k + 1) := by rw [endOf, dif_pos h, if_pos b]
theorem endOf_here {K : Int → Bool} {s : ByteArray} {k : Nat} (h : k < s.size) (b : K s[k].toNat = false) : endOf K s k = k := by rw [endOf, dif_pos h, if_neg (by rw [b]; decide)]
theorem endOf_end {K : Int → Bool} {s : ByteArray} {k : Nat} (h : ¬ k < s.size) : endOf K s k = s.size := by rw [endOf, dif_neg h]
theorem endOf_in {K : Int → Bool} {s : ByteArray} : ∀ (d k : Nat), s.size - k ≤ d → k ≤ s.size → k ≤ endOf K s k ∧ endOf K s k ≤ s.size := by
  intro d
  induction d with
  | zero => intro k hd hk; rw [endOf_end (by omega)]; omega
  | succ d ih =>
    intro k hd hk
    by_cases h : k < s.size
    · cases b : K s[k].toNat with
      | true => rw [endOf_on h b]; have := ih (k + 1) (by omega) (by omega); omega
      | false => rw [endOf_here h b]; omega
    · rw [endOf_end h]; omega
theorem endOf_le {K : Int → Bool} {s : ByteArray} {k : Nat} (hk : k ≤ s.size) : k ≤ endOf K s k ∧ endOf K s k ≤ s.size := endOf_in s.size k (by omega) hk
theorem endOf_all {K : Int → Bool} {s : ByteArray} : ∀ (d k : Nat), s.size - k ≤ d → ∀ (j : Nat) (h : j < s.size), k ≤ j → j < endOf K s k → K s[j].toNat = true := by
  intro d
  induction d with
  | zero => intro k hd j h hk hj; omega
  | succ d ih =>
    intro k hd j h hk hj
    have h' : k < s.size := by omega
    cases b : K s[k].toNat with
    | true =>
      by_cases e : j = k
      · subst e; exact b
      · rw [endOf_on h' b] at hj; exact ih (k + 1) (by omega) j h (by omega) hj
    | false => rw [endOf_here h' b] at hj; omega
theorem endOf_at {K : Int → Bool} {s : ByteArray} : ∀ (d k : Nat), s.size - k ≤ d → ∀ (h : endOf K s k < s.size), K s[endOf K s k].toNat = false := by
  intro d
  induction d with
  | zero => intro k hd h; rw [endOf_end (by omega)] at h; omega
  | succ d ih =>
    intro k hd h
    by_cases h' : k < s.size
    · cases b : K s[k].toNat with
      | true => simp only [endOf_on h' b] at h ⊢; exact ih (k + 1) (by omega) h
      | false => simp only [endOf_here h' b] at h ⊢; exact b
    · rw [endOf_end h'] at h; omega
theorem endOf_eq {K : Int → Bool} {s : ByteArray} {k e : Nat} (hk : k ≤ e) (he : e ≤ s.size) (ha : ∀ (j : Nat) (h : j < s.size), k ≤ j → j < e → K s[j].toNat = true) (hb : ∀ (h : e < s.size), K s[e].toNat = false) : endOf K s k = e := by
  have ⟨h1, h2⟩ := endOf_le (K := K) (s := s) (k := k) (by omega)
  rcases Nat.lt_trichotomy (endOf K s k) e with h | h | h
  · have := endOf_at (K := K) (s := s) s.size k (by omega) (by omega)
    rw [ha _ (by omega) h1 h] at this
    cases this
  · exact h
  · have := endOf_all (K := K) (s := s) s.size k (by omega) e (by omega) hk h
    rw [hb (by omega)] at this
    cases this
def noQ (c : Int) : Bool := c != 34
theorem bare_okB (c : Int) : bareB c = (okB c && (c != 32) && (c != 35)) := by
  unfold bareB okB
  by_cases h : c = 32
  · subst h; rfl
  · by_cases g : c = 35
    · subst g; rfl
    · rw [bne_iff_ne.2 h, bne_iff_ne.2 g, Bool.and_true, Bool.and_true]
      by_cases k : 32 < c ∧ c < 127 ∧ ¬ c = 34 ∧ ¬ c = 35
      · rw [decide_eq_true k, decide_eq_true (by omega)]
      · rw [decide_eq_false k, decide_eq_false (by omega)]
theorem fblank (c : Int) (w : World) : Calls Tryz.prog 132 #[.int .u8 c] w (fun e w' => e = .returned (.bool (blankB c)) ∧ w = w') := by
  by_cases h1 : c = 32
  · rw [show blankB c = true from decide_eq_true (.inl h1)]
    subst h1
    go_enter Tryz.func132, Tryz.ntmps132
    go_wp2
    go_ret
    exact ⟨rfl, rfl⟩
  · have g1 : (c == 32) = false := by rw [beq_eq_false_iff_ne]; exact h1
    have e : blankB c = (c == 9) := by
      by_cases h2 : c = 9
      · rw [show blankB c = true from decide_eq_true (.inr h2), h2]; rfl
      · rw [show blankB c = false from decide_eq_false (by omega), beq_eq_false_iff_ne.2 h2]
    rw [e]
    clear e h1
    go_enter Tryz.func132, Tryz.ntmps132
    go_wp2
    go_ret
    exact ⟨rfl, rfl⟩
theorem fquotable (c : Int) (w : World) : Calls Tryz.prog 117 #[.int .u8 c] w (fun e w' => e = .returned (.bool (okB c)) ∧ w = w') := by
  by_cases h1 : 32 ≤ c
  · have g1 : decide (32 ≤ c) = true := decide_eq_true h1
    by_cases h2 : c ≤ 126
    · have g2 : decide (c ≤ 126) = true := decide_eq_true h2
      have e : okB c = (c != 34) := by
        by_cases h4 : c = 34
        · rw [show okB c = false from decide_eq_false fun k => k.2.2 h4, h4]; rfl
        · rw [show okB c = true from decide_eq_true ⟨h1, h2, h4⟩, (bne_iff_ne.2 h4)]
      rw [e]
      clear e h1 h2
      go_enter Tryz.func117, Tryz.ntmps117
      go_wp2
      go_ret
      exact ⟨rfl, rfl⟩
    · have g2 : decide (c ≤ 126) = false := decide_eq_false h2
      rw [show okB c = false from decide_eq_false fun k => h2 k.2.1]
      clear h1 h2
      go_enter Tryz.func117, Tryz.ntmps117
      go_wp2
      go_ret
      exact ⟨rfl, rfl⟩
  · have g1 : decide (32 ≤ c) = false := decide_eq_false h1
    rw [show okB c = false from decide_eq_false fun k => h1 k.1]
    clear h1
    go_enter Tryz.func117, Tryz.ntmps117
    go_wp2
    go_ret
    exact ⟨rfl, rfl⟩
theorem fplain (c : Int) (w : World) : Calls Tryz.prog 134 #[.int .u8 c] w (fun e w' => e = .returned (.bool (bareB c)) ∧ w = w') := by
  have QW := Lib.hid (fquotable c)
  rw [bare_okB]
  cases h1 : okB c with
  | false =>
    rw [h1] at QW
    simp only [Bool.false_and]
    clear h1
    go_enter Tryz.func134, Tryz.ntmps134
    go_wp2_with (go_at_call 117; refine (QW.out _).mono ?_; rintro e w' ⟨rfl, rfl⟩)
    go_ret
    exact ⟨rfl, rfl⟩
  | true =>
    rw [h1] at QW
    simp only [Bool.true_and]
    clear h1
    by_cases h2 : c = 32
    · subst h2
      go_enter Tryz.func134, Tryz.ntmps134
      go_wp2_with (go_at_call 117; refine (QW.out _).mono ?_; rintro e w' ⟨rfl, rfl⟩)
      go_ret
      exact ⟨rfl, rfl⟩
    · have g2 : (c != 32) = true := by rw [bne_iff_ne]; exact h2
      rw [g2]
      simp only [Bool.true_and]
      clear h2
      go_enter Tryz.func134, Tryz.ntmps134
      go_wp2_with (go_at_call 117; refine (QW.out _).mono ?_; rintro e w' ⟨rfl, rfl⟩)
      go_ret
      exact ⟨rfl, rfl⟩
theorem fquoteless (c : Int) (w : World) : Calls Tryz.prog 161 #[.int .u8 c] w (fun e w' => e = .returned (.bool (noQ c)) ∧ w = w') := by
  unfold noQ
  go_enter Tryz.func161, Tryz.ntmps161
  go_wp2
  go_ret
  exact ⟨rfl, rfl⟩
theorem end_blank (s : ByteArray) (hs : s.size ≤ 1000000) (a : Nat) (ha : a ≤ 1000001) (w : World) : Calls Tryz.prog 131 #[.string s, .int .i64 a, .func (.func 132) #[] #[]] w (fun e w' => e = .returned (.int .i64 (endOf blankB s a)) ∧ w = w') := by
  go_enter Tryz.func131, Tryz.ntmps131
  go_wp2
  go_loop [7] (fun i => ∃ k : Nat, k ≤ 1000001 ∧ i = .int .i64 k ∧ endOf blankB s k = endOf blankB s a) (fun i => s.size - (intOf i).toNat)
  case atStart => exact ⟨a, ha, rfl, rfl⟩
  case round =>
    obtain ⟨k, hk, rfl, he⟩ := hrel
    by_cases h1 : k < s.size
    · cases b : blankB s[k].toNat with
      | false =>
        have HE := Lib.hid (he.symm.trans (endOf_here h1 b))
        have KW := Lib.hid (fun w => (b ▸ fblank s[k].toNat w : Calls Tryz.prog 132 #[.int .u8 s[k].toNat] w (fun e w' => e = .returned (.bool false) ∧ w = w')))
        clear b he
        go_wp2_with (go_at_call 132; refine (KW.out _).mono ?_; rintro e w' ⟨rfl, rfl⟩)
        go_ret
        exact ⟨by rw [HE.out]; rfl, rfl⟩
      | true =>
        have HE := Lib.hid (((endOf_on h1 b).symm).trans he)
        have KW := Lib.hid (fun w => (b ▸ fblank s[k].toNat w : Calls Tryz.prog 132 #[.int .u8 s[k].toNat] w (fun e w' => e = .returned (.bool true) ∧ w = w')))
        clear b he
        go_wp2_with (go_at_call 132; refine (KW.out _).mono ?_; rintro e w' ⟨rfl, rfl⟩)
        go_round
        case rel => exact ⟨k + 1, by omega, by go_num, HE.out⟩
        case measure => simp [intOf]; omega
    · have HE := Lib.hid (he.symm.trans (endOf_end h1))
      clear he
      go_wp2
      go_ret
      exact ⟨by rw [HE.out]; rfl, rfl⟩
theorem end_ok (s : ByteArray) (hs : s.size ≤ 1000000) (a : Nat) (ha : a ≤ 1000001) (w : World) : Calls Tryz.prog 131 #[.string s, .int .i64 a, .func (.func 117) #[] #[]] w (fun e w' => e = .returned (.int .i64 (endOf okB s a)) ∧ w = w') := by
  go_enter Tryz.func131, Tryz.ntmps131
  go_wp2
  go_loop [7] (fun i => ∃ k : Nat, k ≤ 1000001 ∧ i = .int .i64 k ∧ endOf okB s k = endOf okB s a) (fun i => s.size - (intOf i).toNat)
  case atStart => exact ⟨a, ha, rfl, rfl⟩
  case round =>
    obtain ⟨k, hk, rfl, he⟩ := hrel
    by_cases h1 : k < s.size
    · cases b : okB s[k].toNat with
      | false =>
        have HE := Lib.hid (he.symm.trans (endOf_here h1 b))
        have KW := Lib.hid (fun w => (b ▸ fquotable s[k].toNat w : Calls Tryz.prog 117 #[.int .u8 s[k].toNat] w (fun e w' => e = .returned (.bool false) ∧ w = w')))
        clear b he
        go_wp2_with (go_at_call 117; refine (KW.out _).mono ?_; rintro e w' ⟨rfl, rfl⟩)
        go_ret
        exact ⟨by rw [HE.out]; rfl, rfl⟩
      | true =>
        have HE := Lib.hid (((endOf_on h1 b).symm).trans he)
        have KW := Lib.hid (fun w => (b ▸ fquotable s[k].toNat w : Calls Tryz.prog 117 #[.int .u8 s[k].toNat] w (fun e w' => e = .returned (.bool true) ∧ w = w')))
        clear b he
        go_wp2_with (go_at_call 117; refine (KW.out _).mono ?_; rintro e w' ⟨rfl, rfl⟩)
        go_round
        case rel => exact ⟨k + 1, by omega, by go_num, HE.out⟩
        case measure => simp [intOf]; omega
    · have HE := Lib.hid (he.symm.trans (endOf_end h1))
      clear he
      go_wp2
      go_ret
      exact ⟨by rw [HE.out]; rfl, rfl⟩
theorem end_bare (s : ByteArray) (hs : s.size ≤ 1000000) (a : Nat) (ha : a ≤ 1000001) (w : World) : Calls Tryz.prog 131 #[.string s, .int .i64 a, .func (.func 134) #[] #[]] w (fun e w' => e = .returned (.int .i64 (endOf bareB s a)) ∧ w = w') := by
  go_enter Tryz.func131, Tryz.ntmps131
  go_wp2
  go_loop [7] (fun i => ∃ k : Nat, k ≤ 1000001 ∧ i = .int .i64 k ∧ endOf bareB s k = endOf bareB s a) (fun i => s.size - (intOf i).toNat)
  case atStart => exact ⟨a, ha, rfl, rfl⟩
  case round =>
    obtain ⟨k, hk, rfl, he⟩ := hrel
    by_cases h1 : k < s.size
    · cases b : bareB s[k].toNat with
      | false =>
        have HE := Lib.hid (he.symm.trans (endOf_here h1 b))
        have KW := Lib.hid (fun w => (b ▸ fplain s[k].toNat w : Calls Tryz.prog 134 #[.int .u8 s[k].toNat] w (fun e w' => e = .returned (.bool false) ∧ w = w')))
        clear b he
        go_wp2_with (go_at_call 134; refine (KW.out _).mono ?_; rintro e w' ⟨rfl, rfl⟩)
        go_ret
        exact ⟨by rw [HE.out]; rfl, rfl⟩
      | true =>
        have HE := Lib.hid (((endOf_on h1 b).symm).trans he)
        have KW := Lib.hid (fun w => (b ▸ fplain s[k].toNat w : Calls Tryz.prog 134 #[.int .u8 s[k].toNat] w (fun e w' => e = .returned (.bool true) ∧ w = w')))
        clear b he
        go_wp2_with (go_at_call 134; refine (KW.out _).mono ?_; rintro e w' ⟨rfl, rfl⟩)
        go_round
        case rel => exact ⟨k + 1, by omega, by go_num, HE.out⟩
        case measure => simp [intOf]; omega
    · have HE := Lib.hid (he.symm.trans (endOf_end h1))
      clear he
      go_wp2
      go_ret
      exact ⟨by rw [HE.out]; rfl, rfl⟩
theorem end_noq (s : ByteArray) (hs : s.size ≤ 1000000) (a : Nat) (ha : a ≤ 1000001) (w : World) : Calls Tryz.prog 131 #[.string s, .int .i64 a, .func (.func 161) #[] #[]] w (fun e w' => e = .returned (.int .i64 (endOf noQ s a)) ∧ w = w') := by
  go_enter Tryz.func131, Tryz.ntmps131
  go_wp2
  go_loop [7] (fun i => ∃ k : Nat, k ≤ 1000001 ∧ i = .int .i64 k ∧ endOf noQ s k = endOf noQ s a) (fun i => s.size - (intOf i).toNat)
  case atStart => exact ⟨a, ha, rfl, rfl⟩
  case round =>
    obtain ⟨k, hk, rfl, he⟩ := hrel
    by_cases h1 : k < s.size
    · cases b : noQ s[k].toNat with
      | false =>
        have HE := Lib.hid (he.symm.trans (endOf_here h1 b))
        have KW := Lib.hid (fun w => (b ▸ fquoteless s[k].toNat w : Calls Tryz.prog 161 #[.int .u8 s[k].toNat] w (fun e w' => e = .returned (.bool false) ∧ w = w')))
        clear b he
        go_wp2_with (go_at_call 161; refine (KW.out _).mono ?_; rintro e w' ⟨rfl, rfl⟩)
        go_ret
        exact ⟨by rw [HE.out]; rfl, rfl⟩
      | true =>
        have HE := Lib.hid (((endOf_on h1 b).symm).trans he)
        have KW := Lib.hid (fun w => (b ▸ fquoteless s[k].toNat w : Calls Tryz.prog 161 #[.int .u8 s[k].toNat] w (fun e w' => e = .returned (.bool true) ∧ w = w')))
        clear b he
        go_wp2_with (go_at_call 161; refine (KW.out _).mono ?_; rintro e w' ⟨rfl, rfl⟩)
        go_round
        case rel => exact ⟨k + 1, by omega, by go_num, HE.out⟩
        case measure => simp [intOf]; omega
    · have HE := Lib.hid (he.symm.trans (endOf_end h1))
      clear he
      go_wp2
      go_ret
      exact ⟨by rw [HE.out]; rfl, rfl⟩
theorem quo_noq {s : ByteArray} : ∀ (d k : Nat), s.size - k ≤ d → k ≤ s.size → (quoAt s k = none → endOf noQ s k = s.size) ∧ (∀ e, quoAt s k = some e → endOf noQ s k = e ∧ e < s.size ∧ k ≤ e) := by
  intro d
  induction d with
  | zero => intro k hd hk; rw [quo_end (by omega), endOf_end (by omega)]; exact ⟨fun _ => rfl, fun e h => (by cases h)⟩
  | succ d ih =>
    intro k hd hk
    by_cases h : k < s.size
    · by_cases q : s[k] = 34
      · have b : noQ s[k].toNat = false := by rw [q]; rfl
        rw [quo_here h q, endOf_here h b]
        exact ⟨fun c => (by cases c), fun e h' => (by cases h'; exact ⟨rfl, h, Nat.le_refl _⟩)⟩
      · have b : noQ s[k].toNat = true := by
          unfold noQ
          rw [bne_iff_ne]
          intro c
          exact q (by rw [← UInt8.toNat_inj]; show s[k].toNat = 34; omega)
        rw [quo_on h q, endOf_on h b]
        have := ih (k + 1) (by omega) (by omega)
        exact ⟨this.1, fun e he => by have := this.2 e he; omega⟩
    · rw [quo_end h, endOf_end h]; exact ⟨fun _ => rfl, fun e h => (by cases h)⟩
theorem quo_none {s : ByteArray} {k : Nat} (hk : k ≤ s.size) (h : quoAt s k = none) : endOf noQ s k = s.size := (quo_noq s.size k (by omega) hk).1 h
theorem quo_some {s : ByteArray} {k e : Nat} (hk : k ≤ s.size) (h : quoAt s k = some e) : endOf noQ s k = e ∧ e < s.size ∧ k ≤ e := (quo_noq s.size k (by omega) hk).2 e h
theorem quo_is {s : ByteArray} : ∀ (d k : Nat), s.size - k ≤ d → ∀ e, quoAt s k = some e → ∃ h : e < s.size, s[e] = 34 ∧ ∀ (j : Nat) (g : j < s.size), k ≤ j → j < e → ¬ s[j] = 34 := by
  intro d
  induction d with
  | zero => intro k hd e he; rw [quo_end (by omega)] at he; cases he
  | succ d ih =>
    intro k hd e he
    by_cases h : k < s.size
    · by_cases q : s[k] = 34
      · rw [quo_here h q] at he
        cases he
        exact ⟨h, q, fun j _ h1 h2 => by omega⟩
      · rw [quo_on h q] at he
        obtain ⟨g, e1, e2⟩ := ih (k + 1) (by omega) e he
        refine ⟨g, e1, fun j gj h1 h2 => ?_⟩
        by_cases c : j = k
        · subst c; exact q
        · exact e2 j gj (by omega) h2
    · rw [quo_end h] at he; cases he
theorem okB_34 : okB 34 = false := by decide
theorem bad_end {s : ByteArray} {e : Nat} (he : e < s.size) (e34 : s[e] = 34) : ∀ (d k : Nat), e - k ≤ d → k ≤ e → (∀ (j : Nat) (g : j < s.size), k ≤ j → j < e → ¬ s[j] = 34) → (badIn s k e = none → endOf okB s k = e) ∧ (∀ b, badIn s k e = some b → endOf okB s k = b ∧ k ≤ b ∧ b < e) := by
  intro d
  induction d with
  | zero =>
    intro k hd hk hn
    obtain rfl : k = e := by omega
    rw [badIn_end (by omega), endOf_here he (by rw [e34]; exact okB_34)]
    exact ⟨fun _ => rfl, fun b h => (by cases h)⟩
  | succ d ih =>
    intro k hd hk hn
    by_cases h : k < e
    · have g : k < s.size := by omega
      have n34 : ¬ ((s[k].toNat : Int) = 34) := fun c => hn k g (Nat.le_refl _) h (by rw [← UInt8.toNat_inj]; show s[k].toNat = 34; omega)
      by_cases c : s[k].toNat < 32 ∨ 126 < s[k].toNat
      · rw [badIn_here h g c, endOf_here g (decide_eq_false (by omega))]
        exact ⟨fun c => (by cases c), fun b hb => (by cases hb; exact ⟨rfl, Nat.le_refl _, h⟩)⟩
      · rw [badIn_on h g c, endOf_on g (decide_eq_true (by omega))]
        have := ih (k + 1) (by omega) (by omega) (fun j g h1 h2 => hn j g (by omega) h2)
        exact ⟨this.1, fun b hb => by have := this.2 b hb; omega⟩
    · obtain rfl : k = e := by omega
      rw [badIn_end (by omega), endOf_here he (by rw [e34]; exact okB_34)]
      exact ⟨fun _ => rfl, fun b h => (by cases h)⟩
def quoRes (s : ByteArray) (k : Nat) : ByteArray × Nat × Int :=
  if endOf noQ s (k + 1) = s.size then (⟨#[]⟩, 0, (k : Int))
  else if endOf okB s (k + 1) = endOf noQ s (k + 1) then (s.extract (k + 1) (endOf noQ s (k + 1)), endOf noQ s (k + 1) + 1, -1)
  else (⟨#[]⟩, 0, (endOf okB s (k + 1) : Int))
def headRes (s : ByteArray) (k : Nat) : ByteArray × Nat × Int :=
  if ∃ h : k < s.size, s[k] = 34 then quoRes s k else (s.extract k (endOf bareB s k), endOf bareB s k, -1)
def fieldRes (s : ByteArray) (k : Nat) : ByteArray × Nat × Int :=
  if (headRes s k).2.2 = -1 ∧ blocked s (headRes s k).2.1 = true then ((headRes s k).1, (headRes s k).2.1, ((headRes s k).2.1 : Int)) else headRes s k
theorem bareEnd_eq {s : ByteArray} {k : Nat} (hk : k ≤ s.size) : endOf bareB s k = bareEnd s k := by
  have main : ∀ (d k : Nat), s.size - k ≤ d → k ≤ s.size → endOf bareB s k = bareEnd s k := by
    intro d
    induction d with
    | zero => intro k hd hk; rw [endOf_end (by omega), bareEnd_end (by omega)]; omega
    | succ d ih =>
      intro k hd hk
      by_cases h : k < s.size
      · cases b : bareB s[k].toNat with
        | true => rw [endOf_on h b, bareEnd_on h b]; exact ih (k + 1) (by omega) (by omega)
        | false => rw [endOf_here h b, bareEnd_here h b]
      · rw [endOf_end h, bareEnd_end h]; omega
  exact main s.size k (by omega) hk
theorem toNat_nat (k : Nat) : (k : Int).toNat = k := Int.toNat_natCast k
theorem step {s : ByteArray} {k f : Nat} {out : List (ByteArray × Int)} (h : k < s.size) (nb : blankB s[k].toNat = false) (nr : ¬ s[k] = 35) :
    (out.length = 16 → ¬ (fieldRes s k).2.2 = (k : Int) → fixR s (splitGo s (f + 1) out k) = ([], (k : Int), 12))
    ∧ (¬ (out.length = 16 ∧ ¬ (fieldRes s k).2.2 = (k : Int)) → ¬ (fieldRes s k).2.2 = -1 → fixR s (splitGo s (f + 1) out k) = ([], (fieldRes s k).2.2, 6))
    ∧ (¬ out.length = 16 → (fieldRes s k).2.2 = -1 → splitGo s (f + 1) out k = splitGo s f (out ++ [((fieldRes s k).1, (k : Int))]) (fieldRes s k).2.1 ∧ k < (fieldRes s k).2.1 ∧ (fieldRes s k).2.1 ≤ s.size)
    ∧ (fieldRes s k).2.1 ≤ s.size ∧ -1 ≤ (fieldRes s k).2.2 ∧ (fieldRes s k).2.2 ≤ s.size := by
  by_cases q : s[k] = 34
  · have hH : headRes s k = quoRes s k := if_pos ⟨h, q⟩
    cases hq : quoAt s (k + 1) with
    | none =>
      have e1 := quo_none (by omega) hq
      have hR : fieldRes s k = (⟨#[]⟩, 0, (k : Int)) := by
        unfold fieldRes
        rw [hH]
        unfold quoRes
        rw [if_pos e1, if_neg (by intro c; have c1 := c.1; simp at c1 <;> omega)]
      have hl : lone s k = true := by unfold lone; rw [dif_pos h, hq, decide_eq_true q]; rfl
      rw [hR]
      refine ⟨fun _ c => absurd rfl c, fun _ _ => ?_, fun _ c => (by simp at c <;> omega), by simp, by simp <;> omega, by simp <;> omega⟩
      by_cases m : out.length = 16
      · rw [sp_many h nr nb (.inl q) m]
        unfold fixR
        rw [if_pos ⟨rfl, by rw [toNat_nat]; exact hl⟩]
      · rw [sp_quo h nr nb q m, hq]
        exact fix_id (by simp)
    | some e =>
      obtain ⟨e1, e2, e3⟩ := quo_some (by omega) hq
      obtain ⟨_, e4, e5⟩ := quo_is s.size (k + 1) (by omega) e hq
      have hl : lone s k = false := by unfold lone; rw [dif_pos h, hq, decide_eq_true q]; rfl
      have BE := bad_end e2 e4 e (k + 1) (by omega) e3 e5
      have hM : ∀ m : out.length = 16, fixR s (splitGo s (f + 1) out k) = ([], (k : Int), 12) := fun m => by
        rw [sp_many h nr nb (.inl q) m]
        unfold fixR
        rw [if_neg (by rw [toNat_nat, hl]; simp)]
      cases hb : badIn s (k + 1) e with
      | some b =>
        obtain ⟨b1, b2, b3⟩ := BE.2 b hb
        have hQ : quoRes s k = (⟨#[]⟩, 0, (b : Int)) := by
          unfold quoRes
          rw [if_neg (by omega), if_neg (by omega), b1]
        have hR : fieldRes s k = (⟨#[]⟩, 0, (b : Int)) := by
          unfold fieldRes
          rw [hH, hQ, if_neg (by intro c; have c1 := c.1; simp at c1 <;> omega)]
        rw [hR]
        refine ⟨fun m _ => hM m, fun c _ => ?_, fun _ c => (by simp at c <;> omega), by simp, by simp <;> omega, by simp <;> omega⟩
        have m : ¬ out.length = 16 := fun m => c ⟨m, by simp <;> omega⟩
        rw [sp_quo h nr nb q m, hq]
        simp only [hb]
        exact fix_id (by simp)
      | none =>
        have b1 := BE.1 hb
        have hQ : quoRes s k = (s.extract (k + 1) e, e + 1, -1) := by
          unfold quoRes
          rw [if_neg (by omega), if_pos (by omega), e1]
        cases bl : blocked s (e + 1) with
        | true =>
          have hR : fieldRes s k = (s.extract (k + 1) e, e + 1, ((e + 1 : Nat) : Int)) := by
            unfold fieldRes
            rw [hH, hQ, if_pos ⟨rfl, bl⟩]
          rw [hR]
          refine ⟨fun m _ => hM m, fun c _ => ?_, fun _ c => (by simp at c <;> omega), by simp <;> omega, by simp <;> omega, by simp <;> omega⟩
          have m : ¬ out.length = 16 := fun m => c ⟨m, by simp <;> omega⟩
          rw [sp_quo h nr nb q m, hq]
          simp only [hb, bl, if_true]
          exact fix_id (by simp)
        | false =>
          have hR : fieldRes s k = (s.extract (k + 1) e, e + 1, -1) := by
            unfold fieldRes
            rw [hH, hQ, if_neg (by simp [bl])]
          rw [hR]
          refine ⟨fun m _ => hM m, fun _ c => absurd rfl c, fun m _ => ⟨?_, by simp <;> omega, by simp <;> omega⟩, by simp <;> omega, by simp, by simp <;> omega⟩
          rw [sp_quo h nr nb q m, hq]
          simp only [hb, bl]
          rfl
  · have hH : headRes s k = (s.extract k (endOf bareB s k), endOf bareB s k, -1) := if_neg fun ⟨_, c⟩ => q c
    rw [bareEnd_eq (by omega)] at hH
    have hl : lone s k = false := by unfold lone; rw [dif_pos h, decide_eq_false q]; rfl
    cases ba : bareB s[k].toNat with
    | false =>
      have b0 : bareEnd s k = k := bareEnd_here h ba
      rw [b0] at hH
      have bl : blocked s k = true := by unfold blocked; rw [dif_pos h, nb, decide_eq_true nr]; rfl
      have hR : fieldRes s k = (s.extract k k, k, (k : Int)) := by
        unfold fieldRes
        rw [hH, if_pos ⟨rfl, bl⟩]
      rw [hR]
      refine ⟨fun _ c => absurd rfl c, fun _ _ => ?_, fun _ c => (by simp at c <;> omega), by simp <;> omega, by simp <;> omega, by simp <;> omega⟩
      rw [sp_no h nr nb q ba]
      exact fix_id (by simp)
    | true =>
      obtain ⟨b1, b2⟩ := bareEnd_lt h ba
      have hM : ∀ m : out.length = 16, fixR s (splitGo s (f + 1) out k) = ([], (k : Int), 12) := fun m => by
        rw [sp_many h nr nb (.inr ba) m]
        unfold fixR
        rw [if_neg (by rw [toNat_nat, hl]; simp)]
      cases bl : blocked s (bareEnd s k) with
      | true =>
        have hR : fieldRes s k = (s.extract k (bareEnd s k), bareEnd s k, (bareEnd s k : Int)) := by
          unfold fieldRes
          rw [hH, if_pos ⟨rfl, bl⟩]
        rw [hR]
        refine ⟨fun m _ => hM m, fun c _ => ?_, fun _ c => (by simp at c <;> omega), by simp <;> omega, by simp <;> omega, by simp <;> omega⟩
        have m : ¬ out.length = 16 := fun m => c ⟨m, by simp <;> omega⟩
        rw [sp_bare h nr nb q ba m, if_pos bl]
        exact fix_id (by simp)
      | false =>
        have hR : fieldRes s k = (s.extract k (bareEnd s k), bareEnd s k, -1) := by
          unfold fieldRes
          rw [hH, if_neg (by simp [bl])]
        rw [hR]
        refine ⟨fun m _ => hM m, fun _ c => absurd rfl c, fun m _ => ⟨?_, by simp <;> omega, by simp <;> omega⟩, by simp <;> omega, by simp, by simp <;> omega⟩
        rw [sp_bare h nr nb q ba m, if_neg (by rw [bl]; decide)]
def startOf (s : ByteArray) (k : Nat) : Nat := if (if h : endOf blankB s k < s.size then decide (s[endOf blankB s k] = 35) else false) = true then s.size else endOf blankB s k
theorem start_le {s : ByteArray} {k : Nat} (hk : k ≤ s.size) : k ≤ startOf s k ∧ startOf s k ≤ s.size := by
  have h := endOf_le (K := blankB) hk
  unfold startOf
  generalize (if h : endOf blankB s k < s.size then decide (s[endOf blankB s k] = 35) else false) = b
  cases b
  · rw [if_neg (by decide)]; exact h
  · rw [if_pos rfl]; exact ⟨hk, Nat.le_refl _⟩
theorem start_at {s : ByteArray} {k : Nat} (h : startOf s k < s.size) : blankB s[startOf s k].toNat = false ∧ ¬ s[startOf s k] = 35 := by
  by_cases g : endOf blankB s k < s.size
  · have hb := endOf_at (K := blankB) (s := s) s.size k (by omega) g
    by_cases c : s[endOf blankB s k] = 35
    · have : startOf s k = s.size := by unfold startOf; rw [dif_pos g, decide_eq_true c, if_pos rfl]
      omega
    · have : startOf s k = endOf blankB s k := by unfold startOf; rw [dif_pos g, decide_eq_false c, if_neg (by decide)]
      simp only [this]
      exact ⟨hb, c⟩
  · have : startOf s k = endOf blankB s k := by unfold startOf; rw [dif_neg g, if_neg (by decide)]
    omega
theorem skip {s : ByteArray} {out : List (ByteArray × Int)} : ∀ (d k f : Nat), s.size - k ≤ d → k ≤ s.size → s.size - k < f → ∃ g, s.size - startOf s k < g ∧ splitGo s f out k = splitGo s g out (startOf s k) := by
  intro d
  induction d with
  | zero =>
    intro k f hd hk hf
    have e : endOf blankB s k = s.size := endOf_end (by omega)
    have : startOf s k = s.size := by unfold startOf; rw [e, dif_neg (by omega), if_neg (by decide)]
    exact ⟨f, by omega, by rw [this, show k = s.size from by omega]⟩
  | succ d ih =>
    intro k f hd hk hf
    obtain ⟨f, rfl⟩ : ∃ g, f = g + 1 := ⟨f - 1, by omega⟩
    by_cases h : k < s.size
    · cases b : blankB s[k].toNat with
      | true =>
        have nr : ¬ s[k] = 35 := fun c => by rw [c] at b; exact absurd b (by decide)
        obtain ⟨g, g1, g2⟩ := ih (k + 1) f (by omega) (by omega) (by omega)
        have e : startOf s k = startOf s (k + 1) := by unfold startOf; simp only [endOf_on h b]
        refine ⟨g, by rw [e]; exact g1, ?_⟩
        rw [sp_blank h nr b, g2, e]
      | false =>
        have e : endOf blankB s k = k := endOf_here h b
        by_cases c : s[k] = 35
        · have : startOf s k = s.size := by unfold startOf; simp only [e]; rw [dif_pos h, decide_eq_true c, if_pos rfl]
          refine ⟨1, by omega, ?_⟩
          rw [this, sp_remark h c, sp_end (by omega)]
        · have : startOf s k = k := by unfold startOf; simp only [e]; rw [dif_pos h, decide_eq_false c, if_neg (by decide)]
          exact ⟨f + 1, by omega, by rw [this]⟩
    · have e : endOf blankB s k = s.size := endOf_end (by omega)
      have : startOf s k = s.size := by unfold startOf; rw [e, dif_neg (by omega), if_neg (by decide)]
      exact ⟨f + 1, by omega, by rw [this, show k = s.size from by omega]⟩
def RetQ (w : World) (v : Value) (e : Ending) (w' : World) : Prop := e = .returned v ∧ w = w'
theorem nat_eqb {a b : Nat} (h : a = b) : (((a : Int) == (b : Int)) = true) := by subst h; simp
theorem nat_neb {a b : Nat} (h : ¬ a = b) : (((a : Int) == (b : Int)) = false) := by rw [beq_eq_false_iff_ne]; omega
theorem nat_eqn {a b : Nat} (h : a = b) : (((a : Int) != (b : Int)) = false) := by subst h; simp
theorem nat_nen {a b : Nat} (h : ¬ a = b) : (((a : Int) != (b : Int)) = true) := by rw [bne_iff_ne]; omega
theorem startP (s : ByteArray) (hs : s.size ≤ 1000000) (k : Nat) (hk : k ≤ s.size) (w : World) : Calls Tryz.prog 106 #[.string s, .int .i64 k] w (RetQ w (.int .i64 (startOf s k))) := by
  have EW := Lib.hid (end_blank s hs k (by omega))
  obtain ⟨e1, e2⟩ := endOf_le (K := blankB) hk
  have SO := Lib.hid (startOf.eq_1 s k)
  generalize endOf blankB s k = e at *
  by_cases h : e < s.size
  · have SO := SO.out
    rw [dif_pos h] at SO
    obtain ⟨c1, c2⟩ := byte_is h 35 35 rfl
    by_cases c : s[e] = 35
    · have g := c1 c
      rw [decide_eq_true c, if_pos rfl] at SO
      replace SO := Lib.hid SO
      clear c c1 c2
      go_enter Tryz.func106, Tryz.ntmps106
      go_wp2_with (go_at_call 131; refine (EW.out _).mono ?_; rintro e w' ⟨rfl, rfl⟩)
      go_ret
      exact ⟨by rw [SO.out]; rfl, rfl⟩
    · have g := c2 c
      rw [decide_eq_false c, if_neg (by decide)] at SO
      replace SO := Lib.hid SO
      clear c c1 c2
      go_enter Tryz.func106, Tryz.ntmps106
      go_wp2_with (go_at_call 131; refine (EW.out _).mono ?_; rintro e w' ⟨rfl, rfl⟩)
      go_ret
      exact ⟨by rw [SO.out]; rfl, rfl⟩
  · have SO := SO.out
    rw [dif_neg h, if_neg (by decide)] at SO
    replace SO := Lib.hid SO
    go_enter Tryz.func106, Tryz.ntmps106
    go_wp2_with (go_at_call 131; refine (EW.out _).mono ?_; rintro e w' ⟨rfl, rfl⟩)
    go_ret
    exact ⟨by rw [SO.out]; rfl, rfl⟩
theorem partedP (s : ByteArray) (_hs : s.size ≤ 1000000) (k : Nat) (hk : k ≤ s.size) (w : World) : Calls Tryz.prog 135 #[.string s, .int .i64 k] w (RetQ w (.bool (!blocked s k))) := by
  by_cases h : k < s.size
  · have g0 := nat_neb (show ¬ k = s.size by omega)
    obtain ⟨c1, c2⟩ := byte_is h 35 35 rfl
    by_cases c : s[k] = 35
    · have g := c1 c
      rw [show blocked s k = false from by unfold blocked; rw [dif_pos h, decide_eq_false (by simp [c]), Bool.and_false]]
      clear c c1 c2
      go_enter Tryz.func135, Tryz.ntmps135
      go_wp2
      go_ret
      exact ⟨rfl, rfl⟩
    · have g := c2 c
      have BW := Lib.hid (fblank s[k].toNat)
      rw [show (!blocked s k) = blankB s[k].toNat from by unfold blocked; rw [dif_pos h, decide_eq_true c, Bool.and_true, Bool.not_not]]
      clear c c1 c2
      go_enter Tryz.func135, Tryz.ntmps135
      go_wp2_with (go_at_call 132; refine (BW.out _).mono ?_; rintro e w' ⟨rfl, rfl⟩)
      go_ret
      exact ⟨rfl, rfl⟩
  · have e : k = s.size := by omega
    rw [show blocked s k = false from dif_neg h]
    subst e
    go_enter Tryz.func135, Tryz.ntmps135
    go_wp2
    go_ret
    exact ⟨rfl, rfl⟩
theorem quotedP (s : ByteArray) (hs : s.size ≤ 1000000) (k : Nat) (hk : k < s.size) (w : World) : Calls Tryz.prog 133 #[.string s, .int .i64 k] w (RetQ w (.tuple #[.string (quoRes s k).1, .int .i64 (quoRes s k).2.1, .int .i64 (quoRes s k).2.2])) := by
  have EN := Lib.hid (end_noq s hs (k + 1) (by omega))
  have EO := Lib.hid (end_ok s hs (k + 1) (by omega))
  obtain ⟨e1, e2⟩ := endOf_le (K := noQ) (s := s) (k := k + 1) (by omega)
  obtain ⟨f1, f2⟩ := endOf_le (K := okB) (s := s) (k := k + 1) (by omega)
  have Q := quoRes.eq_1 s k
  generalize endOf noQ s (k + 1) = e at *
  generalize endOf okB s (k + 1) = f at *
  by_cases h : e = s.size
  · rw [if_pos h] at Q
    replace Q := Lib.hid Q
    have g := nat_eqb h
    clear h
    go_enter Tryz.func133, Tryz.ntmps133
    go_wp2_with (go_at_call 131; first | (refine (EN.out _).mono ?_; clear EN; rintro e w' ⟨rfl, rfl⟩) | (refine (EO.out _).mono ?_; rintro e w' ⟨rfl, rfl⟩))
    go_ret3
    exact ⟨by rw [Q.out]; rfl, rfl⟩
  · rw [if_neg h] at Q
    have g := nat_neb h
    by_cases i : f = e
    · rw [if_pos i] at Q
      replace Q := Lib.hid Q
      have j := nat_eqn i
      clear h i
      go_enter Tryz.func133, Tryz.ntmps133
      go_wp2_with (go_at_call 131; first | (refine (EN.out _).mono ?_; clear EN; rintro e w' ⟨rfl, rfl⟩) | (refine (EO.out _).mono ?_; rintro e w' ⟨rfl, rfl⟩))
      go_ret3
      exact ⟨by rw [Q.out]; rfl, rfl⟩
    · rw [if_neg i] at Q
      replace Q := Lib.hid Q
      have j := nat_nen i
      clear h i
      go_enter Tryz.func133, Tryz.ntmps133
      go_wp2_with (go_at_call 131; first | (refine (EN.out _).mono ?_; clear EN; rintro e w' ⟨rfl, rfl⟩) | (refine (EO.out _).mono ?_; rintro e w' ⟨rfl, rfl⟩))
      go_ret3
      exact ⟨by rw [Q.out]; rfl, rfl⟩
theorem head_in {s : ByteArray} {k : Nat} (hk : k < s.size) : (headRes s k).2.1 ≤ s.size ∧ -1 ≤ (headRes s k).2.2 := by
  unfold headRes
  split
  · unfold quoRes
    have := endOf_le (K := noQ) (s := s) (k := k + 1) (by omega)
    have := endOf_le (K := okB) (s := s) (k := k + 1) (by omega)
    split
    · exact ⟨Nat.zero_le _, by simp <;> omega⟩
    · split
      · exact ⟨by simp <;> omega, by simp⟩
      · exact ⟨Nat.zero_le _, by simp <;> omega⟩
  · have := endOf_le (K := bareB) (s := s) (k := k) (by omega)
    exact ⟨this.2, by simp⟩
theorem fieldP (s : ByteArray) (hs : s.size ≤ 1000000) (k : Nat) (hk : k < s.size) (w : World) : Calls Tryz.prog 107 #[.string s, .int .i64 k] w (RetQ w (.tuple #[.string (fieldRes s k).1, .int .i64 (fieldRes s k).2.1, .int .i64 (fieldRes s k).2.2])) := by
  obtain ⟨b1, b2⟩ := head_in hk
  have PW := Lib.hid (partedP s hs (headRes s k).2.1 b1)
  have F := fieldRes.eq_1 s k
  obtain ⟨c1, c2⟩ := byte_is hk 34 34 rfl
  by_cases q : s[k] = 34
  · have QW := Lib.hid (quotedP s hs k hk)
    have hH : headRes s k = quoRes s k := if_pos ⟨hk, q⟩
    rw [hH] at b1 b2 PW F
    have g := c1 q
    clear c1 c2 q hH
    generalize quoRes s k = r at *
    obtain ⟨t, b, x⟩ := r
    simp only at b1 b2 PW F QW
    by_cases h : x = -1
    · subst h
      cases bl : blocked s b with
      | true =>
        rw [if_pos ⟨rfl, bl⟩] at F
        rw [bl] at PW
        replace F := Lib.hid F
        clear bl
        go_enter Tryz.func107, Tryz.ntmps107
        go_wp2_with first
          | (go_at_call 133; refine (QW.out _).mono ?_; rintro e w' ⟨rfl, rfl⟩)
          | (go_at_call 135; refine (PW.out _).mono ?_; rintro e w' ⟨rfl, rfl⟩)
        go_ret3
        exact ⟨by rw [F.out]; rfl, rfl⟩
      | false =>
        rw [if_neg (by rw [bl]; simp)] at F
        rw [bl] at PW
        replace F := Lib.hid F
        clear bl
        go_enter Tryz.func107, Tryz.ntmps107
        go_wp2_with first
          | (go_at_call 133; refine (QW.out _).mono ?_; rintro e w' ⟨rfl, rfl⟩)
          | (go_at_call 135; refine (PW.out _).mono ?_; rintro e w' ⟨rfl, rfl⟩)
        go_ret3
        exact ⟨by rw [F.out]; rfl, rfl⟩
    · rw [if_neg (fun c => h c.1)] at F
      replace F := Lib.hid F
      have g1 : (x == -1) = false := by rw [beq_eq_false_iff_ne]; exact h
      clear h
      go_enter Tryz.func107, Tryz.ntmps107
      go_wp2_with first
        | (go_at_call 133; refine (QW.out _).mono ?_; rintro e w' ⟨rfl, rfl⟩)
        | (go_at_call 135; refine (PW.out _).mono ?_; rintro e w' ⟨rfl, rfl⟩)
      go_ret3
      exact ⟨by rw [F.out]; rfl, rfl⟩
  · have EB := Lib.hid (end_bare s hs k (by omega))
    have hH : headRes s k = (s.extract k (endOf bareB s k), endOf bareB s k, -1) := if_neg fun ⟨_, c⟩ => q c
    obtain ⟨e1, e2⟩ := endOf_le (K := bareB) (s := s) (k := k) (by omega)
    rw [hH] at b1 b2 PW F
    have g := c2 q
    clear c1 c2 q hH
    generalize endOf bareB s k = b at *
    simp only at b1 b2 PW F
    cases bl : blocked s b with
    | true =>
      rw [if_pos ⟨trivial, bl⟩] at F
      rw [bl] at PW
      replace F := Lib.hid F
      clear bl
      go_enter Tryz.func107, Tryz.ntmps107
      go_wp2_with first
        | (go_at_call 131; refine (EB.out _).mono ?_; rintro e w' ⟨rfl, rfl⟩)
        | (go_at_call 135; refine (PW.out _).mono ?_; rintro e w' ⟨rfl, rfl⟩)
      go_ret3
      exact ⟨by rw [F.out]; rfl, rfl⟩
    | false =>
      rw [if_neg (by rw [bl]; simp)] at F
      rw [bl] at PW
      replace F := Lib.hid F
      clear bl
      go_enter Tryz.func107, Tryz.ntmps107
      go_wp2_with first
        | (go_at_call 131; refine (EB.out _).mono ?_; rintro e w' ⟨rfl, rfl⟩)
        | (go_at_call 135; refine (PW.out _).mono ?_; rintro e w' ⟨rfl, rfl⟩)
      go_ret3
      exact ⟨by rw [F.out]; rfl, rfl⟩
theorem all_ok (s : ByteArray) (hs : s.size ≤ 1000000) (w : World) : Calls Tryz.prog 116 #[.string s, .func (.func 117) #[] #[]] w (RetQ w (.bool ((endOf okB s 0 : Int) == (s.size : Int)))) := by
  have EW := Lib.hid (end_ok s hs 0 (by omega))
  generalize endOf okB s 0 = e at *
  go_enter Tryz.func116, Tryz.ntmps116
  go_wp2_with (go_at_call 131; refine (EW.out _).mono ?_; rintro e w' ⟨rfl, rfl⟩)
  go_ret
  exact ⟨rfl, rfl⟩
theorem all_bare (s : ByteArray) (hs : s.size ≤ 1000000) (w : World) : Calls Tryz.prog 116 #[.string s, .func (.func 134) #[] #[]] w (RetQ w (.bool ((endOf bareB s 0 : Int) == (s.size : Int)))) := by
  have EW := Lib.hid (end_bare s hs 0 (by omega))
  generalize endOf bareB s 0 = e at *
  go_enter Tryz.func116, Tryz.ntmps116
  go_wp2_with (go_at_call 131; refine (EW.out _).mono ?_; rintro e w' ⟨rfl, rfl⟩)
  go_ret
  exact ⟨rfl, rfl⟩
def writtenT (t : ByteArray) : ByteArray := if plainT t = true then t else (⟨#[34]⟩ ++ t) ++ ⟨#[34]⟩
theorem end_zero {K : Int → Bool} {s : ByteArray} : endOf K s 0 = s.size ↔ ∀ (j : Nat) (h : j < s.size), K s[j].toNat = true := by
  constructor
  · intro e j h
    exact endOf_all s.size 0 (by omega) j h (Nat.zero_le _) (by omega)
  · intro h
    exact endOf_eq (Nat.zero_le _) (Nat.le_refl _) (fun j g _ _ => h j g) (fun g => absurd g (by omega))
theorem bare_all {t : ByteArray} : ∀ k, k ≤ t.size → (barePre t k = true ↔ 0 < t.size ∧ ∀ (j : Nat) (h : j < t.size), j < k → bareB t[j].toNat = true) := by
  intro k
  induction k with
  | zero => intro _; show decide (0 < t.size) = true ↔ _; rw [decide_eq_true_iff]; exact ⟨fun h => ⟨h, fun _ _ c => absurd c (by omega)⟩, fun h => h.1⟩
  | succ k ih =>
    intro hk
    rw [bare_succ (by omega), Bool.and_eq_true, ih (by omega)]
    constructor
    · rintro ⟨⟨a, b⟩, c⟩
      refine ⟨a, fun j h g => ?_⟩
      by_cases e : j = k
      · subst e; exact c
      · exact b j h (by omega)
    · rintro ⟨a, b⟩
      exact ⟨⟨a, fun j h g => b j h (by omega)⟩, b k (by omega) (by omega)⟩
theorem plain_iff {t : ByteArray} : plainT t = true ↔ 0 < t.size ∧ endOf bareB t 0 = t.size := by
  unfold plainT
  rw [bare_all t.size (Nat.le_refl _), end_zero]
  exact ⟨fun h => ⟨h.1, fun j g => h.2 j g g⟩, fun h => ⟨h.1, fun j g _ => h.2 j g⟩⟩
theorem ok_iff {t : ByteArray} : okText t ↔ endOf okB t 0 = t.size := by
  rw [end_zero]
  exact ⟨fun h j g => h j g g, fun h j g _ => h j g⟩
theorem empty_is {t : ByteArray} (h : t.size = 0) : t = ⟨#[]⟩ := by
  apply ByteArray.ext
  exact Array.eq_empty_of_size_eq_zero h
theorem ne_toList {t : ByteArray} (h : ¬ t.size = 0) : ¬ t.toList = [] := by
  intro c
  apply h
  have : t.data.toList = [] := by rw [← c]; exact (ByteArray.toList_eq t).symm
  rw [show t.size = t.data.size from rfl, ← Array.length_toList, this]
  rfl
theorem writtenP (t : ByteArray) (hs : t.size ≤ 1000000) (w : World) : Calls Tryz.prog 118 #[.string t] w (RetQ w (.string (writtenT t))) := by
  by_cases h0 : t.size = 0
  · obtain rfl := empty_is h0
    clear h0
    go_enter Tryz.func118, Tryz.ntmps118
    go_wp2
    go_ret
    exact ⟨by rw [show writtenT ⟨#[]⟩ = ⟨#[34, 34]⟩ from by kernel_rfl]; rfl, rfl⟩
  · have ne2 : ¬ t.toList = [] := ne_toList h0
    have ne : t.toList.isEmpty = false := List.isEmpty_eq_false_iff.2 ne2
    have AW := Lib.hid (all_bare t hs)
    have W := writtenT.eq_1 t
    cases p : plainT t with
    | true =>
      rw [if_pos p] at W
      replace W := Lib.hid W
      rw [nat_eqb (plain_iff.1 p).2] at AW
      clear p
      go_enter Tryz.func118, Tryz.ntmps118
      go_wp2_with (go_at_call 116; refine (AW.out _).mono ?_; rintro e w' ⟨rfl, rfl⟩)
      go_ret
      exact ⟨by rw [W.out]; rfl, rfl⟩
    | false =>
      rw [if_neg (by rw [p]; decide)] at W
      replace W := Lib.hid W
      rw [nat_neb (fun c => by rw [plain_iff.2 ⟨by omega, c⟩] at p; cases p)] at AW
      clear p
      go_enter Tryz.func118, Tryz.ntmps118
      go_wp2_with (go_at_call 116; refine (AW.out _).mono ?_; rintro e w' ⟨rfl, rfl⟩)
      go_ret
      exact ⟨by rw [W.out]; rfl, rfl⟩
end Go.Proofs.YtnkmlfbnfndfpaaGreatDoor
namespace Go.Proofs.YtnkmlfbnfndfpaaGreatDoor
open Go.Shelf Go.RowKit
def lays170_ren : Go.Shelf.Ren := ⟨fun | 170 => 119 | n => n, fun | 70 => 85 | 3 => 3 | 0 => 0 | 72 => 88 | 37 => 86 | 5 => 5 | n => n, fun | n => n⟩
theorem lays170 : Go.Proofs.Lays.n170 Tryz.prog lays170_ren := {
  mixed := by kernel_rfl
  f170 := Tryz.func119.trans (congrArg some (by kernel_rfl))
  t0 := Tryz.underlying0
  a0 := Tryz.isAgg0
  z0 := Tryz.sizeOf0
  v0 := Tryz.zeroValue0
  t3 := Tryz.underlying3
  a3 := Tryz.isAgg3
  z3 := Tryz.sizeOf3
  v3 := Tryz.zeroValue3
  t37 := Tryz.underlying86
  a37 := Tryz.isAgg86
  z37 := Tryz.sizeOf86
  v37 := Tryz.zeroValue86
  t70 := Tryz.underlying85
  a70 := Tryz.isAgg85
  z70 := Tryz.sizeOf85
  v70 := Tryz.zeroValue85
  t72 := Tryz.underlying88
  a72 := Tryz.isAgg88
  z72 := Tryz.sizeOf88
  v72 := Tryz.zeroValue88 }
def lays169_ren : Go.Shelf.Ren := ⟨fun | 169 => 55 | n => n, fun | 70 => 85 | 9 => 9 | 0 => 0 | 72 => 88 | 37 => 86 | 127 => 124 | 3 => 3 | 5 => 5 | n => n, fun | n => n⟩
theorem lays169 : Go.Proofs.Lays.n169 Tryz.prog lays169_ren := {
  mixed := by kernel_rfl
  f169 := Tryz.func55.trans (congrArg some (by kernel_rfl))
  t0 := Tryz.underlying0
  a0 := Tryz.isAgg0
  z0 := Tryz.sizeOf0
  v0 := Tryz.zeroValue0
  t3 := Tryz.underlying3
  a3 := Tryz.isAgg3
  z3 := Tryz.sizeOf3
  v3 := Tryz.zeroValue3
  t9 := Tryz.underlying9
  a9 := Tryz.isAgg9
  z9 := Tryz.sizeOf9
  v9 := Tryz.zeroValue9
  t37 := Tryz.underlying86
  a37 := Tryz.isAgg86
  z37 := Tryz.sizeOf86
  v37 := Tryz.zeroValue86
  t70 := Tryz.underlying85
  a70 := Tryz.isAgg85
  z70 := Tryz.sizeOf85
  v70 := Tryz.zeroValue85
  t72 := Tryz.underlying88
  a72 := Tryz.isAgg88
  z72 := Tryz.sizeOf88
  v72 := Tryz.zeroValue88
  t127 := Tryz.underlying124
  a127 := Tryz.isAgg124
  z127 := Tryz.sizeOf124
  v127 := Tryz.zeroValue124 }
theorem Builder_Extra_169 : Builder.Extra Tryz.prog lays169_ren := {
  sizeBuilder := by kernel_rfl
  liesBuilder := by kernel_rfl
  t5 := Tryz.underlying5
  a5 := Tryz.isAgg5
  z5 := Tryz.sizeOf5
  v5 := Tryz.zeroValue5
  infoByte := by kernel_rfl
  cellsByte := by kernel_rfl
  sizeByte := by kernel_rfl
  neB5 := by decide }
theorem Builder_Len_f (B b : Nat) (bs : List Value) (w : World) (h : Lib.IsBuilderF 88 5 B b bs w) :
    Calls Tryz.prog 119 #[.pointer (some ⟨b, 0, none⟩)] w fun e w' => e = .returned (.int .i64 bs.length) ∧ w' = w := Any.Builder_Len_f lays170 B b bs w h
theorem Builder_String_any_k (B b : Nat) (l : List UInt8) (w : World) (h : Lib.IsBuilderF 88 5 B b (Lib.byteCells l) w) (hBw : B ≤ w.heap.size) :
    Calls Tryz.prog 55 #[.pointer (some ⟨b, 0, none⟩)] w fun e w' => e = .returned (.string ⟨l.toArray⟩) ∧ (Lib.IsBuilderF 88 5 B b (Lib.byteCells l) w' ∧ Below B w w' ∧ Lib.OthersKept 5 (some b) w w') := Any.Builder_String_any_k lays169 Builder_Extra_169 B b l w h hBw
def laysM316_ren : Go.Shelf.Ren := ⟨fun | 316 => 105 | n => n, fun | 9 => 9 | 3 => 3 | 4 => 4 | 37 => 86 | 0 => 0 | 127 => 124 | 5 => 5 | n => n, fun | n => n⟩
theorem laysM316 : Go.Proofs.LaysM.n316 Tryz.prog laysM316_ren := {
  mixed := by kernel_rfl
  f316 := Tryz.func105.trans (congrArg some (by kernel_rfl))
  t0 := Tryz.underlying0
  a0 := Tryz.isAgg0
  z0 := Tryz.sizeOf0
  v0 := Tryz.zeroValue0
  t3 := Tryz.underlying3
  a3 := Tryz.isAgg3
  z3 := Tryz.sizeOf3
  v3 := Tryz.zeroValue3
  t4 := Tryz.underlying4
  a4 := Tryz.isAgg4
  z4 := Tryz.sizeOf4
  v4 := Tryz.zeroValue4
  t9 := Tryz.underlying9
  a9 := Tryz.isAgg9
  z9 := Tryz.sizeOf9
  v9 := Tryz.zeroValue9
  t37 := Tryz.underlying86
  a37 := Tryz.isAgg86
  z37 := Tryz.sizeOf86
  v37 := Tryz.zeroValue86
  t127 := Tryz.underlying124
  a127 := Tryz.isAgg124
  z127 := Tryz.sizeOf124
  v127 := Tryz.zeroValue124
  t5 := Tryz.underlying5
  a5 := Tryz.isAgg5
  z5 := Tryz.sizeOf5
  v5 := Tryz.zeroValue5
  i0 := by kernel_rfl
  i3 := by kernel_rfl
  i4 := by kernel_rfl
  i5 := by kernel_rfl
  i9 := by kernel_rfl
  i37 := by kernel_rfl
  i127 := by kernel_rfl }
theorem stringslite_Clone (s : ByteArray) (w : World) (hlim : s.size ≤ 281474976710656) :
    Calls Tryz.prog 105 #[.string s] w fun e w' => e = .returned (.string s) ∧ Below w.heap.size w w' := Any.stringslite_Clone laysM316 s w hlim
def lays219_ren : Go.Shelf.Ren := ⟨fun | 219 => 129 | 217 => 99 | 225 => 158 | 224 => 159 | 267 => 160 | 266 => 127 | 314 => 177 | n => n, fun | 9 => 9 | 3 => 3 | 4 => 4 | 5 => 5 | 46 => 169 | 146 => 189 | 51 => 188 | n => n, fun | 1 => 2 | n => n⟩
theorem lays219 : Go.Proofs.Lays.n219 Tryz.prog lays219_ren := {
  mixed := by kernel_rfl
  f217 := Tryz.func99.trans (congrArg some (by kernel_rfl))
  f219 := Tryz.func129.trans (congrArg some (by kernel_rfl))
  f224 := Tryz.func159.trans (congrArg some (by kernel_rfl))
  f225 := Tryz.func158.trans (congrArg some (by kernel_rfl))
  f266 := Tryz.func127.trans (congrArg some (by kernel_rfl))
  f267 := Tryz.func160.trans (congrArg some (by kernel_rfl))
  f314 := Tryz.func177.trans (congrArg some (by kernel_rfl))
  t3 := Tryz.underlying3
  a3 := Tryz.isAgg3
  z3 := Tryz.sizeOf3
  v3 := Tryz.zeroValue3
  t4 := Tryz.underlying4
  a4 := Tryz.isAgg4
  z4 := Tryz.sizeOf4
  v4 := Tryz.zeroValue4
  t5 := Tryz.underlying5
  a5 := Tryz.isAgg5
  z5 := Tryz.sizeOf5
  v5 := Tryz.zeroValue5
  t9 := Tryz.underlying9
  a9 := Tryz.isAgg9
  z9 := Tryz.sizeOf9
  v9 := Tryz.zeroValue9
  t46 := Tryz.underlying169
  a46 := Tryz.isAgg169
  z46 := Tryz.sizeOf169
  v46 := Tryz.zeroValue169
  t51 := Tryz.underlying188
  a51 := Tryz.isAgg188
  z51 := Tryz.sizeOf188
  v51 := Tryz.zeroValue188
  t146 := Tryz.underlying189
  a146 := Tryz.isAgg189
  z146 := Tryz.sizeOf189
  v146 := Tryz.zeroValue189
  g1 := by kernel_rfl }
theorem stringslite_Index_one (s : ByteArray) (c : UInt8) (w : World) :
    Calls Tryz.prog 129 #[.string s, .string ⟨#[c]⟩] w fun e w' => e = .returned (.int .i64 (Lib.indexByte s.data.toList c)) ∧ w' = w := Any.stringslite_Index_one lays219 s c w
end Go.Proofs.YtnkmlfbnfndfpaaGreatDoor
namespace Go.Proofs.YtnkmlfbnfndfpaaGreatDoor
open Go.RowKit
theorem bld_size : (Tryz.prog.info? 88).map (·.size) = some 2 := by kernel_rfl
theorem bld_lies : liesAt Tryz.prog Tryz.prog.depth 88 (2 / Tryz.prog.cellsOf 88) 0 88 1 = true := by kernel_rfl
theorem u8_info : (Tryz.prog.info? 5).map (fun i => (i.zero, i.size, i.bytes)) = some (some (.int .u8 0), 1, 1) := by kernel_rfl
abbrev BldAt (b : Nat) (p : Value) (bs : List Value) (w : World) : Prop := Lib.BuilderAtF 88 5 b b p bs w
def Bld (b : Nat) (t : ByteArray) (w : World) : Prop := Lib.IsBuilderF 88 5 b b (Lib.byteCells t.data.toList) w
theorem check_used (b : Nat) (w : World) (h0 : w.cell? ⟨b, 0, none⟩ = some (.pointer (some ⟨b, 0, none⟩))) :
    Calls Tryz.prog 120 #[.pointer (some ⟨b, 0, none⟩)] w fun e w' => e = .returned (.tuple #[]) ∧ w' = w := by
  obtain ⟨j, hj, _⟩ := Option.map_eq_some_iff.1 bld_size
  go_enter Tryz.func120, Tryz.ntmps120
  go_wp2
  rw [Lib.run_neq_ptr_same w _ Tryz.underlying85 hj]
  go_wp2
  go_end0
  exact ⟨rfl, rfl⟩
theorem check_fresh (b : Nat) (w : World) (h0 : w.cell? ⟨b, 0, none⟩ = some (.pointer none)) (hsh : w.shape? b = some (88, 2)) (hfz : w.frozen? ⟨b, 0, none⟩ = false) :
    Calls Tryz.prog 120 #[.pointer (some ⟨b, 0, none⟩)] w fun e w' => e = .returned (.tuple #[]) ∧ w' = w.setCell ⟨b, 0, none⟩ (.pointer (some ⟨b, 0, none⟩)) := by
  obtain ⟨j, hj, hjs⟩ := Option.map_eq_some_iff.1 bld_size
  go_enter Tryz.func120, Tryz.ntmps120
  go_wp2
  rw [Lib.run_to_unsafe w ⟨b, 0, none⟩ Tryz.underlying85 Tryz.underlying163 hj (by rw [hjs]; decide) hsh (Nat.zero_lt_succ 1)]
  simp only [Result.andThen]
  rw [Oper.upon_value]
  go_wp2
  rw [run_callFunc_extern Tryz.func152 (by kernel_rfl) (by kernel_rfl) (by kernel_rfl) (e := Extern.AbiNoEscape.same) (by kernel_rfl)]
  rw [Lib.run_noEscape]
  simp only [Result.andThen]
  rw [Oper.upon_value]
  go_wp2
  rw [Lib.run_from_unsafe w ⟨b, 0, none⟩ Tryz.underlying163 Tryz.underlying85 hj hsh bld_lies]
  simp only [Result.andThen]
  rw [Oper.upon_value]
  go_wp2
  go_end0
  exact ⟨rfl, rfl⟩
theorem checkB (b : Nat) (bs : List Value) (w : World) (h : Lib.IsBuilderF 88 5 b b bs w) :
    Calls Tryz.prog 120 #[.pointer (some ⟨b, 0, none⟩)] w fun e w' => e = .returned (.tuple #[]) ∧ BldAt b (.pointer (some ⟨b, 0, none⟩)) bs w' ∧ Below b w w' := by
  rcases h with h | h
  · refine (check_fresh b w h.cell0 h.shape h.frozen0).mono ?_
    rintro e w' ⟨rfl, rfl⟩
    exact ⟨rfl, h.used _, (Below.refl b w).setCell (p := ⟨b, 0, none⟩) (Nat.le_refl _) _⟩
  · refine (check_used b w h.cell0).mono ?_
    rintro e w' ⟨rfl, rfl⟩
    exact ⟨rfl, h, Below.refl b _⟩
theorem writeB (b : Nat) (bs : List Value) (c : Int) (w : World) (h : Lib.IsBuilderF 88 5 b b bs w) (hlen : bs.length + 1 ≤ 100000000) (hb : b ≤ w.heap.size) :
    Calls Tryz.prog 84 #[.pointer (some ⟨b, 0, none⟩), .int .u8 c] w fun e w' => e = .returned .nilIface ∧ BldAt b (.pointer (some ⟨b, 0, none⟩)) (bs ++ [.int .u8 c]) w' ∧ Below b w w' := by
  obtain ⟨i0, hi, hz0, hz1, hz2⟩ := info_partsS u8_info
  have CK := Lib.hid (checkB b bs w h)
  clear h
  go_enter Tryz.func84, Tryz.ntmps84
  go_wp2_with (go_at_call 120; refine CK.out.mono ?_)
  clear CK
  rintro e w1 ⟨rfl, h1, b1⟩
  obtain ⟨_, v, hbk, hown, hne⟩ := h1
  have c0 : w1.cell? ⟨b, 0, none⟩ = some (.pointer (some ⟨b, 0, none⟩)) := by rw [Lib.cell_of_heap hbk]; rfl
  have c1 : w1.cell? ⟨b, 1, none⟩ = some v := by rw [Lib.cell_of_heap hbk]; rfl
  have s1 := b1.size
  go_wp2_with (at_builtin; refine wpList_append_ownF _ rfl _ _ 86 rfl b 5 i0 (.int .u8 0) 1 1 Tryz.underlying86 hi hz0 hz1 hz2 rfl (by decide) v bs.length bs rfl (hown.alloc _) ⟨w1.heap.size, 0, none⟩ 1 1 [.int .u8 c] rfl rfl (cell_one_new _ _ _) ?c2 ?c3 ?c4 ?c5 ?_)
  case c2 => intro u hu; rw [List.mem_singleton.1 hu]; rfl
  case c3 => unfold maxLen; omega
  case c4 => omega
  case c5 => simp; omega
  intro v' w2 hown' hgrow _
  have hlt : b < w1.heap.size := by
    rcases Nat.lt_or_ge b w1.heap.size with h' | h'
    · exact h'
    · simp [Array.getElem?_eq_none h'] at hbk
  have hb2 : w2.heap[b]? = some (.cells #[.pointer (some ⟨b, 0, none⟩), v] 88 (0, 0)) := by
    rw [hgrow.block b (by simp; omega) (fun e => hne e.symm), Lib.alloc_old w1 _ b hlt]
    exact hbk
  have d0 : w2.cell? ⟨b, 0, none⟩ = some (.pointer (some ⟨b, 0, none⟩)) := by rw [Lib.cell_of_heap hb2]; rfl
  have d1 : w2.cell? ⟨b, 1, none⟩ = some v := by rw [Lib.cell_of_heap hb2]; rfl
  have f1 : w2.frozen? ⟨b, 1, none⟩ = false := Lib.frozen_of_heap hb2 1
  obtain ⟨g, cap, rfl⟩ : ∃ g cap, v' = .slice (some ⟨g, 0, none⟩) (bs.length + 1) cap := by
    rcases hown'.2 with ⟨_, h0⟩ | ⟨g, cap, cur, fz, hv, _⟩
    · omega
    · exact ⟨g, cap, hv⟩
  go_wp2
  go_ret
  refine ⟨rfl, ?_, ?_⟩
  · exact Lib.BuilderAtF.put (Nat.le_refl _) hb2 (bs' := bs ++ [.int .u8 c]) (by simpa using hown') (by decide)
  · exact ((b1.alloc (by omega) _).grown hgrow (by simp; omega) (fun k hk => (hown.lt k hk).1)).setCell (p := ⟨b, 1, none⟩) (Nat.le_refl _) _
theorem writeS (b : Nat) (bs : List Value) (s : ByteArray) (w : World) (h : Lib.IsBuilderF 88 5 b b bs w) (hlen : bs.length + s.size ≤ 100000000) (hb : b ≤ w.heap.size) :
    Calls Tryz.prog 83 #[.pointer (some ⟨b, 0, none⟩), .string s] w fun e w' => e = .returned (.tuple #[.int .i64 s.size, .nilIface]) ∧ BldAt b (.pointer (some ⟨b, 0, none⟩)) (bs ++ Lib.strCells s) w' ∧ Below b w w' := by
  obtain ⟨i0, hi, hz0, hz1, hz2⟩ := info_partsS u8_info
  have CK := Lib.hid (checkB b bs w h)
  clear h
  go_enter Tryz.func83, Tryz.ntmps83
  go_wp2_with (go_at_call 120; refine CK.out.mono ?_)
  clear CK
  rintro e w1 ⟨rfl, h1, b1⟩
  obtain ⟨_, v, hbk, hown, hne⟩ := h1
  have c0 : w1.cell? ⟨b, 0, none⟩ = some (.pointer (some ⟨b, 0, none⟩)) := by rw [Lib.cell_of_heap hbk]; rfl
  have c1 : w1.cell? ⟨b, 1, none⟩ = some v := by rw [Lib.cell_of_heap hbk]; rfl
  have s1 := b1.size
  go_wp2_with (at_builtin; refine Lib.wpList_append_own_stringF _ rfl _ _ 86 9 rfl b 5 i0 Tryz.underlying86 Tryz.underlying9 hi hz0 hz1 hz2 v bs.length bs rfl hown s rfl ?c3 ?c4 ?c5 ?_)
  case c3 => unfold maxLen; omega
  case c4 => omega
  case c5 => omega
  intro v' w2 hown' hgrow _
  have hlt : b < w1.heap.size := by
    rcases Nat.lt_or_ge b w1.heap.size with h' | h'
    · exact h'
    · simp [Array.getElem?_eq_none h'] at hbk
  have hb2 : w2.heap[b]? = some (.cells #[.pointer (some ⟨b, 0, none⟩), v] 88 (0, 0)) := by
    rw [hgrow.block b hlt (fun e => hne e.symm)]
    exact hbk
  have d0 : w2.cell? ⟨b, 0, none⟩ = some (.pointer (some ⟨b, 0, none⟩)) := by rw [Lib.cell_of_heap hb2]; rfl
  have d1 : w2.cell? ⟨b, 1, none⟩ = some v := by rw [Lib.cell_of_heap hb2]; rfl
  have f1 : w2.frozen? ⟨b, 1, none⟩ = false := Lib.frozen_of_heap hb2 1
  obtain ⟨ao, n', cap, rfl⟩ : ∃ ao n' cap, v' = .slice ao n' cap := by
    rcases hown'.2 with ⟨hv, _⟩ | ⟨g, cap, cur, fz, hv, _⟩
    · exact ⟨_, _, _, hv⟩
    · exact ⟨_, _, _, hv⟩
  go_wp2
  go_ret2
  refine ⟨rfl, ?_, ?_⟩
  · exact Lib.BuilderAtF.put (Nat.le_refl _) hb2 (bs' := bs ++ Lib.strCells s) (by simpa [Lib.strCells_length] using hown') (by decide)
  · exact (b1.grown hgrow (by omega) (fun k hk => (hown.lt k hk).1)).setCell (p := ⟨b, 1, none⟩) (Nat.le_refl _) _
theorem Bld.new (w : World) : Bld w.heap.size ⟨#[]⟩ (w.alloc (.cells #[.pointer none, .slice none 0 0] 88)) := Lib.IsBuilderF.of (Lib.fresh_isBuilder 88 5 w)
theorem cells_len (t : ByteArray) : (Lib.byteCells t.data.toList).length = t.size := by rw [Lib.byteCells_length, ← Lib.size_eq]
theorem cells_app (a b : ByteArray) : Lib.byteCells (a ++ b).data.toList = Lib.byteCells a.data.toList ++ Lib.byteCells b.data.toList := by
  rw [show (a ++ b).data.toList = a.data.toList ++ b.data.toList from by simp, Lib.byteCells_append]
theorem bldByte (b : Nat) (t : ByteArray) (c : UInt8) (w : World) (h : Bld b t w) (hlen : t.size + 1 ≤ 100000000) (hb : b ≤ w.heap.size) :
    Calls Tryz.prog 84 #[.pointer (some ⟨b, 0, none⟩), .int .u8 c.toNat] w fun e w' => e = .returned .nilIface ∧ Bld b (t ++ ⟨#[c]⟩) w' ∧ Below b w w' := by
  refine (writeB b _ c.toNat w h (by rw [cells_len]; exact hlen) hb).mono ?_
  rintro e w' ⟨rfl, h1, h2⟩
  refine ⟨rfl, .inr ?_, h2⟩
  rw [cells_app]
  exact h1
theorem bldText (b : Nat) (t s : ByteArray) (w : World) (h : Bld b t w) (hlen : t.size + s.size ≤ 100000000) (hb : b ≤ w.heap.size) :
    Calls Tryz.prog 83 #[.pointer (some ⟨b, 0, none⟩), .string s] w fun e w' => e = .returned (.tuple #[.int .i64 s.size, .nilIface]) ∧ Bld b (t ++ s) w' ∧ Below b w w' := by
  refine (writeS b _ s w h (by rw [cells_len]; exact hlen) hb).mono ?_
  rintro e w' ⟨rfl, h1, h2⟩
  refine ⟨rfl, .inr ?_, h2⟩
  rw [cells_app]
  exact h1
theorem bldLen (b : Nat) (t : ByteArray) (w : World) (h : Bld b t w) :
    Calls Tryz.prog 119 #[.pointer (some ⟨b, 0, none⟩)] w fun e w' => e = .returned (.int .i64 t.size) ∧ w = w' := by
  refine (Builder_Len_f b b _ w h).mono ?_
  rintro e w' ⟨rfl, rfl⟩
  exact ⟨by rw [cells_len], rfl⟩
theorem bldDone (b : Nat) (t : ByteArray) (w : World) (h : Bld b t w) (hb : b ≤ w.heap.size) :
    Calls Tryz.prog 55 #[.pointer (some ⟨b, 0, none⟩)] w fun e w' => e = .returned (.string t) ∧ Below b w w' := by
  refine (Builder_String_any_k b b _ w h hb).mono ?_
  rintro e w' ⟨rfl, _, h2, _⟩
  exact ⟨rfl, h2⟩
theorem cloneP (s : ByteArray) (hs : s.size ≤ 100000000) (w : World) : Calls Tryz.prog 74 #[.string s] w fun e w' => e = .returned (.string s) ∧ Below w.heap.size w w' := by
  have CW := Lib.hid (fun w => stringslite_Clone s w (by omega))
  go_enter Tryz.func74, Tryz.ntmps74
  go_wp2_with (go_at_call 105; refine (CW.out _).mono ?_; rintro e w' ⟨rfl, h⟩)
  go_ret
  exact ⟨rfl, h⟩
def noN (c : Int) : Bool := c != 10
theorem get_list (r : ByteArray) (k : Nat) : r.data.toList[k]? = if h : k < r.size then some r[k] else none := by
  split
  · rename_i h
    rw [Array.getElem?_toList, Array.getElem?_eq_some_iff.2 ⟨h, rfl⟩]
    rfl
  · rename_i h
    rw [Array.getElem?_toList]
    exact Array.getElem?_eq_none (Nat.le_of_not_lt h)
theorem noN_of {r : ByteArray} {k : Nat} (h : k < r.size) (n : ¬ r[k] = 10) : noN r[k].toNat = true := by
  unfold noN
  rw [bne_iff_ne]
  intro c
  exact n (by rw [← UInt8.toNat_inj]; show r[k].toNat = 10; omega)
theorem idx_nl (r : ByteArray) : (endOf noN r 0 < r.size → Lib.indexByte r.data.toList 10 = (endOf noN r 0 : Int)) ∧ (¬ endOf noN r 0 < r.size → Lib.indexByte r.data.toList 10 = -1) := by
  have ge := Lib.indexByte_ge r.data.toList 10
  by_cases h : Lib.indexByte r.data.toList 10 = -1
  · have all := Lib.indexByte_none h
    have e : endOf noN r 0 = r.size := endOf_eq (Nat.zero_le _) (Nat.le_refl _) (fun j g _ _ => noN_of g (fun c => all j (by rw [get_list, dif_pos g, c]))) (fun g => absurd g (by omega))
    exact ⟨fun c => by omega, fun _ => h⟩
  · obtain ⟨o, ho⟩ : ∃ o : Nat, Lib.indexByte r.data.toList 10 = (o : Int) := ⟨(Lib.indexByte r.data.toList 10).toNat, by omega⟩
    obtain ⟨h1, h2⟩ := Lib.indexByte_some ho
    have lt : o < r.size := by
      rw [get_list] at h1
      split at h1
      · assumption
      · cases h1
    have at_ : r[o] = 10 := by
      rw [get_list, dif_pos lt] at h1
      exact Option.some.inj h1
    have e : endOf noN r 0 = o := endOf_eq (Nat.zero_le _) (by omega) (fun j g _ hj => noN_of g (fun c => h2 j hj (by rw [get_list, dif_pos g, c]))) (fun _ => by simp only [at_]; rfl)
    exact ⟨fun _ => by rw [ho, e], fun c => absurd lt (by omega)⟩
def cutA (r : ByteArray) : ByteArray := if endOf noN r 0 < r.size then r.extract 0 (endOf noN r 0) else r
def cutB (r : ByteArray) : ByteArray := if endOf noN r 0 < r.size then r.extract (endOf noN r 0 + 1) r.size else ⟨#[]⟩
def cutF (r : ByteArray) : Bool := decide (endOf noN r 0 < r.size)
def RetCut (w : World) (r : ByteArray) (e : Ending) (w' : World) : Prop := e = .returned (.tuple #[.string (cutA r), .string (cutB r), .bool (cutF r)]) ∧ ∃ n, w' = w.drewN n
theorem cutLite (r : ByteArray) (hr : r.size ≤ 1000000) (w : World) : Calls Tryz.prog 130 #[.string r, .string ⟨#[10]⟩] w (RetCut w r) := by
  obtain ⟨i1, i2⟩ := idx_nl r
  have IW := Lib.hid (stringslite_Index_one r 10)
  by_cases h : endOf noN r 0 < r.size
  · rw [i1 h] at IW
    have A := Lib.hid (show cutA r = r.extract 0 (endOf noN r 0) from if_pos h)
    have B := Lib.hid (show cutB r = r.extract (endOf noN r 0 + 1) r.size from if_pos h)
    have F := Lib.hid (show cutF r = true from decide_eq_true h)
    clear i1 i2
    generalize endOf noN r 0 = k at *
    have c2 : k ≤ r.size := by omega
    have c3 : wrap64 ((k : Int) + 1) = ((k + 1 : Nat) : Int) := by unfold wrap64; omega
    have c4 : k + 1 ≤ r.size := by omega
    go_enter Tryz.func130, Tryz.ntmps130
    go_wp2_with (go_at_call 129; refine (IW.out _).mono ?_; clear IW; rintro e w' ⟨rfl, rfl⟩)
    go_region
    all_goals
      go_wp2
      go_ret3
      exact ⟨by rw [A.out, B.out, F.out]; rfl, 1, rfl⟩
  · rw [i2 h] at IW
    have A := Lib.hid (show cutA r = r from if_neg h)
    have B := Lib.hid (show cutB r = ⟨#[]⟩ from if_neg h)
    have F := Lib.hid (show cutF r = false from decide_eq_false h)
    clear i1 i2 h
    go_enter Tryz.func130, Tryz.ntmps130
    go_wp2_with (go_at_call 129; refine (IW.out _).mono ?_; clear IW; rintro e w' ⟨rfl, rfl⟩)
    go_ret3
    exact ⟨by rw [A.out, B.out, F.out]; rfl, 0, rfl⟩
theorem cutP (r : ByteArray) (hr : r.size ≤ 1000000) (w : World) : Calls Tryz.prog 104 #[.string r, .string ⟨#[10]⟩] w (RetCut w r) := by
  have CW := Lib.hid (cutLite r hr)
  go_enter Tryz.func104, Tryz.ntmps104
  go_wp2_with (go_at_call 130; refine (CW.out _).mono ?_; clear CW; rintro e w' ⟨rfl, n, rfl⟩)
  go_ret3
  exact ⟨rfl, n, rfl⟩
theorem lns_step {s : ByteArray} : ∀ (d a k : Nat), s.size - k ≤ d → a ≤ k → k ≤ s.size → lnsFrom s a k = (if endOf noN s k < s.size then s.extract a (endOf noN s k) :: lnsFrom s (endOf noN s k + 1) (endOf noN s k + 1) else if a < s.size then [s.extract a s.size] else []) := by
  intro d
  induction d with
  | zero => intro a k hd ha hk; rw [lns_end (by omega), endOf_end (by omega)]; exact (if_neg (Nat.lt_irrefl _)).symm
  | succ d ih =>
    intro a k hd ha hk
    by_cases h : k < s.size
    · by_cases n : s[k] = 10
      · have b : noN s[k].toNat = false := by rw [n]; rfl
        rw [lns_cut h n, endOf_here h b, if_pos h]
      · rw [lns_on h n, ih a (k + 1) (by omega) (by omega) (by omega), endOf_on h (noN_of h n)]
    · rw [lns_end h, endOf_end h]; exact (if_neg (Nat.lt_irrefl _)).symm
theorem rest_end {s : ByteArray} {a : Nat} (ha : a ≤ s.size) : endOf noN (s.extract a s.size) 0 = endOf noN s a - a := by
  obtain ⟨e1, e2⟩ := endOf_le (K := noN) ha
  have sz : (s.extract a s.size).size = s.size - a := by simp
  have gt : ∀ (j : Nat) (h : j < (s.extract a s.size).size), (s.extract a s.size)[j] = s[a + j]'(by rw [sz] at h; omega) := fun j h => ByteArray.getElem_extract h
  refine endOf_eq (Nat.zero_le _) (by omega) (fun j g _ hj => ?_) (fun g => ?_)
  · rw [gt]
    exact endOf_all s.size a (by omega) (a + j) (by rw [sz] at g; omega) (by omega) (by omega)
  · rw [gt]
    have := endOf_at (K := noN) (s := s) s.size a (by omega) (by rw [sz] at g; omega)
    simp only [show a + (endOf noN s a - a) = endOf noN s a from by omega]
    exact this
theorem rest_cut {s : ByteArray} {a : Nat} (ha : a < s.size) : ∃ b, a < b ∧ b ≤ s.size ∧ lnsFrom s a a = cutA (s.extract a s.size) :: lnsFrom s b b ∧ cutB (s.extract a s.size) = s.extract b s.size ∧ (cutA (s.extract a s.size)).size ≤ s.size := by
  obtain ⟨e1, e2⟩ := endOf_le (K := noN) (s := s) (k := a) (by omega)
  have sz : (s.extract a s.size).size = s.size - a := by simp
  have re := rest_end (s := s) (a := a) (by omega)
  rw [lns_step s.size a a (by omega) (Nat.le_refl _) (by omega)]
  by_cases h : endOf noN s a < s.size
  · refine ⟨endOf noN s a + 1, by omega, by omega, ?_, ?_, ?_⟩
    · rw [if_pos h]
      unfold cutA
      rw [if_pos (by omega), re, ByteArray.extract_extract]
      congr 2
      omega
    · unfold cutB
      rw [if_pos (by omega), re, ByteArray.extract_extract, sz]
      congr 1 <;> omega
    · unfold cutA
      rw [if_pos (by omega)]
      simp only [ByteArray.size_extract]
      omega
  · have es : lnsFrom s s.size s.size = [] := by rw [lns_end (by omega), if_neg (by omega)]
    refine ⟨s.size, ha, Nat.le_refl _, ?_, ?_, ?_⟩
    · rw [if_neg h, if_pos ha, es]
      unfold cutA
      rw [if_neg (by omega)]
    · unfold cutB
      rw [if_neg (by omega)]
      exact (empty_is (by simp)).symm
    · unfold cutA
      rw [if_neg (by omega), sz]
      omega
theorem own_below {B : Nat} {e : TypeId} {k : Nat} {v : Value} {n : Nat} {xs : List Value} {w w' : World} (h : w.ownsRow B e k v n xs) (hb : Below w.heap.size w w') : w'.ownsRow B e k v n xs := by
  refine ⟨h.1, h.2.imp id ?_⟩
  rintro ⟨g, cap, cur, hv, hg, hh, rest⟩
  exact ⟨g, cap, cur, hv, hg, (hb.block g (h.lt g (by rw [hv]; rfl)).2).trans hh, rest⟩
theorem wordC_info : (Tryz.prog.info? 73).map (fun i => (i.zero, i.size, i.bytes)) = some (some (.agg #[.string ⟨#[]⟩, .int .i64 0]), 2, 24) := by kernel_rfl
theorem field_size (s : ByteArray) (k : Nat) : (fieldRes s k).1.size ≤ s.size := by
  have h : (headRes s k).1.size ≤ s.size := by
    unfold headRes quoRes
    split
    · split
      · exact Nat.zero_le _
      · split
        · simp only [ByteArray.size_extract]; omega
        · exact Nat.zero_le _
    · simp only [ByteArray.size_extract]; omega
  unfold fieldRes
  split
  · exact h
  · exact h
def CutRel (w : World) (s : ByteArray) (v i : Value) (wr : World) : Prop :=
  ∃ (out : List (ByteArray × Int)) (k n f : Nat), k ≤ s.size ∧ wr.ownsRow w.heap.size 73 2 v n (words out) ∧ i = .int .i64 k ∧ n ≤ 16 ∧ s.size - k < f ∧ fixR s (splitGo s f out k) = splitC s ∧ Below w.heap.size w wr ∧ (∀ h : k < s.size, blankB s[k].toNat = false ∧ ¬ s[k] = 35)
end Go.Proofs.YtnkmlfbnfndfpaaGreatDoor
namespace Go.Proofs.YtnkmlfbnfndfpaaGreatDoor
open Go.RowKit Go.Shelf
attribute [local go_sem] Oper.semAt_some
abbrev Line : Type := { t : ByteArray // t.size ≤ 1000000 }
def bytesOf (l : List Line) : List ByteArray := l.map (·.1)
theorem bytes_snoc (l : List Line) (x : Line) : bytesOf (l ++ [x]) = bytesOf l ++ [x.1] := by simp [bytesOf]
theorem grown_drawn (w : World) (n : Nat) : w.grownBy (w.drewN n) none := ⟨rfl, rfl, rfl, Nat.le_refl _, fun _ _ _ => rfl⟩
theorem lns_count {s : ByteArray} : ∀ (d a : Nat), s.size - a ≤ d → a ≤ s.size → (lnsFrom s a a).length ≤ s.size - a := by
  intro d
  induction d with
  | zero => intro a hd ha; rw [lns_end (by omega), if_neg (by omega)]; exact Nat.zero_le _
  | succ d ih =>
    intro a hd ha
    by_cases h : a < s.size
    · obtain ⟨b, b1, b2, b3, _⟩ := rest_cut h
      rw [b3]
      have := ih b (by omega) b2
      simp only [List.length_cons]
      omega
    · rw [lns_end h, if_neg (by omega)]; exact Nat.zero_le _
theorem iter_in (n : Nat) (hn : 1 ≤ n) (l Bn : Nat) (s : ByteArray) (hs : s.size ≤ 1000000) (J Jx : List Line → World → Prop)
    (W : World) (hJ : AbidesFrom W.heap.size J)
    (hY : ∀ pre x W1, J pre W1 → pre.length < s.size → YieldAt Fence.wide (n - 1) Tryz.prog l #[.string x.1] W1 fun e W' =>
      (e = .returned (.bool true) ∧ J (pre ++ [x]) W' ∧ KeepsWalks W1 W') ∨ (e = .returned (.bool false) ∧ Jx (pre ++ [x]) W'))
    (hBn : W.cell? ⟨Bn, 0, none⟩ = some (.string s)) (h0 : J [] W) :
    CallsIn Fence.wide n Tryz.prog 103 #[.func (.yield l) #[] #[], .pointer (some ⟨Bn, 0, none⟩)] W fun e W' => (∃ v, e = .returned v) ∧
      ((∃ ys, bytesOf ys = lnsFrom s 0 0 ∧ J ys W') ∨ (∃ pre, True ∧ Jx pre W')) := by
  refine callsIn_of_wp Tryz.func103 rfl trivial ?_ rfl
  simp only [Tryz.ntmps103, List.size_toArray, List.length_cons, List.length_nil, Nat.reduceAdd, Nat.reduceSub, Array.replicate_succ, Array.replicate_zero, List.push_toArray, List.append_toArray, List.nil_append, List.cons_append]
  gi_wp2
  gi_loopw [3] (fun p wr => ∃ (pre : List Line) (a : Nat), a ≤ s.size ∧ p = .string (s.extract a s.size) ∧ bytesOf pre ++ lnsFrom s a a = lnsFrom s 0 0 ∧ pre.length ≤ a ∧ J pre wr) (fun p _ => match p with | .string r => r.size | _ => 0)
  case atStart => exact ⟨[], 0, Nat.zero_le _, by simp, rfl, Nat.zero_le _, h0⟩
  case round =>
    obtain ⟨pre, a, ha, rfl, hx, hp, hJs⟩ := hrel
    have szr : (s.extract a s.size).size = s.size - a := by simp
    by_cases h : a < s.size
    · obtain ⟨b, b1, b2, b3, b4, b5⟩ := rest_cut h
      have ne2 : ¬ (s.extract a s.size).toList = [] := ne_toList (by omega)
      have ne : (s.extract a s.size).toList.isEmpty = false := List.isEmpty_eq_false_iff.2 ne2
      have CW := Lib.hid (fun w => callsIn_wide.2 (cutP (s.extract a s.size) (by omega) w) : ∀ w, CallsIn Fence.wide (n - 1) Tryz.prog 104 #[.string (s.extract a s.size), .string ⟨#[10]⟩] w (RetCut w (s.extract a s.size)))
      have HX := Lib.hid (hx.symm.trans (by rw [b3]))
      clear hx b3
      have SB : (s.extract b s.size).size = s.size - b := by simp
      rw [← b4] at SB
      have B4 := Lib.hid b4
      clear b4
      unfold RetCut at CW
      generalize cutA (s.extract a s.size) = u at *
      generalize cutB (s.extract a s.size) = v at *
      generalize cutF (s.extract a s.size) = f at *
      generalize s.extract a s.size = r at *
      gi_wp2_with (refine ⟨trivial, ?_⟩; gi_at_call 104; refine (CW.out _).mono ?_; clear CW; rintro e w' ⟨rfl, m, rfl⟩; have hJm := hJ _ _ (wr.drewN m) none hJs (grown_drawn wr m) (fun r c => by cases c); obtain ⟨fn, tmps, assign, body, hy, hR⟩ := hY pre ⟨u, by omega⟩ (wr.drewN m) hJm (by omega); dsimp only at hy)
      refine hR.mono ?_
      rintro e W3 (⟨rfl, hJ3, hk3⟩ | ⟨rfl, hJx3⟩)
      · gi_wp2
        go_roundw
        case rel => exact ⟨pre ++ [⟨u, by omega⟩], b, b2, by rw [B4.out], by rw [bytes_snoc, List.append_assoc]; exact HX.out.symm, by simp; omega, hJ3⟩
        case measure => simp only []; omega
      · gi_wp2
        refine bodyPost_ret (results_none rfl _ _ _) rfl ?_
        exact ⟨⟨_, rfl⟩, .inr ⟨_, trivial, hJx3⟩⟩
    · have e0 : s.extract a s.size = ⟨#[]⟩ := empty_is (by omega)
      have HX := Lib.hid (show bytesOf pre = lnsFrom s 0 0 by rw [← hx, lns_end h, if_neg h, List.append_nil])
      rw [e0]
      clear hx e0 szr
      gi_wp2
      go_end0
      exact ⟨⟨_, rfl⟩, .inl ⟨pre, HX.out, hJs⟩⟩
theorem box_below {W W' : World} {B : Nat} {t : TypeId} {v : Value} (h : Boxed W B t v) (b : Below W.heap.size W W') : Boxed W' B t v := (b.block B h.lt).trans h
theorem others_below {W W' : World} (b : Below W.heap.size W W') : KeepsOthers W W' := ⟨b.size, fun k _ h _ => (b.block k (Array.getElem?_eq_some_iff.1 h).1).trans h⟩
theorem iter_made (n : Nat) (s : ByteArray) (w : World) :
    CallsIn Fence.wide n Tryz.prog 73 #[.string s] w fun e w' => e = .returned (.func (.func 103) #[] #[.pointer (some ⟨w.heap.size, 0, none⟩)]) ∧ w' = w.alloc (.cells #[.string s] 9) := by
  refine callsIn_of_wp Tryz.func73 rfl trivial ?_ rfl
  simp only [Tryz.ntmps73, List.size_toArray, List.length_cons, List.length_nil, Nat.reduceAdd, Nat.reduceSub, Array.replicate_succ, Array.replicate_zero, List.push_toArray, List.append_toArray, List.nil_append, List.cons_append]
  gi_wp2
  go_ret
  exact ⟨rfl, rfl⟩
theorem iter_stops (n : Nat) (hn : 1 ≤ n) (Bn : Nat) (s : ByteArray) (hs : s.size ≤ 1000000) (w : World) (hBn : Bn < w.heap.size) (hc : w.cell? ⟨Bn, 0, none⟩ = some (.string s)) :
    SeqStopsK Fence.wide n Tryz.prog 103 #[.pointer (some ⟨Bn, 0, none⟩)] (fun x : Line => #[Value.string x.1]) KeepsWalks (fun ys => bytesOf ys = lnsFrom s 0 0) (fun _ => True) s.size w := fun l J Jx W hW hJ _ hY h0 =>
  iter_in n hn l Bn s hs J Jx W hJ hY ((hW.cell (p := ⟨Bn, 0, none⟩) hBn).trans hc) h0
theorem linesP (s : ByteArray) (hs : s.size ≤ 1000000) (w : World) : Calls Tryz.prog 44 #[.string s] w (RetSs w (lnsFrom s 0 0)) := by
  refine (callsIn_wide (n := 5)).1 ?_
  obtain ⟨i0, hi, hz0, hz1, hz2⟩ := info_partsS str_info
  refine callsIn_of_wp_marks Tryz.func44 rfl trivial ?_ rfl
  simp only [Tryz.ntmps44, List.size_toArray, List.length_cons, List.length_nil, Nat.reduceAdd, Nat.reduceSub, Array.replicate_succ, Array.replicate_zero, List.push_toArray, List.append_toArray, List.nil_append, List.cons_append]
  gi_wp2_with (refine ⟨trivial, ?_⟩; gi_at_call 73; refine (iter_made _ _ _).mono ?_; rintro e w' ⟨rfl, rfl⟩)
  have bO := Boxed.new w 41 (.slice none 0 0)
  have bN := Boxed.new (w.alloc (.cells #[.slice none 0 0] 41)) 9 (.string s)
  rw [World.size_alloc] at bN
  have hB0 : Below w.heap.size w ((w.alloc (.cells #[.slice none 0 0] 41)).alloc (.cells #[.string s] 9)) := ((Below.refl _ w).alloc (Nat.le_refl _) _).alloc (by simp) _
  refine wpIn_rangeFunc_ownG (n := 5) rfl (by omega) (gf := 103) (lb := #[.pointer (some ⟨w.heap.size + 1, 0, none⟩)]) rfl trivial (enters_of Tryz.func103 (by kernel_rfl) rfl)
    (iter_stops (5 - 1) (by omega) (w.heap.size + 1) s hs _ (by simp) bN.cell) walksK_t walksK_b (Below.refl _ _) (fun _ => rfl)
    (fun pre W => (∃ v, Boxed W w.heap.size 41 v ∧ W.ownsRow w.heap.size 9 1 v pre.length (strs (bytesOf pre)) ∧ True) ∧ Below w.heap.size w W)
    (fun _ _ _ => False)
    (OwnFrom.and (Own.from (holdsRow_own w.heap.size w.heap.size 41 9 1 (fun pre : List Line => pre.length) (fun pre => strs (bytesOf pre)) (fun _ _ => True)) _) (ownFrom_below (Nat.le_refl _) (by simp; omega)))
    (fun _ _ _ _ _ hs _ _ => hs)
    ⟨⟨_, bO.alloc _, World.ownsRow_nil _ _ _ _, trivial⟩, hB0⟩
    (fun x => { tmps := #[.string s, undef, .slice none 0 0, .pointer (some ⟨w.heap.size, 0, none⟩), .string x.1, .string s, .func (.func 103) #[] #[.pointer (some ⟨w.heap.size + 1, 0, none⟩)], .string x.1, undef, undef, undef, undef, undef, undef], defers := [] }) ?assign ?body ?done ?stop
  case assign =>
    intro l x W K hK
    gi_wp2
    exact hK
  case body =>
    rintro l pre ⟨x, hxs⟩ W ⟨⟨v, hv, hrow, _⟩, hB⟩ hlt
    have hc := hv.cell
    dsimp only at hlt ⊢
    have CW := Lib.hid (fun w => callsIn_wide.2 (cloneP x (by omega) w) : ∀ w, CallsIn Fence.wide 2 Tryz.prog 74 #[.string x] w fun e w' => e = .returned (.string x) ∧ Below w.heap.size w w')
    have szB := hB.size
    have mixed : Tryz.prog.follows Departure.mixedOrders = true := by kernel_rfl
    have hb0 := hv.lt
    gi_wp2_with fail
    gi_region_with_o
      (refine ⟨trivial, ?_⟩
       gi_at_call 74
       refine (CallsIn.inRound l (CW.out _)).mono ?_
       rintro e w1 ⟨rfl, hb1⟩
       have hbW : Below W.heap.size W w1 := (below_drewN (Below.refl W.heap.size W) 1).trans hb1
       have hv1 := box_below hv hbW
       have hrow1 := own_below hrow hbW
       have sz1 := hbW.size
       obtain ⟨v2, w2, hrun, hown2, hgrow2, _, _⟩ := run_append_own_at (P := Tryz.prog) (w := w1.alloc (.cells #[.string x] 9)) w.heap.size 41 41 9 i0 (.string ⟨#[]⟩) 1 16 Tryz.underlying41 hi hz0 hz1 hz2 rfl (by decide) v pre.length (strs (bytesOf pre)) (hrow1.alloc _) ⟨w1.heap.size, 0, none⟩ 1 1 [.string x] rfl (cell_one_new _ _ _) (by simp [Value.oneCell']) (by unfold maxLen; omega) (by omega) (by simp; omega)
       obtain ⟨g', cap', rfl⟩ := ownsRow_succ hown2
       obtain ⟨hv2, hv3, hr3, hk3, hb3⟩ := hv1.appended (by decide) hrow1 (by omega) (Nat.le_refl _) hown2 hgrow2
       simp [go_sem] at hrun
       have hc1 := hv1.cell
       have hcA := (hv1.alloc (.cells #[.string x] 9)).cell
       have hc2 := hv2.cell
       have hf2 := hv2.frozen)
    all_goals gi_wp2
    all_goals exact ⟨((others_below hbW).trans hk3).from _, ((others_below hbW).trans hk3).walks, ⟨⟨_, hv3, by simpa [bytes_snoc, ← strs_snoc] using hr3, trivial⟩, (hB.trans (hbW.mono szB)).trans hb3⟩⟩
  case done =>
    rintro D ys W hD hys ⟨⟨v, hv, hrow, _⟩, hB⟩ hK
    have hc := hv.cell
    gi_wp2
    refine ⟨by simp, .inl ⟨_, _, rfl, run_takeDeferred hK, ?_⟩⟩
    rw [hys] at hrow
    obtain ⟨A, c, rfl, hS⟩ := Ss.of_own (ownsRow_putObj hrow (.deferred none) hK rfl)
    exact ⟨_, results_tmp rfl _ _ _, A, _, c, rfl, hS, hB.trans (belowK_b (w := w) (Nat.le_refl _) W D _ _ (by simp at hD; omega) hK rfl rfl)⟩
  case stop =>
    rintro D c pre W _ _ h _
    exact h.elim
end Go.Proofs.YtnkmlfbnfndfpaaGreatDoor
