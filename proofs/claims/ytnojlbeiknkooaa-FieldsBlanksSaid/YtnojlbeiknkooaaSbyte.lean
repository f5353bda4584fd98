/- The document's answer of layer 8: bytes of plain fields, blanks, the next quotation mark. -/
import Derived.Test.YtnojlbeiknkooaaSlines
namespace Go.Proofs.Ytnojlbeiknkooaa
open Go.RowKit

/-- a byte of a plain field; a blank -/
def bareB (b : Int) : Bool := decide (32 < b ∧ b < 127 ∧ ¬ b = 34 ∧ ¬ b = 35)
def blankB (b : Int) : Bool := decide (b = 32 ∨ b = 9)
set_option maxRecDepth 100000 in
theorem bareR (b : Int) (w : World) : Calls Try.prog 23 #[.int .u8 b] w (fun e w' => e = .returned (.bool (bareB b)) ∧ w = w') := by
  by_cases h1 : 32 < b
  · have g1 : decide (32 < b) = true := decide_eq_true h1
    by_cases h2 : b < 127
    · have g2 : decide (b < 127) = true := decide_eq_true h2
      by_cases h3 : b = 34
      · have e : bareB b = false := decide_eq_false fun k => k.2.2.1 h3
        rw [e]
        clear e
        subst h3
        clear h1 h2 g1 g2
        go_enter Try.func23, Try.ntmps23
        go_wp2
        go_ret
        exact ⟨rfl, rfl⟩
      · have g3 : (b != 34) = true := by rw [bne_iff_ne]; exact h3
        have e : bareB b = (b != 35) := by
          by_cases h4 : b = 35
          · rw [show bareB b = false from decide_eq_false fun k => k.2.2.2 h4, h4]; rfl
          · rw [show bareB b = true from decide_eq_true ⟨h1, h2, h3, h4⟩, (bne_iff_ne.2 h4)]
        rw [e]
        clear e h1 h2 h3
        go_enter Try.func23, Try.ntmps23
        go_wp2
        go_ret
        exact ⟨rfl, rfl⟩
    · have g2 : decide (b < 127) = false := decide_eq_false h2
      have e : bareB b = false := decide_eq_false fun k => h2 k.2.1
      rw [e]
      clear e h1 h2
      go_enter Try.func23, Try.ntmps23
      go_wp2
      go_ret
      exact ⟨rfl, rfl⟩
  · have g1 : decide (32 < b) = false := decide_eq_false h1
    have e : bareB b = false := decide_eq_false fun k => h1 k.1
    rw [e]
    clear e h1
    go_enter Try.func23, Try.ntmps23
    go_wp2
    go_ret
    exact ⟨rfl, rfl⟩
set_option maxRecDepth 100000 in
theorem blankR (b : Int) (w : World) : Calls Try.prog 22 #[.int .u8 b] w (fun e w' => e = .returned (.bool (blankB b)) ∧ w = w') := by
  by_cases h1 : b = 32
  · rw [show blankB b = true from decide_eq_true (.inl h1)]
    subst h1
    go_enter Try.func22, Try.ntmps22
    go_wp2
    go_ret
    exact ⟨rfl, rfl⟩
  · have g1 : (b == 32) = false := by rw [beq_eq_false_iff_ne]; exact h1
    have e : blankB b = (b == 9) := by
      by_cases h2 : b = 9
      · rw [show blankB b = true from decide_eq_true (.inr h2), h2]; rfl
      · rw [show blankB b = false from decide_eq_false (by omega), beq_eq_false_iff_ne.2 h2]
    rw [e]
    clear e h1
    go_enter Try.func22, Try.ntmps22
    go_wp2
    go_ret
    exact ⟨rfl, rfl⟩
/-- the next quotation mark, from the k-th byte on -/
def quoAt (s : ByteArray) (k : Nat) : Option Nat :=
  if h : k < s.size then (if s[k] = 34 then some k else quoAt s (k + 1)) else none
termination_by s.size - k
theorem quo_here {s : ByteArray} {k : Nat} (h : k < s.size) (q : s[k] = 34) : quoAt s k = some k := by rw [quoAt, dif_pos h, if_pos q]
theorem quo_on {s : ByteArray} {k : Nat} (h : k < s.size) (q : ¬ s[k] = 34) : quoAt s k = quoAt s (k + 1) := by rw [quoAt, dif_pos h, if_neg q]
theorem quo_end {s : ByteArray} {k : Nat} (h : ¬ k < s.size) : quoAt s k = none := by rw [quoAt, dif_neg h]
def quoI (s : ByteArray) (k : Nat) : Int := match quoAt s k with | some j => (j : Int) | none => -1
theorem byte_is {s : ByteArray} {k : Nat} (h : k < s.size) (n : UInt8) (i : Int) (hi : (n.toNat : Int) = i) : (s[k] = n → ((s[k].toNat : Int) == i) = true) ∧ (¬ s[k] = n → ((s[k].toNat : Int) == i) = false) := by
  constructor
  · intro e; rw [e, beq_iff_eq]; exact hi
  · intro e; rw [beq_eq_false_iff_ne]; intro c; exact e (by rw [← UInt8.toNat_inj]; omega)
set_option maxRecDepth 100000 in
theorem secondR (s : ByteArray) (a : Nat) (hs : s.size ≤ 1000000) (ha : a ≤ 1000000) (w : World) : Calls Try.prog 24 #[.string s, .int .i64 a] w (fun e w' => e = .returned (.int .i64 (quoI s (a + 1))) ∧ w = w') := by
  go_enter Try.func24, Try.ntmps24
  go_wp2
  go_loop [5] (fun i => ∃ k : Nat, k ≤ 1000001 ∧ i = .int .i64 k ∧ quoAt s k = quoAt s (a + 1)) (fun i => s.size - (intOf i).toNat)
  case atStart => exact ⟨a + 1, by omega, by go_num, rfl⟩
  case round =>
    obtain ⟨k, hk, rfl, he⟩ := hrel
    by_cases h1 : k < s.size
    · obtain ⟨b1, b2⟩ := byte_is h1 34 34 rfl
      by_cases q : s[k] = 34
      · have g := b1 q
        have HE := Lib.hid (show quoI s (a + 1) = (k : Int) by unfold quoI; rw [← he, quo_here h1 q])
        clear b1 b2 q he
        go_wp2
        go_ret
        exact ⟨by rw [HE.out]; rfl, rfl⟩
      · have g := b2 q
        have HE := Lib.hid (show quoAt s (k + 1) = quoAt s (a + 1) by rw [← he, quo_on h1 q])
        clear b1 b2 q he
        go_wp2
        go_round
        case rel => exact ⟨k + 1, by omega, by go_num, HE.out⟩
        case measure => simp [intOf]; omega
    · have HE := Lib.hid (show quoI s (a + 1) = -1 by unfold quoI; rw [← he, quo_end h1])
      clear he
      go_wp2
      go_ret
      exact ⟨by rw [HE.out]; rfl, rfl⟩
end Go.Proofs.Ytnojlbeiknkooaa
