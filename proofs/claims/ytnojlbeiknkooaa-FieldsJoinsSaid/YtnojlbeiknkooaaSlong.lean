/- Stage 8's laws: are there more texts, or longer ones, than are looked at? -/
import Derived.Test.YtnojlbeiknkooaaSjoin
namespace Go.Proofs.Ytnojlbeiknkooaa
open Go.RowKit
def lenPre (l : List ByteArray) (k : Nat) : Prop := ∀ (i : Nat) (h : i < l.length), i < k → l[i].size ≤ 2000
set_option maxRecDepth 100000 in
set_option maxHeartbeats 4000000 in
theorem long_no (A : Option Addr) (n c : Nat) (l : List ByteArray) (w : World) (ha : Ss w A n c l) (hl : smallTexts l) :
    Calls Try.prog 15 #[.slice A n c] w (fun e w' => e = .returned (.bool false) ∧ w = w') := by
  have n100 : n ≤ 100 := by have := hl.1; have := ha.len; omega
  have LN := Lib.hid ha.len
  have HS := Lib.hid hl.2
  clear hl
  have CA := Lib.hid ha.cells
  clear ha
  go_enter Try.func15, Try.ntmps15
  go_wp2
  go_loop [3] (fun v => ∃ i : Nat, i ≤ n ∧ v = .int .i64 i) (fun v => n - (intOf v).toNat)
  case atStart => exact ⟨0, by omega, rfl⟩
  case round =>
    obtain ⟨i, hi, rfl⟩ := hrel
    by_cases h1 : i < n
    · have il : i < l.length := by rw [LN.out]; exact h1
      obtain ⟨g, o, rfl, _, ca⟩ := CA.out (by omega)
      have cell := ca i il
      clear ca
      have sz := HS.out i il
      generalize l[i] = t at *
      go_wp2
      go_round
      case rel => exact ⟨i + 1, by omega, by go_num⟩
      case measure => simp [intOf]; omega
    · have hin : i = n := by omega
      subst hin
      go_wp2
      go_ret
      exact ⟨rfl, rfl⟩
set_option maxRecDepth 100000 in
set_option maxHeartbeats 4000000 in
theorem long_yes (A : Option Addr) (n c : Nat) (l : List ByteArray) (w : World) (ha : Ss w A n c l) (hn : n ≤ 9223372036854775807) (hz : ∀ (i : Nat) (h : i < l.length), l[i].size ≤ 9223372036854775807) (hl : ¬ smallTexts l) :
    Calls Try.prog 15 #[.slice A n c] w (fun e w' => e = .returned (.bool true) ∧ w = w') := by
  have LN := Lib.hid ha.len
  have HL := Lib.hid hl
  clear hl
  have HZ := Lib.hid hz
  clear hz
  have CA := Lib.hid ha.cells
  clear ha
  by_cases n100 : 100 < n
  · go_enter Try.func15, Try.ntmps15
    go_wp2
    go_ret
    exact ⟨rfl, rfl⟩
  · go_enter Try.func15, Try.ntmps15
    go_wp2
    go_loop [3] (fun v => ∃ i : Nat, i ≤ n ∧ v = .int .i64 i ∧ lenPre l i) (fun v => n - (intOf v).toNat)
    case atStart => exact ⟨0, by omega, rfl, fun _ _ h => absurd h (by omega)⟩
    case round =>
      obtain ⟨i, hi, rfl, hp⟩ := hrel
      have HP := Lib.hid hp
      clear hp
      by_cases h1 : i < n
      · have il : i < l.length := by rw [LN.out]; exact h1
        obtain ⟨g, o, rfl, _, ca⟩ := CA.out (by omega)
        have cell := ca i il
        clear ca
        have sz := HZ.out i il
        have NP := Lib.hid (fun (h : l[i].size ≤ 2000) => show lenPre l (i + 1) from fun j hj hlt => by
          by_cases e : j = i
          · subst e; exact h
          · exact HP.out j hj (by omega))
        generalize l[i] = t at *
        by_cases h2 : 2000 < t.size
        · go_wp2
          go_ret
          exact ⟨rfl, rfl⟩
        · have NN := Lib.hid (NP.out (by omega))
          go_wp2
          go_round
          case rel => exact ⟨i + 1, by omega, by go_num, NN.out⟩
          case measure => simp [intOf]; omega
      · exact absurd ⟨by rw [LN.out]; omega, fun j hj => HP.out j hj (by have := LN.out; omega)⟩ HL.out
end Go.Proofs.Ytnojlbeiknkooaa
