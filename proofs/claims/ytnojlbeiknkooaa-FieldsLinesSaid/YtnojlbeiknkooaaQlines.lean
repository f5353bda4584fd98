/- Stage 8's laws: lines. -/
import Derived.Test.YtnojlbeiknkooaaSalive
namespace Go.Proofs.Ytnojlbeiknkooaa
open Go.RowKit
theorem lns_len {s : ByteArray} : ∀ (d a k : Nat), s.size - k ≤ d → (lnsFrom s a k).length ≤ d + 1 := by
  intro d
  induction d with
  | zero => intro a k h; rw [lns_end (by omega)]; split <;> simp
  | succ d ih =>
    intro a k h
    by_cases g : k < s.size
    · by_cases c : s[k] = 10
      · rw [lns_cut g c]; have := ih (k + 1) (k + 1) (by omega); simp; omega
      · rw [lns_on g c]; have := ih a (k + 1) (by omega); omega
    · rw [lns_end g]; split <;> simp
set_option maxRecDepth 100000 in
set_option maxHeartbeats 8000000 in
theorem linesL (C : FieldsP) (s : ByteArray) (hs : s.size ≤ maxLen) (w : World) : Calls Try.prog 3 #[.string s] w (RetV w (.bool true)) := by
  have AL := Lib.hid (alive8 C)
  have hs : s.size ≤ 9223372036854775807 := hs
  by_cases h : 65536 < s.size
  · clear C
    go_enter Try.func3, Try.ntmps3
    go_wp2_with fail
    refine (AL.out _).mono ?_
    rintro e w1 ⟨rfl, hb⟩
    go_wp2
    go_ret
    exact ⟨rfl, hb⟩
  · have LI := Lib.hid (C.lines s (by omega))
    have LR := Lib.hid (linesR s (by omega))
    have LL := Lib.hid (lns_len (s := s) s.size 0 0 (by omega))
    clear C
    go_enter Try.func3, Try.ntmps3
    go_wp2_with fail
    refine (AL.out _).mono ?_
    rintro e w1 ⟨rfl, hb⟩
    go_wp2_with fail
    refine (LI.out _).mono ?_
    rintro e w2 ⟨A, n, c, rfl, hA, hb2⟩
    go_wp2_with fail
    refine (LR.out _).mono ?_
    rintro e w3 ⟨B, m, d, rfl, hB, hb3⟩
    have nl := hA.len
    have sz := hb.size
    have sz2 := hb2.size
    have sz3 := hb3.size
    have SM := Lib.hid (sameR A B n c m d _ w3 (hA.below hb3) hB (by have := LL.out; omega))
    clear hA hB LI LR LL
    go_wp2_with fail
    refine SM.out.mono ?_
    rintro e w4 ⟨rfl, hb4⟩
    go_wp2
    go_ret
    exact ⟨rfl, hb.trans ((hb2.mono sz).trans ((hb3.mono (by omega)).trans (hb4.mono (by omega))))⟩
end Go.Proofs.Ytnojlbeiknkooaa
