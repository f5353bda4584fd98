/- Stage 8's laws: the line of any fields. -/
import Derived.Test.YtnojlbeiknkooaaSalive
import Derived.Test.YtnojlbeiknkooaaSlong
namespace Go.Proofs.Ytnojlbeiknkooaa
open Go.RowKit
set_option maxRecDepth 100000 in
set_option maxHeartbeats 8000000 in
theorem joinsL (C : FieldsP) (A : Option Addr) (n c : Nat) (l : List ByteArray) (w : World) (ha : Ss w A n c l) (hn : n ≤ maxLen) (hz : ∀ (i : Nat) (h : i < l.length), l[i].size ≤ maxLen) :
    Calls Try.prog 5 #[.slice A n c] w (RetV w (.bool true)) := by
  have AL := Lib.hid (alive8 C)
  by_cases hl : smallTexts l
  · have LN := Lib.hid (long_no A n c l w ha hl)
    have JN := Lib.hid (C.join A n c l w ha hl)
    have JR := Lib.hid (fun w1 (hb : Below w.heap.size w w1) => joinR A n c l w1 (ha.below hb) hl)
    generalize joinRes l = r at *
    obtain ⟨u, q⟩ := r
    clear ha hl C hz
    go_enter Try.func5, Try.ntmps5
    go_wp2_with fail
    refine LN.out.mono ?_
    rintro e w' ⟨rfl, rfl⟩
    go_wp2_with fail
    refine JN.out.mono ?_
    rintro e w1 ⟨rfl, hb⟩
    have sz := hb.size
    go_wp2_with fail
    refine (JR.out _ hb).mono ?_
    rintro e w' ⟨rfl, rfl⟩
    go_wp2_with fail
    refine (AL.out _).mono ?_
    rintro e w2 ⟨rfl, hb2⟩
    go_wp2
    go_ret
    exact ⟨rfl, hb.trans (hb2.mono sz)⟩
  · have LN := Lib.hid (long_yes A n c l w ha hn hz hl)
    clear ha hl C hz
    go_enter Try.func5, Try.ntmps5
    go_wp2_with fail
    refine LN.out.mono ?_
    rintro e w' ⟨rfl, rfl⟩
    go_wp2_with fail
    refine (AL.out _).mono ?_
    rintro e w2 ⟨rfl, hb2⟩
    go_wp2
    go_ret
    exact ⟨rfl, hb2⟩
end Go.Proofs.Ytnojlbeiknkooaa
