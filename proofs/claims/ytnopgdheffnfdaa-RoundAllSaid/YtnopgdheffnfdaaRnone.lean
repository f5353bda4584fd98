/- The document's answer of layer 4 at a mode that is none. -/
import Derived.Test.YtnopgdheffnfdaaRref
namespace Go.Proofs.Ytnopgdheffnfdaa
open Go.RowKit

set_option maxRecDepth 100000 in
theorem near_less (p q : Bool) (A B : Option Addr) (n m c d : Nat) (mo : Int) (h : mo < 1) (w : World) :
    Calls Try.prog 30 #[.agg #[.bool p, .slice A n c], .agg #[.bool q, .slice B m d], .int .i64 mo] w (fun e w' => e = .returned (.tuple #[.agg #[.bool false, .slice none 0 0], .bool false]) ∧ Below w.heap.size w w') := by
  have KM := (((BM.nil w).more2 (.bool p) (.slice A n c) 38).more2 (.bool q) (.slice B m d) 38).more2 (.bool false) (.slice none 0 0) 38
  simp only [World.size_alloc] at KM
  go_enter Try.func30, Try.ntmps30
  go_upto_region 1 with (fail)
  generalize ((w.alloc (.cells #[.bool p, .slice A n c] 38)).alloc (.cells #[.bool q, .slice B m d] 38)).alloc (.cells #[.bool false, .slice none 0 0] 38) = w0 at *
  obtain ⟨_, ra, rb, rc, rd⟩ := (KM.head).two
  go_wp2
  obtain ⟨_, P0, P1, _, _⟩ := ((KM.head).self2 (.bool false) (.slice none 0 0)).two
  have HB := (KM.hb.setCell (p := ⟨w.heap.size + 1 + 1, 0, none⟩) (by show _ ≤ w.heap.size + 1 + 1; omega) (.bool false)).setCell (p := ⟨w.heap.size + 1 + 1, 1, none⟩) (by show _ ≤ w.heap.size + 1 + 1; omega) (.slice none 0 0)
  exact bodyPost_ret (v := .tuple #[.agg #[.bool false, .slice none 0 0], .bool false]) (by simp [results, Try.results30, go_sem, P0, P1]) rfl ⟨rfl, HB⟩
set_option maxRecDepth 100000 in
theorem near_more (p q : Bool) (A B : Option Addr) (n m c d : Nat) (mo : Int) (h : ¬ mo < 1) (h9 : 9 < mo) (w : World) :
    Calls Try.prog 30 #[.agg #[.bool p, .slice A n c], .agg #[.bool q, .slice B m d], .int .i64 mo] w (fun e w' => e = .returned (.tuple #[.agg #[.bool false, .slice none 0 0], .bool false]) ∧ Below w.heap.size w w') := by
  have KM := (((BM.nil w).more2 (.bool p) (.slice A n c) 38).more2 (.bool q) (.slice B m d) 38).more2 (.bool false) (.slice none 0 0) 38
  simp only [World.size_alloc] at KM
  go_enter Try.func30, Try.ntmps30
  go_upto_region 1 with (fail)
  generalize ((w.alloc (.cells #[.bool p, .slice A n c] 38)).alloc (.cells #[.bool q, .slice B m d] 38)).alloc (.cells #[.bool false, .slice none 0 0] 38) = w0 at *
  obtain ⟨_, ra, rb, rc, rd⟩ := (KM.head).two
  go_wp2
  obtain ⟨_, P0, P1, _, _⟩ := ((KM.head).self2 (.bool false) (.slice none 0 0)).two
  have HB := (KM.hb.setCell (p := ⟨w.heap.size + 1 + 1, 0, none⟩) (by show _ ≤ w.heap.size + 1 + 1; omega) (.bool false)).setCell (p := ⟨w.heap.size + 1 + 1, 1, none⟩) (by show _ ≤ w.heap.size + 1 + 1; omega) (.slice none 0 0)
  exact bodyPost_ret (v := .tuple #[.agg #[.bool false, .slice none 0 0], .bool false]) (by simp [results, Try.results30, go_sem, P0, P1]) rfl ⟨rfl, HB⟩
theorem near_none (p q : Bool) (A B : Option Addr) (n m c d : Nat) (mo : Int) (h : mo < 1 ∨ 9 < mo) (w : World) :
    Calls Try.prog 30 #[.agg #[.bool p, .slice A n c], .agg #[.bool q, .slice B m d], .int .i64 mo] w (fun e w' => e = .returned (.tuple #[.agg #[.bool false, .slice none 0 0], .bool false]) ∧ Below w.heap.size w w') := by
  by_cases h1 : mo < 1
  · exact near_less p q A B n m c d mo h1 w
  · exact near_more p q A B n m c d mo h1 (by omega) w
end Go.Proofs.Ytnopgdheffnfdaa
