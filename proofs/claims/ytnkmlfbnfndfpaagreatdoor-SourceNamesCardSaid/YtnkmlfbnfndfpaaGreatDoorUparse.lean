/- The document's answer of layer 9: the spot that texts tell. -/
import Derived.Test.YtnkmlfbnfndfpaaGreatDoorGu
import Derived.Test.YtnkmlfbnfndfpaaGreatDoorGsix
import Derived.Deep.RegionHeld3
import Derived.Outline
namespace Go.Proofs.YtnkmlfbnfndfpaaGreatDoor
open Go.RowKit

set_option maxRecDepth 100000 in
set_option maxHeartbeats 4000000 in
theorem parse_0 (A : Option Addr) (c : Nat) (w : World) :
    Calls Tryz.prog 115 #[.slice A 0 c] w (fun o w' => o = .returned (.tuple #[.agg #[.int .i64 (1), .int .i64 (0), .int .i64 (0), .int .i64 (1), .int .i64 (0), .int .i64 (0)], .int .i64 (0), .int .i64 (0)]) ∧ Below w.heap.size w w') := by
  go_enter Tryz.func115, Tryz.ntmps115
  go_upto_region 2 with (fail)
  have KB := (((BK.nil w).more6 (.int .i64 (0)) (.int .i64 (0)) (.int .i64 (0)) (.int .i64 (0)) (.int .i64 (0)) (.int .i64 (0)) 50).more6 (.int .i64 (1)) (.int .i64 (0)) (.int .i64 (0)) (.int .i64 (1)) (.int .i64 (0)) (.int .i64 (0)) 50)
  simp only [World.size_alloc] at KB
  generalize ((w.alloc (.cells #[.int .i64 (0), .int .i64 (0), .int .i64 (0), .int .i64 (0), .int .i64 (0), .int .i64 (0)] 50)).alloc (.cells #[.int .i64 (1), .int .i64 (0), .int .i64 (0), .int .i64 (1), .int .i64 (0), .int .i64 (0)] 50)) = w0 at *
  obtain ⟨_, r0, r1, r2, r3, r4, r5, rf0, rf1, rf2, rf3, rf4, rf5⟩ := (KB.tail.head).six
  obtain ⟨_, j0, j1, j2, j3, j4, j5, jf0, jf1, jf2, jf3, jf4, jf5⟩ := (KB.head).six
  have i5 : w.heap.size + 1 ≠ w.heap.size := by omega
  have i6 := Ne.symm i5
  go_wp2
  obtain ⟨_, P0, P1, P2, P3, P4, P5, _⟩ := ((KB.tail.head).self6 (.int .i64 (1)) (.int .i64 (0)) (.int .i64 (0)) (.int .i64 (1)) (.int .i64 (0)) (.int .i64 (0))).six
  have HB := ((((((KB.hb.setCell (p := ⟨w.heap.size, 0, none⟩) (by show _ ≤ w.heap.size; omega) (.int .i64 (1))).setCell (p := ⟨w.heap.size, 1, none⟩) (by show _ ≤ w.heap.size; omega) (.int .i64 (0))).setCell (p := ⟨w.heap.size, 2, none⟩) (by show _ ≤ w.heap.size; omega) (.int .i64 (0))).setCell (p := ⟨w.heap.size, 3, none⟩) (by show _ ≤ w.heap.size; omega) (.int .i64 (1))).setCell (p := ⟨w.heap.size, 4, none⟩) (by show _ ≤ w.heap.size; omega) (.int .i64 (0))).setCell (p := ⟨w.heap.size, 5, none⟩) (by show _ ≤ w.heap.size; omega) (.int .i64 (0)))
  exact bodyPost_ret (v := .tuple #[.agg #[.int .i64 (1), .int .i64 (0), .int .i64 (0), .int .i64 (1), .int .i64 (0), .int .i64 (0)], .int .i64 (0), .int .i64 (0)]) (by simp [results, Tryz.results115, go_sem, P0, P1, P2, P3, P4, P5]) rfl ⟨rfl, HB⟩
set_option maxRecDepth 100000 in
set_option maxHeartbeats 4000000 in
theorem parse_many (A : Option Addr) (n c : Nat) (hn : 3 < n) (w : World) :
    Calls Tryz.prog 115 #[.slice A n c] w (fun o w' => o = .returned (.tuple #[.agg #[.int .i64 (0), .int .i64 (0), .int .i64 (0), .int .i64 (0), .int .i64 (0), .int .i64 (0)], .int .i64 (3), .int .i64 (12)]) ∧ Below w.heap.size w w') := by
  go_enter Tryz.func115, Tryz.ntmps115
  go_upto_region 2 with (fail)
  have KB := (((BK.nil w).more6 (.int .i64 (0)) (.int .i64 (0)) (.int .i64 (0)) (.int .i64 (0)) (.int .i64 (0)) (.int .i64 (0)) 50).more6 (.int .i64 (1)) (.int .i64 (0)) (.int .i64 (0)) (.int .i64 (1)) (.int .i64 (0)) (.int .i64 (0)) 50)
  simp only [World.size_alloc] at KB
  generalize ((w.alloc (.cells #[.int .i64 (0), .int .i64 (0), .int .i64 (0), .int .i64 (0), .int .i64 (0), .int .i64 (0)] 50)).alloc (.cells #[.int .i64 (1), .int .i64 (0), .int .i64 (0), .int .i64 (1), .int .i64 (0), .int .i64 (0)] 50)) = w0 at *
  have e3 : decide ((3 : Int) < n) = true := decide_eq_true (by omega)
  obtain ⟨_, r0, r1, r2, r3, r4, r5, rf0, rf1, rf2, rf3, rf4, rf5⟩ := (KB.tail.head).six
  have i5 : w.heap.size + 1 ≠ w.heap.size := by omega
  have i6 := Ne.symm i5
  go_wp2
  obtain ⟨_, P0, P1, P2, P3, P4, P5, _⟩ := ((KB.tail.head).self6 (.int .i64 (0)) (.int .i64 (0)) (.int .i64 (0)) (.int .i64 (0)) (.int .i64 (0)) (.int .i64 (0))).six
  have HB := ((((((KB.hb.setCell (p := ⟨w.heap.size, 0, none⟩) (by show _ ≤ w.heap.size; omega) (.int .i64 (0))).setCell (p := ⟨w.heap.size, 1, none⟩) (by show _ ≤ w.heap.size; omega) (.int .i64 (0))).setCell (p := ⟨w.heap.size, 2, none⟩) (by show _ ≤ w.heap.size; omega) (.int .i64 (0))).setCell (p := ⟨w.heap.size, 3, none⟩) (by show _ ≤ w.heap.size; omega) (.int .i64 (0))).setCell (p := ⟨w.heap.size, 4, none⟩) (by show _ ≤ w.heap.size; omega) (.int .i64 (0))).setCell (p := ⟨w.heap.size, 5, none⟩) (by show _ ≤ w.heap.size; omega) (.int .i64 (0)))
  exact bodyPost_ret (v := .tuple #[.agg #[.int .i64 (0), .int .i64 (0), .int .i64 (0), .int .i64 (0), .int .i64 (0), .int .i64 (0)], .int .i64 (3), .int .i64 (12)]) (by simp [results, Tryz.results115, go_sem, P0, P1, P2, P3, P4, P5]) rfl ⟨rfl, HB⟩
set_option maxRecDepth 100000 in
set_option maxHeartbeats 4000000 in
theorem parse_m (g o n c : Nat) (_hn : n ≤ 3) (h0 : 0 < n) (a : ByteArray) (MR : Hid (∀ W, Calls Tryz.prog 149 #[.string a] W (RetV W (.int .i64 0))))  (w : World) (CA : Hid (∀ W, Below w.heap.size w W → W.cell? ⟨g, o, none⟩ = some (.string a))) :
    Calls Tryz.prog 115 #[.slice (some ⟨g, o, none⟩) n c] w (fun o w' => o = .returned (.tuple #[.agg #[.int .i64 (0), .int .i64 (0), .int .i64 (0), .int .i64 (0), .int .i64 (0), .int .i64 (0)], .int .i64 (0), .int .i64 (6)]) ∧ Below w.heap.size w w') := by
  go_enter Tryz.func115, Tryz.ntmps115
  go_upto_region 2 with (fail)
  have KB := (((BK.nil w).more6 (.int .i64 (0)) (.int .i64 (0)) (.int .i64 (0)) (.int .i64 (0)) (.int .i64 (0)) (.int .i64 (0)) 50).more6 (.int .i64 (1)) (.int .i64 (0)) (.int .i64 (0)) (.int .i64 (1)) (.int .i64 (0)) (.int .i64 (0)) 50)
  simp only [World.size_alloc] at KB
  generalize ((w.alloc (.cells #[.int .i64 (0), .int .i64 (0), .int .i64 (0), .int .i64 (0), .int .i64 (0), .int .i64 (0)] 50)).alloc (.cells #[.int .i64 (1), .int .i64 (0), .int .i64 (0), .int .i64 (1), .int .i64 (0), .int .i64 (0)] 50)) = w0 at *
  have e3 : decide ((3 : Int) < n) = false := decide_eq_false (by omega)
  have e0 : decide ((0 : Int) < n) = true := decide_eq_true (by omega)
  obtain ⟨_, j0, j1, j2, j3, j4, j5, jf0, jf1, jf2, jf3, jf4, jf5⟩ := (KB.head).six
  have ca := CA.out _ KB.hb
  go_wp2_with fail
  clear ca j0 j1 j2 j3 j4 j5 jf0 jf1 jf2 jf3 jf4 jf5
  refine (MR.out _).mono ?_
  rintro e w1 ⟨rfl, k⟩
  replace KB := KB.below k
  clear k
  obtain ⟨_, j0, j1, j2, j3, j4, j5, jf0, jf1, jf2, jf3, jf4, jf5⟩ := (KB.head).six
  go_upto_region 6 with (fail)
  clear j0 j1 j2 j3 j4 j5 jf0 jf1 jf2 jf3 jf4 jf5
  have KN : BK w [(w.heap.size + 1, [.int .i64 (0), .int .i64 (0), .int .i64 (0), .int .i64 (1), .int .i64 (0), .int .i64 (0)]), (w.heap.size, [.int .i64 (0), .int .i64 (0), .int .i64 (0), .int .i64 (0), .int .i64 (0), .int .i64 (0)])] (w1.setCell ⟨w.heap.size + 1, 0, none⟩ (.int .i64 (0))) := KB.one 0 (.int .i64 (0)) (KB.head.at 0 _) (by omega) (by intro x hx; simp only [List.mem_cons, List.not_mem_nil, or_false] at hx; rcases hx with rfl <;> (show _ ≠ _; omega))
  clear KB
  generalize w1.setCell ⟨w.heap.size + 1, 0, none⟩ (.int .i64 (0)) = w2 at *
  have KB := KN
  clear KN
  obtain ⟨_, r0, r1, r2, r3, r4, r5, rf0, rf1, rf2, rf3, rf4, rf5⟩ := (KB.tail.head).six
  obtain ⟨_, j0, j1, j2, j3, j4, j5, jf0, jf1, jf2, jf3, jf4, jf5⟩ := (KB.head).six
  have i5 : w.heap.size + 1 ≠ w.heap.size := by omega
  have i6 := Ne.symm i5
  go_wp2
  obtain ⟨_, P0, P1, P2, P3, P4, P5, _⟩ := ((KB.tail.head).self6 (.int .i64 (0)) (.int .i64 (0)) (.int .i64 (0)) (.int .i64 (0)) (.int .i64 (0)) (.int .i64 (0))).six
  have HB := ((((((KB.hb.setCell (p := ⟨w.heap.size, 0, none⟩) (by show _ ≤ w.heap.size; omega) (.int .i64 (0))).setCell (p := ⟨w.heap.size, 1, none⟩) (by show _ ≤ w.heap.size; omega) (.int .i64 (0))).setCell (p := ⟨w.heap.size, 2, none⟩) (by show _ ≤ w.heap.size; omega) (.int .i64 (0))).setCell (p := ⟨w.heap.size, 3, none⟩) (by show _ ≤ w.heap.size; omega) (.int .i64 (0))).setCell (p := ⟨w.heap.size, 4, none⟩) (by show _ ≤ w.heap.size; omega) (.int .i64 (0))).setCell (p := ⟨w.heap.size, 5, none⟩) (by show _ ≤ w.heap.size; omega) (.int .i64 (0)))
  exact bodyPost_ret (v := .tuple #[.agg #[.int .i64 (0), .int .i64 (0), .int .i64 (0), .int .i64 (0), .int .i64 (0), .int .i64 (0)], .int .i64 (0), .int .i64 (6)]) (by simp [results, Tryz.results115, go_sem, P0, P1, P2, P3, P4, P5]) rfl ⟨rfl, HB⟩
set_option maxRecDepth 100000 in
set_option maxHeartbeats 4000000 in
theorem parse_1 (g o n c : Nat) (_hn : n ≤ 3) (h1 : n = 1) (a : ByteArray) (m : Int) (hm : ¬ m = 0) (MR : Hid (∀ W, Calls Tryz.prog 149 #[.string a] W (RetV W (.int .i64 m))))  (w : World) (CA : Hid (∀ W, Below w.heap.size w W → W.cell? ⟨g, o, none⟩ = some (.string a))) :
    Calls Tryz.prog 115 #[.slice (some ⟨g, o, none⟩) n c] w (fun o w' => o = .returned (.tuple #[.agg #[.int .i64 (m), .int .i64 (0), .int .i64 (0), .int .i64 (1), .int .i64 (0), .int .i64 (0)], .int .i64 (0), .int .i64 (0)]) ∧ Below w.heap.size w w') := by
  go_enter Tryz.func115, Tryz.ntmps115
  go_upto_region 2 with (fail)
  have KB := (((BK.nil w).more6 (.int .i64 (0)) (.int .i64 (0)) (.int .i64 (0)) (.int .i64 (0)) (.int .i64 (0)) (.int .i64 (0)) 50).more6 (.int .i64 (1)) (.int .i64 (0)) (.int .i64 (0)) (.int .i64 (1)) (.int .i64 (0)) (.int .i64 (0)) 50)
  simp only [World.size_alloc] at KB
  generalize ((w.alloc (.cells #[.int .i64 (0), .int .i64 (0), .int .i64 (0), .int .i64 (0), .int .i64 (0), .int .i64 (0)] 50)).alloc (.cells #[.int .i64 (1), .int .i64 (0), .int .i64 (0), .int .i64 (1), .int .i64 (0), .int .i64 (0)] 50)) = w0 at *
  have e3 : decide ((3 : Int) < n) = false := decide_eq_false (by omega)
  have e0 : decide ((0 : Int) < n) = true := decide_eq_true (by omega)
  have e1 : decide ((1 : Int) < n) = false := decide_eq_false (by omega)
  have e2 : decide ((2 : Int) < n) = false := decide_eq_false (by omega)
  have fm : (m == 0) = false := beq_eq_false_iff_ne.2 hm
  obtain ⟨_, j0, j1, j2, j3, j4, j5, jf0, jf1, jf2, jf3, jf4, jf5⟩ := (KB.head).six
  have ca := CA.out _ KB.hb
  go_wp2_with fail
  clear ca j0 j1 j2 j3 j4 j5 jf0 jf1 jf2 jf3 jf4 jf5
  refine (MR.out _).mono ?_
  rintro e w1 ⟨rfl, k⟩
  replace KB := KB.below k
  clear k
  obtain ⟨_, j0, j1, j2, j3, j4, j5, jf0, jf1, jf2, jf3, jf4, jf5⟩ := (KB.head).six
  go_upto_region 6 with (fail)
  clear j0 j1 j2 j3 j4 j5 jf0 jf1 jf2 jf3 jf4 jf5
  have KN : BK w [(w.heap.size + 1, [.int .i64 (m), .int .i64 (0), .int .i64 (0), .int .i64 (1), .int .i64 (0), .int .i64 (0)]), (w.heap.size, [.int .i64 (0), .int .i64 (0), .int .i64 (0), .int .i64 (0), .int .i64 (0), .int .i64 (0)])] (w1.setCell ⟨w.heap.size + 1, 0, none⟩ (.int .i64 (m))) := KB.one 0 (.int .i64 (m)) (KB.head.at 0 _) (by omega) (by intro x hx; simp only [List.mem_cons, List.not_mem_nil, or_false] at hx; rcases hx with rfl <;> (show _ ≠ _; omega))
  clear KB
  generalize w1.setCell ⟨w.heap.size + 1, 0, none⟩ (.int .i64 (m)) = w2 at *
  have KB := KN
  clear KN
  obtain ⟨_, r0, r1, r2, r3, r4, r5, rf0, rf1, rf2, rf3, rf4, rf5⟩ := (KB.tail.head).six
  obtain ⟨_, j0, j1, j2, j3, j4, j5, jf0, jf1, jf2, jf3, jf4, jf5⟩ := (KB.head).six
  have i5 : w.heap.size + 1 ≠ w.heap.size := by omega
  have i6 := Ne.symm i5
  go_wp2
  obtain ⟨_, P0, P1, P2, P3, P4, P5, _⟩ := ((KB.tail.head).self6 (.int .i64 (m)) (.int .i64 (0)) (.int .i64 (0)) (.int .i64 (1)) (.int .i64 (0)) (.int .i64 (0))).six
  have HB := ((((((KB.hb.setCell (p := ⟨w.heap.size, 0, none⟩) (by show _ ≤ w.heap.size; omega) (.int .i64 (m))).setCell (p := ⟨w.heap.size, 1, none⟩) (by show _ ≤ w.heap.size; omega) (.int .i64 (0))).setCell (p := ⟨w.heap.size, 2, none⟩) (by show _ ≤ w.heap.size; omega) (.int .i64 (0))).setCell (p := ⟨w.heap.size, 3, none⟩) (by show _ ≤ w.heap.size; omega) (.int .i64 (1))).setCell (p := ⟨w.heap.size, 4, none⟩) (by show _ ≤ w.heap.size; omega) (.int .i64 (0))).setCell (p := ⟨w.heap.size, 5, none⟩) (by show _ ≤ w.heap.size; omega) (.int .i64 (0)))
  exact bodyPost_ret (v := .tuple #[.agg #[.int .i64 (m), .int .i64 (0), .int .i64 (0), .int .i64 (1), .int .i64 (0), .int .i64 (0)], .int .i64 (0), .int .i64 (0)]) (by simp [results, Tryz.results115, go_sem, P0, P1, P2, P3, P4, P5]) rfl ⟨rfl, HB⟩
set_option maxRecDepth 100000 in
set_option maxHeartbeats 4000000 in
theorem parse_d (g o n c : Nat) (_hn : n ≤ 3) (h1 : 1 < n) (a : ByteArray) (m : Int) (hm : ¬ m = 0) (MR : Hid (∀ W, Calls Tryz.prog 149 #[.string a] W (RetV W (.int .i64 m)))) (b : ByteArray) (k1 k2 k3 : Int) (DR : Hid (∀ W, Calls Tryz.prog 150 #[.string b] W (fun o w' => o = .returned (.tuple #[.int .i64 k1, .int .i64 k2, .int .i64 k3, .bool false]) ∧ Below W.heap.size W w')))  (w : World) (CA : Hid (∀ W, Below w.heap.size w W → W.cell? ⟨g, o, none⟩ = some (.string a))) (CB : Hid (∀ W, Below w.heap.size w W → W.cell? ⟨g, o + 1, none⟩ = some (.string b))) :
    Calls Tryz.prog 115 #[.slice (some ⟨g, o, none⟩) n c] w (fun o w' => o = .returned (.tuple #[.agg #[.int .i64 (0), .int .i64 (0), .int .i64 (0), .int .i64 (0), .int .i64 (0), .int .i64 (0)], .int .i64 (1), .int .i64 (6)]) ∧ Below w.heap.size w w') := by
  go_enter Tryz.func115, Tryz.ntmps115
  go_upto_region 2 with (fail)
  have KB := (((BK.nil w).more6 (.int .i64 (0)) (.int .i64 (0)) (.int .i64 (0)) (.int .i64 (0)) (.int .i64 (0)) (.int .i64 (0)) 50).more6 (.int .i64 (1)) (.int .i64 (0)) (.int .i64 (0)) (.int .i64 (1)) (.int .i64 (0)) (.int .i64 (0)) 50)
  simp only [World.size_alloc] at KB
  generalize ((w.alloc (.cells #[.int .i64 (0), .int .i64 (0), .int .i64 (0), .int .i64 (0), .int .i64 (0), .int .i64 (0)] 50)).alloc (.cells #[.int .i64 (1), .int .i64 (0), .int .i64 (0), .int .i64 (1), .int .i64 (0), .int .i64 (0)] 50)) = w0 at *
  have e3 : decide ((3 : Int) < n) = false := decide_eq_false (by omega)
  have e0 : decide ((0 : Int) < n) = true := decide_eq_true (by omega)
  have e1 : decide ((1 : Int) < n) = true := decide_eq_true (by omega)
  have fm : (m == 0) = false := beq_eq_false_iff_ne.2 hm
  obtain ⟨_, j0, j1, j2, j3, j4, j5, jf0, jf1, jf2, jf3, jf4, jf5⟩ := (KB.head).six
  have ca := CA.out _ KB.hb
  go_wp2_with fail
  clear ca j0 j1 j2 j3 j4 j5 jf0 jf1 jf2 jf3 jf4 jf5
  refine (MR.out _).mono ?_
  rintro e w1 ⟨rfl, k⟩
  replace KB := KB.below k
  clear k
  obtain ⟨_, j0, j1, j2, j3, j4, j5, jf0, jf1, jf2, jf3, jf4, jf5⟩ := (KB.head).six
  go_upto_region 6 with (fail)
  clear j0 j1 j2 j3 j4 j5 jf0 jf1 jf2 jf3 jf4 jf5
  have KN : BK w [(w.heap.size + 1, [.int .i64 (m), .int .i64 (0), .int .i64 (0), .int .i64 (1), .int .i64 (0), .int .i64 (0)]), (w.heap.size, [.int .i64 (0), .int .i64 (0), .int .i64 (0), .int .i64 (0), .int .i64 (0), .int .i64 (0)])] (w1.setCell ⟨w.heap.size + 1, 0, none⟩ (.int .i64 (m))) := KB.one 0 (.int .i64 (m)) (KB.head.at 0 _) (by omega) (by intro x hx; simp only [List.mem_cons, List.not_mem_nil, or_false] at hx; rcases hx with rfl <;> (show _ ≠ _; omega))
  clear KB
  generalize w1.setCell ⟨w.heap.size + 1, 0, none⟩ (.int .i64 (m)) = w2 at *
  have KB := KN
  clear KN
  obtain ⟨_, j0, j1, j2, j3, j4, j5, jf0, jf1, jf2, jf3, jf4, jf5⟩ := (KB.head).six
  have ca := CB.out _ KB.hb
  go_wp2_with fail
  clear ca j0 j1 j2 j3 j4 j5 jf0 jf1 jf2 jf3 jf4 jf5
  refine (DR.out _).mono ?_
  rintro e w3 ⟨rfl, k⟩
  replace KB := KB.below k
  clear k
  obtain ⟨_, r0, r1, r2, r3, r4, r5, rf0, rf1, rf2, rf3, rf4, rf5⟩ := (KB.tail.head).six
  have i5 : w.heap.size + 1 ≠ w.heap.size := by omega
  have i6 := Ne.symm i5
  go_wp2
  obtain ⟨_, P0, P1, P2, P3, P4, P5, _⟩ := ((KB.tail.head).self6 (.int .i64 (0)) (.int .i64 (0)) (.int .i64 (0)) (.int .i64 (0)) (.int .i64 (0)) (.int .i64 (0))).six
  have HB := ((((((KB.hb.setCell (p := ⟨w.heap.size, 0, none⟩) (by show _ ≤ w.heap.size; omega) (.int .i64 (0))).setCell (p := ⟨w.heap.size, 1, none⟩) (by show _ ≤ w.heap.size; omega) (.int .i64 (0))).setCell (p := ⟨w.heap.size, 2, none⟩) (by show _ ≤ w.heap.size; omega) (.int .i64 (0))).setCell (p := ⟨w.heap.size, 3, none⟩) (by show _ ≤ w.heap.size; omega) (.int .i64 (0))).setCell (p := ⟨w.heap.size, 4, none⟩) (by show _ ≤ w.heap.size; omega) (.int .i64 (0))).setCell (p := ⟨w.heap.size, 5, none⟩) (by show _ ≤ w.heap.size; omega) (.int .i64 (0)))
  exact bodyPost_ret (v := .tuple #[.agg #[.int .i64 (0), .int .i64 (0), .int .i64 (0), .int .i64 (0), .int .i64 (0), .int .i64 (0)], .int .i64 (1), .int .i64 (6)]) (by simp [results, Tryz.results115, go_sem, P0, P1, P2, P3, P4, P5]) rfl ⟨rfl, HB⟩
set_option maxRecDepth 100000 in
set_option maxHeartbeats 4000000 in
theorem parse_2 (g o n c : Nat) (_hn : n ≤ 3) (h1 : n = 2) (a : ByteArray) (m : Int) (hm : ¬ m = 0) (MR : Hid (∀ W, Calls Tryz.prog 149 #[.string a] W (RetV W (.int .i64 m)))) (b : ByteArray) (k1 k2 k3 : Int) (DR : Hid (∀ W, Calls Tryz.prog 150 #[.string b] W (fun o w' => o = .returned (.tuple #[.int .i64 k1, .int .i64 k2, .int .i64 k3, .bool true]) ∧ Below W.heap.size W w')))  (w : World) (CA : Hid (∀ W, Below w.heap.size w W → W.cell? ⟨g, o, none⟩ = some (.string a))) (CB : Hid (∀ W, Below w.heap.size w W → W.cell? ⟨g, o + 1, none⟩ = some (.string b))) :
    Calls Tryz.prog 115 #[.slice (some ⟨g, o, none⟩) n c] w (fun o w' => o = .returned (.tuple #[.agg #[.int .i64 (m), .int .i64 (k1), .int .i64 (k2), .int .i64 (k3), .int .i64 (0), .int .i64 (0)], .int .i64 (0), .int .i64 (0)]) ∧ Below w.heap.size w w') := by
  go_enter Tryz.func115, Tryz.ntmps115
  go_upto_region 2 with (fail)
  have KB := (((BK.nil w).more6 (.int .i64 (0)) (.int .i64 (0)) (.int .i64 (0)) (.int .i64 (0)) (.int .i64 (0)) (.int .i64 (0)) 50).more6 (.int .i64 (1)) (.int .i64 (0)) (.int .i64 (0)) (.int .i64 (1)) (.int .i64 (0)) (.int .i64 (0)) 50)
  simp only [World.size_alloc] at KB
  generalize ((w.alloc (.cells #[.int .i64 (0), .int .i64 (0), .int .i64 (0), .int .i64 (0), .int .i64 (0), .int .i64 (0)] 50)).alloc (.cells #[.int .i64 (1), .int .i64 (0), .int .i64 (0), .int .i64 (1), .int .i64 (0), .int .i64 (0)] 50)) = w0 at *
  have e3 : decide ((3 : Int) < n) = false := decide_eq_false (by omega)
  have e0 : decide ((0 : Int) < n) = true := decide_eq_true (by omega)
  have e1 : decide ((1 : Int) < n) = true := decide_eq_true (by omega)
  have e2 : decide ((2 : Int) < n) = false := decide_eq_false (by omega)
  have fm : (m == 0) = false := beq_eq_false_iff_ne.2 hm
  obtain ⟨_, j0, j1, j2, j3, j4, j5, jf0, jf1, jf2, jf3, jf4, jf5⟩ := (KB.head).six
  have ca := CA.out _ KB.hb
  go_wp2_with fail
  clear ca j0 j1 j2 j3 j4 j5 jf0 jf1 jf2 jf3 jf4 jf5
  refine (MR.out _).mono ?_
  rintro e w1 ⟨rfl, k⟩
  replace KB := KB.below k
  clear k
  obtain ⟨_, j0, j1, j2, j3, j4, j5, jf0, jf1, jf2, jf3, jf4, jf5⟩ := (KB.head).six
  go_upto_region 6 with (fail)
  clear j0 j1 j2 j3 j4 j5 jf0 jf1 jf2 jf3 jf4 jf5
  have KN : BK w [(w.heap.size + 1, [.int .i64 (m), .int .i64 (0), .int .i64 (0), .int .i64 (1), .int .i64 (0), .int .i64 (0)]), (w.heap.size, [.int .i64 (0), .int .i64 (0), .int .i64 (0), .int .i64 (0), .int .i64 (0), .int .i64 (0)])] (w1.setCell ⟨w.heap.size + 1, 0, none⟩ (.int .i64 (m))) := KB.one 0 (.int .i64 (m)) (KB.head.at 0 _) (by omega) (by intro x hx; simp only [List.mem_cons, List.not_mem_nil, or_false] at hx; rcases hx with rfl <;> (show _ ≠ _; omega))
  clear KB
  generalize w1.setCell ⟨w.heap.size + 1, 0, none⟩ (.int .i64 (m)) = w2 at *
  have KB := KN
  clear KN
  obtain ⟨_, j0, j1, j2, j3, j4, j5, jf0, jf1, jf2, jf3, jf4, jf5⟩ := (KB.head).six
  have ca := CB.out _ KB.hb
  go_wp2_with fail
  clear ca j0 j1 j2 j3 j4 j5 jf0 jf1 jf2 jf3 jf4 jf5
  refine (DR.out _).mono ?_
  rintro e w3 ⟨rfl, k⟩
  replace KB := KB.below k
  clear k
  obtain ⟨_, j0, j1, j2, j3, j4, j5, jf0, jf1, jf2, jf3, jf4, jf5⟩ := (KB.head).six
  go_upto_region 13 with (fail)
  clear j0 j1 j2 j3 j4 j5 jf0 jf1 jf2 jf3 jf4 jf5
  have KN : BK w [(w.heap.size + 1, [.int .i64 (m), .int .i64 (k1), .int .i64 (0), .int .i64 (1), .int .i64 (0), .int .i64 (0)]), (w.heap.size, [.int .i64 (0), .int .i64 (0), .int .i64 (0), .int .i64 (0), .int .i64 (0), .int .i64 (0)])] (w3.setCell ⟨w.heap.size + 1, 1, none⟩ (.int .i64 (k1))) := KB.one 1 (.int .i64 (k1)) (KB.head.at 1 _) (by omega) (by intro x hx; simp only [List.mem_cons, List.not_mem_nil, or_false] at hx; rcases hx with rfl <;> (show _ ≠ _; omega))
  clear KB
  generalize w3.setCell ⟨w.heap.size + 1, 1, none⟩ (.int .i64 (k1)) = w4 at *
  have KB := KN
  clear KN
  obtain ⟨_, j0, j1, j2, j3, j4, j5, jf0, jf1, jf2, jf3, jf4, jf5⟩ := (KB.head).six
  go_upto_region 14 with (fail)
  clear j0 j1 j2 j3 j4 j5 jf0 jf1 jf2 jf3 jf4 jf5
  have KN : BK w [(w.heap.size + 1, [.int .i64 (m), .int .i64 (k1), .int .i64 (k2), .int .i64 (1), .int .i64 (0), .int .i64 (0)]), (w.heap.size, [.int .i64 (0), .int .i64 (0), .int .i64 (0), .int .i64 (0), .int .i64 (0), .int .i64 (0)])] (w4.setCell ⟨w.heap.size + 1, 2, none⟩ (.int .i64 (k2))) := KB.one 2 (.int .i64 (k2)) (KB.head.at 2 _) (by omega) (by intro x hx; simp only [List.mem_cons, List.not_mem_nil, or_false] at hx; rcases hx with rfl <;> (show _ ≠ _; omega))
  clear KB
  generalize w4.setCell ⟨w.heap.size + 1, 2, none⟩ (.int .i64 (k2)) = w5 at *
  have KB := KN
  clear KN
  obtain ⟨_, j0, j1, j2, j3, j4, j5, jf0, jf1, jf2, jf3, jf4, jf5⟩ := (KB.head).six
  go_upto_region 15 with (fail)
  clear j0 j1 j2 j3 j4 j5 jf0 jf1 jf2 jf3 jf4 jf5
  have KN : BK w [(w.heap.size + 1, [.int .i64 (m), .int .i64 (k1), .int .i64 (k2), .int .i64 (k3), .int .i64 (0), .int .i64 (0)]), (w.heap.size, [.int .i64 (0), .int .i64 (0), .int .i64 (0), .int .i64 (0), .int .i64 (0), .int .i64 (0)])] (w5.setCell ⟨w.heap.size + 1, 3, none⟩ (.int .i64 (k3))) := KB.one 3 (.int .i64 (k3)) (KB.head.at 3 _) (by omega) (by intro x hx; simp only [List.mem_cons, List.not_mem_nil, or_false] at hx; rcases hx with rfl <;> (show _ ≠ _; omega))
  clear KB
  generalize w5.setCell ⟨w.heap.size + 1, 3, none⟩ (.int .i64 (k3)) = w6 at *
  have KB := KN
  clear KN
  obtain ⟨_, r0, r1, r2, r3, r4, r5, rf0, rf1, rf2, rf3, rf4, rf5⟩ := (KB.tail.head).six
  obtain ⟨_, j0, j1, j2, j3, j4, j5, jf0, jf1, jf2, jf3, jf4, jf5⟩ := (KB.head).six
  have i5 : w.heap.size + 1 ≠ w.heap.size := by omega
  have i6 := Ne.symm i5
  go_wp2
  obtain ⟨_, P0, P1, P2, P3, P4, P5, _⟩ := ((KB.tail.head).self6 (.int .i64 (m)) (.int .i64 (k1)) (.int .i64 (k2)) (.int .i64 (k3)) (.int .i64 (0)) (.int .i64 (0))).six
  have HB := ((((((KB.hb.setCell (p := ⟨w.heap.size, 0, none⟩) (by show _ ≤ w.heap.size; omega) (.int .i64 (m))).setCell (p := ⟨w.heap.size, 1, none⟩) (by show _ ≤ w.heap.size; omega) (.int .i64 (k1))).setCell (p := ⟨w.heap.size, 2, none⟩) (by show _ ≤ w.heap.size; omega) (.int .i64 (k2))).setCell (p := ⟨w.heap.size, 3, none⟩) (by show _ ≤ w.heap.size; omega) (.int .i64 (k3))).setCell (p := ⟨w.heap.size, 4, none⟩) (by show _ ≤ w.heap.size; omega) (.int .i64 (0))).setCell (p := ⟨w.heap.size, 5, none⟩) (by show _ ≤ w.heap.size; omega) (.int .i64 (0)))
  exact bodyPost_ret (v := .tuple #[.agg #[.int .i64 (m), .int .i64 (k1), .int .i64 (k2), .int .i64 (k3), .int .i64 (0), .int .i64 (0)], .int .i64 (0), .int .i64 (0)]) (by simp [results, Tryz.results115, go_sem, P0, P1, P2, P3, P4, P5]) rfl ⟨rfl, HB⟩
set_option maxRecDepth 100000 in
set_option maxHeartbeats 4000000 in
theorem parse_c (g o n c : Nat) (_hn : n ≤ 3) (h1 : n = 3) (a : ByteArray) (m : Int) (hm : ¬ m = 0) (MR : Hid (∀ W, Calls Tryz.prog 149 #[.string a] W (RetV W (.int .i64 m)))) (b : ByteArray) (k1 k2 k3 : Int) (DR : Hid (∀ W, Calls Tryz.prog 150 #[.string b] W (fun o w' => o = .returned (.tuple #[.int .i64 k1, .int .i64 k2, .int .i64 k3, .bool true]) ∧ Below W.heap.size W w'))) (d : ByteArray) (t r : Int) (CR : Hid (∀ W, Calls Tryz.prog 151 #[.string d] W (fun o w' => o = .returned (.tuple #[.int .i64 t, .int .i64 r, .bool false]) ∧ Below W.heap.size W w')))  (w : World) (CA : Hid (∀ W, Below w.heap.size w W → W.cell? ⟨g, o, none⟩ = some (.string a))) (CB : Hid (∀ W, Below w.heap.size w W → W.cell? ⟨g, o + 1, none⟩ = some (.string b))) (CC : Hid (∀ W, Below w.heap.size w W → W.cell? ⟨g, o + 2, none⟩ = some (.string d))) :
    Calls Tryz.prog 115 #[.slice (some ⟨g, o, none⟩) n c] w (fun o w' => o = .returned (.tuple #[.agg #[.int .i64 (0), .int .i64 (0), .int .i64 (0), .int .i64 (0), .int .i64 (0), .int .i64 (0)], .int .i64 (2), .int .i64 (6)]) ∧ Below w.heap.size w w') := by
  go_enter Tryz.func115, Tryz.ntmps115
  go_upto_region 2 with (fail)
  have KB := (((BK.nil w).more6 (.int .i64 (0)) (.int .i64 (0)) (.int .i64 (0)) (.int .i64 (0)) (.int .i64 (0)) (.int .i64 (0)) 50).more6 (.int .i64 (1)) (.int .i64 (0)) (.int .i64 (0)) (.int .i64 (1)) (.int .i64 (0)) (.int .i64 (0)) 50)
  simp only [World.size_alloc] at KB
  generalize ((w.alloc (.cells #[.int .i64 (0), .int .i64 (0), .int .i64 (0), .int .i64 (0), .int .i64 (0), .int .i64 (0)] 50)).alloc (.cells #[.int .i64 (1), .int .i64 (0), .int .i64 (0), .int .i64 (1), .int .i64 (0), .int .i64 (0)] 50)) = w0 at *
  have e3 : decide ((3 : Int) < n) = false := decide_eq_false (by omega)
  have e0 : decide ((0 : Int) < n) = true := decide_eq_true (by omega)
  have e1 : decide ((1 : Int) < n) = true := decide_eq_true (by omega)
  have e2 : decide ((2 : Int) < n) = true := decide_eq_true (by omega)
  have fm : (m == 0) = false := beq_eq_false_iff_ne.2 hm
  obtain ⟨_, j0, j1, j2, j3, j4, j5, jf0, jf1, jf2, jf3, jf4, jf5⟩ := (KB.head).six
  have ca := CA.out _ KB.hb
  go_wp2_with fail
  clear ca j0 j1 j2 j3 j4 j5 jf0 jf1 jf2 jf3 jf4 jf5
  refine (MR.out _).mono ?_
  rintro e w1 ⟨rfl, k⟩
  replace KB := KB.below k
  clear k
  obtain ⟨_, j0, j1, j2, j3, j4, j5, jf0, jf1, jf2, jf3, jf4, jf5⟩ := (KB.head).six
  go_upto_region 6 with (fail)
  clear j0 j1 j2 j3 j4 j5 jf0 jf1 jf2 jf3 jf4 jf5
  have KN : BK w [(w.heap.size + 1, [.int .i64 (m), .int .i64 (0), .int .i64 (0), .int .i64 (1), .int .i64 (0), .int .i64 (0)]), (w.heap.size, [.int .i64 (0), .int .i64 (0), .int .i64 (0), .int .i64 (0), .int .i64 (0), .int .i64 (0)])] (w1.setCell ⟨w.heap.size + 1, 0, none⟩ (.int .i64 (m))) := KB.one 0 (.int .i64 (m)) (KB.head.at 0 _) (by omega) (by intro x hx; simp only [List.mem_cons, List.not_mem_nil, or_false] at hx; rcases hx with rfl <;> (show _ ≠ _; omega))
  clear KB
  generalize w1.setCell ⟨w.heap.size + 1, 0, none⟩ (.int .i64 (m)) = w2 at *
  have KB := KN
  clear KN
  obtain ⟨_, j0, j1, j2, j3, j4, j5, jf0, jf1, jf2, jf3, jf4, jf5⟩ := (KB.head).six
  have ca := CB.out _ KB.hb
  go_wp2_with fail
  clear ca j0 j1 j2 j3 j4 j5 jf0 jf1 jf2 jf3 jf4 jf5
  refine (DR.out _).mono ?_
  rintro e w3 ⟨rfl, k⟩
  replace KB := KB.below k
  clear k
  obtain ⟨_, j0, j1, j2, j3, j4, j5, jf0, jf1, jf2, jf3, jf4, jf5⟩ := (KB.head).six
  go_upto_region 13 with (fail)
  clear j0 j1 j2 j3 j4 j5 jf0 jf1 jf2 jf3 jf4 jf5
  have KN : BK w [(w.heap.size + 1, [.int .i64 (m), .int .i64 (k1), .int .i64 (0), .int .i64 (1), .int .i64 (0), .int .i64 (0)]), (w.heap.size, [.int .i64 (0), .int .i64 (0), .int .i64 (0), .int .i64 (0), .int .i64 (0), .int .i64 (0)])] (w3.setCell ⟨w.heap.size + 1, 1, none⟩ (.int .i64 (k1))) := KB.one 1 (.int .i64 (k1)) (KB.head.at 1 _) (by omega) (by intro x hx; simp only [List.mem_cons, List.not_mem_nil, or_false] at hx; rcases hx with rfl <;> (show _ ≠ _; omega))
  clear KB
  generalize w3.setCell ⟨w.heap.size + 1, 1, none⟩ (.int .i64 (k1)) = w4 at *
  have KB := KN
  clear KN
  obtain ⟨_, j0, j1, j2, j3, j4, j5, jf0, jf1, jf2, jf3, jf4, jf5⟩ := (KB.head).six
  go_upto_region 14 with (fail)
  clear j0 j1 j2 j3 j4 j5 jf0 jf1 jf2 jf3 jf4 jf5
  have KN : BK w [(w.heap.size + 1, [.int .i64 (m), .int .i64 (k1), .int .i64 (k2), .int .i64 (1), .int .i64 (0), .int .i64 (0)]), (w.heap.size, [.int .i64 (0), .int .i64 (0), .int .i64 (0), .int .i64 (0), .int .i64 (0), .int .i64 (0)])] (w4.setCell ⟨w.heap.size + 1, 2, none⟩ (.int .i64 (k2))) := KB.one 2 (.int .i64 (k2)) (KB.head.at 2 _) (by omega) (by intro x hx; simp only [List.mem_cons, List.not_mem_nil, or_false] at hx; rcases hx with rfl <;> (show _ ≠ _; omega))
  clear KB
  generalize w4.setCell ⟨w.heap.size + 1, 2, none⟩ (.int .i64 (k2)) = w5 at *
  have KB := KN
  clear KN
  obtain ⟨_, j0, j1, j2, j3, j4, j5, jf0, jf1, jf2, jf3, jf4, jf5⟩ := (KB.head).six
  go_upto_region 15 with (fail)
  clear j0 j1 j2 j3 j4 j5 jf0 jf1 jf2 jf3 jf4 jf5
  have KN : BK w [(w.heap.size + 1, [.int .i64 (m), .int .i64 (k1), .int .i64 (k2), .int .i64 (k3), .int .i64 (0), .int .i64 (0)]), (w.heap.size, [.int .i64 (0), .int .i64 (0), .int .i64 (0), .int .i64 (0), .int .i64 (0), .int .i64 (0)])] (w5.setCell ⟨w.heap.size + 1, 3, none⟩ (.int .i64 (k3))) := KB.one 3 (.int .i64 (k3)) (KB.head.at 3 _) (by omega) (by intro x hx; simp only [List.mem_cons, List.not_mem_nil, or_false] at hx; rcases hx with rfl <;> (show _ ≠ _; omega))
  clear KB
  generalize w5.setCell ⟨w.heap.size + 1, 3, none⟩ (.int .i64 (k3)) = w6 at *
  have KB := KN
  clear KN
  obtain ⟨_, j0, j1, j2, j3, j4, j5, jf0, jf1, jf2, jf3, jf4, jf5⟩ := (KB.head).six
  have ca := CC.out _ KB.hb
  go_wp2_with fail
  clear ca j0 j1 j2 j3 j4 j5 jf0 jf1 jf2 jf3 jf4 jf5
  refine (CR.out _).mono ?_
  rintro e w7 ⟨rfl, k⟩
  replace KB := KB.below k
  clear k
  obtain ⟨_, r0, r1, r2, r3, r4, r5, rf0, rf1, rf2, rf3, rf4, rf5⟩ := (KB.tail.head).six
  have i5 : w.heap.size + 1 ≠ w.heap.size := by omega
  have i6 := Ne.symm i5
  go_wp2
  obtain ⟨_, P0, P1, P2, P3, P4, P5, _⟩ := ((KB.tail.head).self6 (.int .i64 (0)) (.int .i64 (0)) (.int .i64 (0)) (.int .i64 (0)) (.int .i64 (0)) (.int .i64 (0))).six
  have HB := ((((((KB.hb.setCell (p := ⟨w.heap.size, 0, none⟩) (by show _ ≤ w.heap.size; omega) (.int .i64 (0))).setCell (p := ⟨w.heap.size, 1, none⟩) (by show _ ≤ w.heap.size; omega) (.int .i64 (0))).setCell (p := ⟨w.heap.size, 2, none⟩) (by show _ ≤ w.heap.size; omega) (.int .i64 (0))).setCell (p := ⟨w.heap.size, 3, none⟩) (by show _ ≤ w.heap.size; omega) (.int .i64 (0))).setCell (p := ⟨w.heap.size, 4, none⟩) (by show _ ≤ w.heap.size; omega) (.int .i64 (0))).setCell (p := ⟨w.heap.size, 5, none⟩) (by show _ ≤ w.heap.size; omega) (.int .i64 (0)))
  exact bodyPost_ret (v := .tuple #[.agg #[.int .i64 (0), .int .i64 (0), .int .i64 (0), .int .i64 (0), .int .i64 (0), .int .i64 (0)], .int .i64 (2), .int .i64 (6)]) (by simp [results, Tryz.results115, go_sem, P0, P1, P2, P3, P4, P5]) rfl ⟨rfl, HB⟩
set_option maxRecDepth 100000 in
set_option maxHeartbeats 4000000 in
theorem parse_3 (g o n c : Nat) (_hn : n ≤ 3) (h1 : n = 3) (a : ByteArray) (m : Int) (hm : ¬ m = 0) (MR : Hid (∀ W, Calls Tryz.prog 149 #[.string a] W (RetV W (.int .i64 m)))) (b : ByteArray) (k1 k2 k3 : Int) (DR : Hid (∀ W, Calls Tryz.prog 150 #[.string b] W (fun o w' => o = .returned (.tuple #[.int .i64 k1, .int .i64 k2, .int .i64 k3, .bool true]) ∧ Below W.heap.size W w'))) (d : ByteArray) (t r : Int) (CR : Hid (∀ W, Calls Tryz.prog 151 #[.string d] W (fun o w' => o = .returned (.tuple #[.int .i64 t, .int .i64 r, .bool true]) ∧ Below W.heap.size W w')))  (w : World) (CA : Hid (∀ W, Below w.heap.size w W → W.cell? ⟨g, o, none⟩ = some (.string a))) (CB : Hid (∀ W, Below w.heap.size w W → W.cell? ⟨g, o + 1, none⟩ = some (.string b))) (CC : Hid (∀ W, Below w.heap.size w W → W.cell? ⟨g, o + 2, none⟩ = some (.string d))) :
    Calls Tryz.prog 115 #[.slice (some ⟨g, o, none⟩) n c] w (fun o w' => o = .returned (.tuple #[.agg #[.int .i64 (m), .int .i64 (k1), .int .i64 (k2), .int .i64 (k3), .int .i64 (t), .int .i64 (r)], .int .i64 (0), .int .i64 (0)]) ∧ Below w.heap.size w w') := by
  go_enter Tryz.func115, Tryz.ntmps115
  go_upto_region 2 with (fail)
  have KB := (((BK.nil w).more6 (.int .i64 (0)) (.int .i64 (0)) (.int .i64 (0)) (.int .i64 (0)) (.int .i64 (0)) (.int .i64 (0)) 50).more6 (.int .i64 (1)) (.int .i64 (0)) (.int .i64 (0)) (.int .i64 (1)) (.int .i64 (0)) (.int .i64 (0)) 50)
  simp only [World.size_alloc] at KB
  generalize ((w.alloc (.cells #[.int .i64 (0), .int .i64 (0), .int .i64 (0), .int .i64 (0), .int .i64 (0), .int .i64 (0)] 50)).alloc (.cells #[.int .i64 (1), .int .i64 (0), .int .i64 (0), .int .i64 (1), .int .i64 (0), .int .i64 (0)] 50)) = w0 at *
  have e3 : decide ((3 : Int) < n) = false := decide_eq_false (by omega)
  have e0 : decide ((0 : Int) < n) = true := decide_eq_true (by omega)
  have e1 : decide ((1 : Int) < n) = true := decide_eq_true (by omega)
  have e2 : decide ((2 : Int) < n) = true := decide_eq_true (by omega)
  have fm : (m == 0) = false := beq_eq_false_iff_ne.2 hm
  obtain ⟨_, j0, j1, j2, j3, j4, j5, jf0, jf1, jf2, jf3, jf4, jf5⟩ := (KB.head).six
  have ca := CA.out _ KB.hb
  go_wp2_with fail
  clear ca j0 j1 j2 j3 j4 j5 jf0 jf1 jf2 jf3 jf4 jf5
  refine (MR.out _).mono ?_
  rintro e w1 ⟨rfl, k⟩
  replace KB := KB.below k
  clear k
  obtain ⟨_, j0, j1, j2, j3, j4, j5, jf0, jf1, jf2, jf3, jf4, jf5⟩ := (KB.head).six
  go_upto_region 6 with (fail)
  clear j0 j1 j2 j3 j4 j5 jf0 jf1 jf2 jf3 jf4 jf5
  have KN : BK w [(w.heap.size + 1, [.int .i64 (m), .int .i64 (0), .int .i64 (0), .int .i64 (1), .int .i64 (0), .int .i64 (0)]), (w.heap.size, [.int .i64 (0), .int .i64 (0), .int .i64 (0), .int .i64 (0), .int .i64 (0), .int .i64 (0)])] (w1.setCell ⟨w.heap.size + 1, 0, none⟩ (.int .i64 (m))) := KB.one 0 (.int .i64 (m)) (KB.head.at 0 _) (by omega) (by intro x hx; simp only [List.mem_cons, List.not_mem_nil, or_false] at hx; rcases hx with rfl <;> (show _ ≠ _; omega))
  clear KB
  generalize w1.setCell ⟨w.heap.size + 1, 0, none⟩ (.int .i64 (m)) = w2 at *
  have KB := KN
  clear KN
  obtain ⟨_, j0, j1, j2, j3, j4, j5, jf0, jf1, jf2, jf3, jf4, jf5⟩ := (KB.head).six
  have ca := CB.out _ KB.hb
  go_wp2_with fail
  clear ca j0 j1 j2 j3 j4 j5 jf0 jf1 jf2 jf3 jf4 jf5
  refine (DR.out _).mono ?_
  rintro e w3 ⟨rfl, k⟩
  replace KB := KB.below k
  clear k
  obtain ⟨_, j0, j1, j2, j3, j4, j5, jf0, jf1, jf2, jf3, jf4, jf5⟩ := (KB.head).six
  go_upto_region 13 with (fail)
  clear j0 j1 j2 j3 j4 j5 jf0 jf1 jf2 jf3 jf4 jf5
  have KN : BK w [(w.heap.size + 1, [.int .i64 (m), .int .i64 (k1), .int .i64 (0), .int .i64 (1), .int .i64 (0), .int .i64 (0)]), (w.heap.size, [.int .i64 (0), .int .i64 (0), .int .i64 (0), .int .i64 (0), .int .i64 (0), .int .i64 (0)])] (w3.setCell ⟨w.heap.size + 1, 1, none⟩ (.int .i64 (k1))) := KB.one 1 (.int .i64 (k1)) (KB.head.at 1 _) (by omega) (by intro x hx; simp only [List.mem_cons, List.not_mem_nil, or_false] at hx; rcases hx with rfl <;> (show _ ≠ _; omega))
  clear KB
  generalize w3.setCell ⟨w.heap.size + 1, 1, none⟩ (.int .i64 (k1)) = w4 at *
  have KB := KN
  clear KN
  obtain ⟨_, j0, j1, j2, j3, j4, j5, jf0, jf1, jf2, jf3, jf4, jf5⟩ := (KB.head).six
  go_upto_region 14 with (fail)
  clear j0 j1 j2 j3 j4 j5 jf0 jf1 jf2 jf3 jf4 jf5
  have KN : BK w [(w.heap.size + 1, [.int .i64 (m), .int .i64 (k1), .int .i64 (k2), .int .i64 (1), .int .i64 (0), .int .i64 (0)]), (w.heap.size, [.int .i64 (0), .int .i64 (0), .int .i64 (0), .int .i64 (0), .int .i64 (0), .int .i64 (0)])] (w4.setCell ⟨w.heap.size + 1, 2, none⟩ (.int .i64 (k2))) := KB.one 2 (.int .i64 (k2)) (KB.head.at 2 _) (by omega) (by intro x hx; simp only [List.mem_cons, List.not_mem_nil, or_false] at hx; rcases hx with rfl <;> (show _ ≠ _; omega))
  clear KB
  generalize w4.setCell ⟨w.heap.size + 1, 2, none⟩ (.int .i64 (k2)) = w5 at *
  have KB := KN
  clear KN
  obtain ⟨_, j0, j1, j2, j3, j4, j5, jf0, jf1, jf2, jf3, jf4, jf5⟩ := (KB.head).six
  go_upto_region 15 with (fail)
  clear j0 j1 j2 j3 j4 j5 jf0 jf1 jf2 jf3 jf4 jf5
  have KN : BK w [(w.heap.size + 1, [.int .i64 (m), .int .i64 (k1), .int .i64 (k2), .int .i64 (k3), .int .i64 (0), .int .i64 (0)]), (w.heap.size, [.int .i64 (0), .int .i64 (0), .int .i64 (0), .int .i64 (0), .int .i64 (0), .int .i64 (0)])] (w5.setCell ⟨w.heap.size + 1, 3, none⟩ (.int .i64 (k3))) := KB.one 3 (.int .i64 (k3)) (KB.head.at 3 _) (by omega) (by intro x hx; simp only [List.mem_cons, List.not_mem_nil, or_false] at hx; rcases hx with rfl <;> (show _ ≠ _; omega))
  clear KB
  generalize w5.setCell ⟨w.heap.size + 1, 3, none⟩ (.int .i64 (k3)) = w6 at *
  have KB := KN
  clear KN
  obtain ⟨_, j0, j1, j2, j3, j4, j5, jf0, jf1, jf2, jf3, jf4, jf5⟩ := (KB.head).six
  have ca := CC.out _ KB.hb
  go_wp2_with fail
  clear ca j0 j1 j2 j3 j4 j5 jf0 jf1 jf2 jf3 jf4 jf5
  refine (CR.out _).mono ?_
  rintro e w7 ⟨rfl, k⟩
  replace KB := KB.below k
  clear k
  obtain ⟨_, j0, j1, j2, j3, j4, j5, jf0, jf1, jf2, jf3, jf4, jf5⟩ := (KB.head).six
  go_upto_region 20 with (fail)
  clear j0 j1 j2 j3 j4 j5 jf0 jf1 jf2 jf3 jf4 jf5
  have KN : BK w [(w.heap.size + 1, [.int .i64 (m), .int .i64 (k1), .int .i64 (k2), .int .i64 (k3), .int .i64 (t), .int .i64 (0)]), (w.heap.size, [.int .i64 (0), .int .i64 (0), .int .i64 (0), .int .i64 (0), .int .i64 (0), .int .i64 (0)])] (w7.setCell ⟨w.heap.size + 1, 4, none⟩ (.int .i64 (t))) := KB.one 4 (.int .i64 (t)) (KB.head.at 4 _) (by omega) (by intro x hx; simp only [List.mem_cons, List.not_mem_nil, or_false] at hx; rcases hx with rfl <;> (show _ ≠ _; omega))
  clear KB
  generalize w7.setCell ⟨w.heap.size + 1, 4, none⟩ (.int .i64 (t)) = w8 at *
  have KB := KN
  clear KN
  obtain ⟨_, j0, j1, j2, j3, j4, j5, jf0, jf1, jf2, jf3, jf4, jf5⟩ := (KB.head).six
  go_upto_region 21 with (fail)
  clear j0 j1 j2 j3 j4 j5 jf0 jf1 jf2 jf3 jf4 jf5
  have KN : BK w [(w.heap.size + 1, [.int .i64 (m), .int .i64 (k1), .int .i64 (k2), .int .i64 (k3), .int .i64 (t), .int .i64 (r)]), (w.heap.size, [.int .i64 (0), .int .i64 (0), .int .i64 (0), .int .i64 (0), .int .i64 (0), .int .i64 (0)])] (w8.setCell ⟨w.heap.size + 1, 5, none⟩ (.int .i64 (r))) := KB.one 5 (.int .i64 (r)) (KB.head.at 5 _) (by omega) (by intro x hx; simp only [List.mem_cons, List.not_mem_nil, or_false] at hx; rcases hx with rfl <;> (show _ ≠ _; omega))
  clear KB
  generalize w8.setCell ⟨w.heap.size + 1, 5, none⟩ (.int .i64 (r)) = w9 at *
  have KB := KN
  clear KN
  obtain ⟨_, r0, r1, r2, r3, r4, r5, rf0, rf1, rf2, rf3, rf4, rf5⟩ := (KB.tail.head).six
  obtain ⟨_, j0, j1, j2, j3, j4, j5, jf0, jf1, jf2, jf3, jf4, jf5⟩ := (KB.head).six
  have i5 : w.heap.size + 1 ≠ w.heap.size := by omega
  have i6 := Ne.symm i5
  go_wp2
  obtain ⟨_, P0, P1, P2, P3, P4, P5, _⟩ := ((KB.tail.head).self6 (.int .i64 (m)) (.int .i64 (k1)) (.int .i64 (k2)) (.int .i64 (k3)) (.int .i64 (t)) (.int .i64 (r))).six
  have HB := ((((((KB.hb.setCell (p := ⟨w.heap.size, 0, none⟩) (by show _ ≤ w.heap.size; omega) (.int .i64 (m))).setCell (p := ⟨w.heap.size, 1, none⟩) (by show _ ≤ w.heap.size; omega) (.int .i64 (k1))).setCell (p := ⟨w.heap.size, 2, none⟩) (by show _ ≤ w.heap.size; omega) (.int .i64 (k2))).setCell (p := ⟨w.heap.size, 3, none⟩) (by show _ ≤ w.heap.size; omega) (.int .i64 (k3))).setCell (p := ⟨w.heap.size, 4, none⟩) (by show _ ≤ w.heap.size; omega) (.int .i64 (t))).setCell (p := ⟨w.heap.size, 5, none⟩) (by show _ ≤ w.heap.size; omega) (.int .i64 (r)))
  exact bodyPost_ret (v := .tuple #[.agg #[.int .i64 (m), .int .i64 (k1), .int .i64 (k2), .int .i64 (k3), .int .i64 (t), .int .i64 (r)], .int .i64 (0), .int .i64 (0)]) (by simp [results, Tryz.results115, go_sem, P0, P1, P2, P3, P4, P5]) rfl ⟨rfl, HB⟩
end Go.Proofs.YtnkmlfbnfndfpaaGreatDoor
