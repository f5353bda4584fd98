import Derived.Test.YtallclimljiplaaGreatDoorZGtd
import Derived.Test.YtallclimljiplaaGreatDoorZGhe
import Derived.BigQuiet
import Derived.Deep.RegionHeld3
set_option maxRecDepth 100000
set_option maxHeartbeats 64000000
namespace Go.Proofs.YtallclimljiplaaGreatDoor
open Go.RowKit
theorem le_g {Q : World → Prop} (MO : Hid (∀ (w W : World), Q w → Below w.heap.size w W → Q W)) (AL : Hid (∀ W, Q W → Calls Tryz.prog 9 #[] W (RetV W (.bool true)))) (w : World) (LQ : Q w) (A B C : Option Addr) (n c m d q e : Nat) (z : Int) (i : Int) (GR : Hid (∀ W, Below w.heap.size w W → Calls Tryz.prog 12 #[.agg #[.slice A n c, .slice B m d, .slice C q e]] W (RetV W (.bool true)))) : Calls Tryz.prog 4 #[.agg #[.slice A n c, .slice B m d, .slice C q e], .int .i64 z, .int .i64 i] w (RetV w (.bool true)) := by
  go_enter Tryz.func4, Tryz.ntmps4
  go_upto_region 1 with (fail)
  have KB := (BK.nil w).lit [.slice A n c, .slice B m d, .slice C q e] 29
  rw [show ([.slice A n c, .slice B m d, .slice C q e] : List Value).toArray = #[.slice A n c, .slice B m d, .slice C q e] from rfl] at KB
  generalize w.alloc (.cells #[.slice A n c, .slice B m d, .slice C q e] 29) = W at *
  obtain ⟨_, x0, x1, x2, _⟩ := (KB.head).three
  go_wp2_with (first | (go_at_call 12; refine (GR.out _ KB.hb).mono ?_; rintro e9 W9 ⟨rfl, hk⟩; replace KB := KB.below hk; clear hk; clear x0 x1 x2 ; obtain ⟨_, x0, x1, x2, _⟩ := (KB.head).three) | (go_at_call 9; refine (AL.out _ (MO.out _ _ LQ KB.hb)).mono ?_; rintro e9 W9 ⟨rfl, hk⟩; replace KB := KB.below hk; clear hk; clear x0 x1 x2 ; obtain ⟨_, x0, x1, x2, _⟩ := (KB.head).three))
  go_ret
  exact ⟨rfl, KB.hb⟩
theorem le_1 {Q : World → Prop} (MO : Hid (∀ (w W : World), Q w → Below w.heap.size w W → Q W)) (AL : Hid (∀ W, Q W → Calls Tryz.prog 9 #[] W (RetV W (.bool true)))) (w : World) (LQ : Q w) (A B C : Option Addr) (n c m d q e : Nat) (z : Int) (i : Int)   (GR : Hid (∀ W, Below w.heap.size w W → Calls Tryz.prog 12 #[.agg #[.slice A n c, .slice B m d, .slice C q e]] W (RetV W (.bool false)))) (PR : Hid (∀ W, Below w.heap.size w W → Q W → Calls Tryz.prog 13 #[.agg #[.slice A n c, .slice B m d, .slice C q e], .int .i64 z, .int .i64 i] W (fun e w' => e = .returned (.tuple #[.int .i64 0, .bool false]) ∧ Below W.heap.size W w'))) (RG : Hid (∀ W, Below w.heap.size w W → Calls Tryz.prog 14 #[.agg #[.slice A n c, .slice B m d, .slice C q e]] W (RetV W (.bool false)))) : Calls Tryz.prog 4 #[.agg #[.slice A n c, .slice B m d, .slice C q e], .int .i64 z, .int .i64 i] w (RetV w (.bool true)) := by
  go_enter Tryz.func4, Tryz.ntmps4
  go_upto_region 1 with (fail)
  have KB := (BK.nil w).lit [.slice A n c, .slice B m d, .slice C q e] 29
  rw [show ([.slice A n c, .slice B m d, .slice C q e] : List Value).toArray = #[.slice A n c, .slice B m d, .slice C q e] from rfl] at KB
  generalize w.alloc (.cells #[.slice A n c, .slice B m d, .slice C q e] 29) = W at *
  obtain ⟨_, x0, x1, x2, _⟩ := (KB.head).three
  go_wp2_with (first | (go_at_call 12; refine (GR.out _ KB.hb).mono ?_; rintro e9 W9 ⟨rfl, hk⟩; replace KB := KB.below hk; clear hk; clear x0 x1 x2 ; obtain ⟨_, x0, x1, x2, _⟩ := (KB.head).three) | (go_at_call 13; refine (PR.out _ KB.hb (MO.out _ _ LQ KB.hb)).mono ?_; rintro e9 W9 ⟨rfl, hk⟩; replace KB := KB.below hk; clear hk; clear x0 x1 x2 ; obtain ⟨_, x0, x1, x2, _⟩ := (KB.head).three) | (go_at_call 14; refine (RG.out _ KB.hb).mono ?_; rintro e9 W9 ⟨rfl, hk⟩; replace KB := KB.below hk; clear hk; clear x0 x1 x2 ; obtain ⟨_, x0, x1, x2, _⟩ := (KB.head).three) | (go_at_call 9; refine (AL.out _ (MO.out _ _ LQ KB.hb)).mono ?_; rintro e9 W9 ⟨rfl, hk⟩; replace KB := KB.below hk; clear hk; clear x0 x1 x2 ; obtain ⟨_, x0, x1, x2, _⟩ := (KB.head).three))
  go_ret
  exact ⟨rfl, KB.hb⟩
theorem le_2 {Q : World → Prop} (MO : Hid (∀ (w W : World), Q w → Below w.heap.size w W → Q W)) (AL : Hid (∀ W, Q W → Calls Tryz.prog 9 #[] W (RetV W (.bool true)))) (w : World) (LQ : Q w) (A B C : Option Addr) (n c m d q e : Nat) (z : Int) (i : Int) (d0 : decide (z < 0) = true)  (GR : Hid (∀ W, Below w.heap.size w W → Calls Tryz.prog 12 #[.agg #[.slice A n c, .slice B m d, .slice C q e]] W (RetV W (.bool false)))) (PR : Hid (∀ W, Below w.heap.size w W → Q W → Calls Tryz.prog 13 #[.agg #[.slice A n c, .slice B m d, .slice C q e], .int .i64 z, .int .i64 i] W (fun e w' => e = .returned (.tuple #[.int .i64 0, .bool false]) ∧ Below W.heap.size W w'))) (RG : Hid (∀ W, Below w.heap.size w W → Calls Tryz.prog 14 #[.agg #[.slice A n c, .slice B m d, .slice C q e]] W (RetV W (.bool true)))) : Calls Tryz.prog 4 #[.agg #[.slice A n c, .slice B m d, .slice C q e], .int .i64 z, .int .i64 i] w (RetV w (.bool true)) := by
  go_enter Tryz.func4, Tryz.ntmps4
  go_upto_region 1 with (fail)
  have KB := (BK.nil w).lit [.slice A n c, .slice B m d, .slice C q e] 29
  rw [show ([.slice A n c, .slice B m d, .slice C q e] : List Value).toArray = #[.slice A n c, .slice B m d, .slice C q e] from rfl] at KB
  generalize w.alloc (.cells #[.slice A n c, .slice B m d, .slice C q e] 29) = W at *
  obtain ⟨_, x0, x1, x2, _⟩ := (KB.head).three
  go_wp2_with (first | (go_at_call 12; refine (GR.out _ KB.hb).mono ?_; rintro e9 W9 ⟨rfl, hk⟩; replace KB := KB.below hk; clear hk; clear x0 x1 x2 ; obtain ⟨_, x0, x1, x2, _⟩ := (KB.head).three) | (go_at_call 13; refine (PR.out _ KB.hb (MO.out _ _ LQ KB.hb)).mono ?_; rintro e9 W9 ⟨rfl, hk⟩; replace KB := KB.below hk; clear hk; clear x0 x1 x2 ; obtain ⟨_, x0, x1, x2, _⟩ := (KB.head).three) | (go_at_call 14; refine (RG.out _ KB.hb).mono ?_; rintro e9 W9 ⟨rfl, hk⟩; replace KB := KB.below hk; clear hk; clear x0 x1 x2 ; obtain ⟨_, x0, x1, x2, _⟩ := (KB.head).three) | (go_at_call 9; refine (AL.out _ (MO.out _ _ LQ KB.hb)).mono ?_; rintro e9 W9 ⟨rfl, hk⟩; replace KB := KB.below hk; clear hk; clear x0 x1 x2 ; obtain ⟨_, x0, x1, x2, _⟩ := (KB.head).three))
  go_ret
  exact ⟨rfl, KB.hb⟩
theorem le_3 {Q : World → Prop} (MO : Hid (∀ (w W : World), Q w → Below w.heap.size w W → Q W)) (AL : Hid (∀ W, Q W → Calls Tryz.prog 9 #[] W (RetV W (.bool true)))) (w : World) (LQ : Q w) (A B C : Option Addr) (n c m d q e : Nat) (z : Int) (i : Int) (d0 : decide (z < 0) = false) (d1 : decide (z ≥ (m : Int)) = true)  (GR : Hid (∀ W, Below w.heap.size w W → Calls Tryz.prog 12 #[.agg #[.slice A n c, .slice B m d, .slice C q e]] W (RetV W (.bool false)))) (PR : Hid (∀ W, Below w.heap.size w W → Q W → Calls Tryz.prog 13 #[.agg #[.slice A n c, .slice B m d, .slice C q e], .int .i64 z, .int .i64 i] W (fun e w' => e = .returned (.tuple #[.int .i64 0, .bool false]) ∧ Below W.heap.size W w'))) (RG : Hid (∀ W, Below w.heap.size w W → Calls Tryz.prog 14 #[.agg #[.slice A n c, .slice B m d, .slice C q e]] W (RetV W (.bool true)))) : Calls Tryz.prog 4 #[.agg #[.slice A n c, .slice B m d, .slice C q e], .int .i64 z, .int .i64 i] w (RetV w (.bool true)) := by
  go_enter Tryz.func4, Tryz.ntmps4
  go_upto_region 1 with (fail)
  have KB := (BK.nil w).lit [.slice A n c, .slice B m d, .slice C q e] 29
  rw [show ([.slice A n c, .slice B m d, .slice C q e] : List Value).toArray = #[.slice A n c, .slice B m d, .slice C q e] from rfl] at KB
  generalize w.alloc (.cells #[.slice A n c, .slice B m d, .slice C q e] 29) = W at *
  obtain ⟨_, x0, x1, x2, _⟩ := (KB.head).three
  go_wp2_with (first | (go_at_call 12; refine (GR.out _ KB.hb).mono ?_; rintro e9 W9 ⟨rfl, hk⟩; replace KB := KB.below hk; clear hk; clear x0 x1 x2 ; obtain ⟨_, x0, x1, x2, _⟩ := (KB.head).three) | (go_at_call 13; refine (PR.out _ KB.hb (MO.out _ _ LQ KB.hb)).mono ?_; rintro e9 W9 ⟨rfl, hk⟩; replace KB := KB.below hk; clear hk; clear x0 x1 x2 ; obtain ⟨_, x0, x1, x2, _⟩ := (KB.head).three) | (go_at_call 14; refine (RG.out _ KB.hb).mono ?_; rintro e9 W9 ⟨rfl, hk⟩; replace KB := KB.below hk; clear hk; clear x0 x1 x2 ; obtain ⟨_, x0, x1, x2, _⟩ := (KB.head).three) | (go_at_call 9; refine (AL.out _ (MO.out _ _ LQ KB.hb)).mono ?_; rintro e9 W9 ⟨rfl, hk⟩; replace KB := KB.below hk; clear hk; clear x0 x1 x2 ; obtain ⟨_, x0, x1, x2, _⟩ := (KB.head).three))
  go_ret
  exact ⟨rfl, KB.hb⟩
theorem le_4 {Q : World → Prop} (MO : Hid (∀ (w W : World), Q w → Below w.heap.size w W → Q W)) (AL : Hid (∀ W, Q W → Calls Tryz.prog 9 #[] W (RetV W (.bool true)))) (w : World) (LQ : Q w) (A B C : Option Addr) (n c m d q e : Nat) (z : Int) (i : Int) (d0 : decide (z < 0) = false) (d1 : decide (z ≥ (m : Int)) = false) (d2 : decide (i < 0) = true)  (GR : Hid (∀ W, Below w.heap.size w W → Calls Tryz.prog 12 #[.agg #[.slice A n c, .slice B m d, .slice C q e]] W (RetV W (.bool false)))) (PR : Hid (∀ W, Below w.heap.size w W → Q W → Calls Tryz.prog 13 #[.agg #[.slice A n c, .slice B m d, .slice C q e], .int .i64 z, .int .i64 i] W (fun e w' => e = .returned (.tuple #[.int .i64 0, .bool false]) ∧ Below W.heap.size W w'))) (RG : Hid (∀ W, Below w.heap.size w W → Calls Tryz.prog 14 #[.agg #[.slice A n c, .slice B m d, .slice C q e]] W (RetV W (.bool true)))) : Calls Tryz.prog 4 #[.agg #[.slice A n c, .slice B m d, .slice C q e], .int .i64 z, .int .i64 i] w (RetV w (.bool true)) := by
  go_enter Tryz.func4, Tryz.ntmps4
  go_upto_region 1 with (fail)
  have KB := (BK.nil w).lit [.slice A n c, .slice B m d, .slice C q e] 29
  rw [show ([.slice A n c, .slice B m d, .slice C q e] : List Value).toArray = #[.slice A n c, .slice B m d, .slice C q e] from rfl] at KB
  generalize w.alloc (.cells #[.slice A n c, .slice B m d, .slice C q e] 29) = W at *
  obtain ⟨_, x0, x1, x2, _⟩ := (KB.head).three
  go_wp2_with (first | (go_at_call 12; refine (GR.out _ KB.hb).mono ?_; rintro e9 W9 ⟨rfl, hk⟩; replace KB := KB.below hk; clear hk; clear x0 x1 x2 ; obtain ⟨_, x0, x1, x2, _⟩ := (KB.head).three) | (go_at_call 13; refine (PR.out _ KB.hb (MO.out _ _ LQ KB.hb)).mono ?_; rintro e9 W9 ⟨rfl, hk⟩; replace KB := KB.below hk; clear hk; clear x0 x1 x2 ; obtain ⟨_, x0, x1, x2, _⟩ := (KB.head).three) | (go_at_call 14; refine (RG.out _ KB.hb).mono ?_; rintro e9 W9 ⟨rfl, hk⟩; replace KB := KB.below hk; clear hk; clear x0 x1 x2 ; obtain ⟨_, x0, x1, x2, _⟩ := (KB.head).three) | (go_at_call 9; refine (AL.out _ (MO.out _ _ LQ KB.hb)).mono ?_; rintro e9 W9 ⟨rfl, hk⟩; replace KB := KB.below hk; clear hk; clear x0 x1 x2 ; obtain ⟨_, x0, x1, x2, _⟩ := (KB.head).three))
  go_ret
  exact ⟨rfl, KB.hb⟩
theorem le_5 {Q : World → Prop} (MO : Hid (∀ (w W : World), Q w → Below w.heap.size w W → Q W)) (AL : Hid (∀ W, Q W → Calls Tryz.prog 9 #[] W (RetV W (.bool true)))) (w : World) (LQ : Q w) (g o : Nat) (A C : Option Addr) (n c m d q e : Nat) (z : Nat) (i : Int) (hz : z < m) (_hm : m ≤ d) (hd : d ≤ maxLen) (hg : g < w.heap.size) (Z : Option Addr) (u cu : Nat) (_hu : u ≤ cu) (hcu : cu ≤ maxLen) (Y1 : Hid (w.cell? ⟨g, o + z * 2 + 1, none⟩ = some (.slice (Z) u cu))) (d2 : decide (i < 0) = false) (d3 : decide (i ≥ (u : Int)) = true)  (GR : Hid (∀ W, Below w.heap.size w W → Calls Tryz.prog 12 #[.agg #[.slice A n c, .slice (some ⟨g, o, none⟩) m d, .slice C q e]] W (RetV W (.bool false)))) (PR : Hid (∀ W, Below w.heap.size w W → Q W → Calls Tryz.prog 13 #[.agg #[.slice A n c, .slice (some ⟨g, o, none⟩) m d, .slice C q e], .int .i64 (z : Int), .int .i64 i] W (fun e w' => e = .returned (.tuple #[.int .i64 0, .bool false]) ∧ Below W.heap.size W w'))) (RG : Hid (∀ W, Below w.heap.size w W → Calls Tryz.prog 14 #[.agg #[.slice A n c, .slice (some ⟨g, o, none⟩) m d, .slice C q e]] W (RetV W (.bool true)))) : Calls Tryz.prog 4 #[.agg #[.slice A n c, .slice (some ⟨g, o, none⟩) m d, .slice C q e], .int .i64 (z : Int), .int .i64 i] w (RetV w (.bool true)) := by
  have dm : d ≤ 9223372036854775807 := hd
  have um : cu ≤ 9223372036854775807 := hcu
  have d0 : decide ((z : Int) < 0) = false := decide_eq_false (by omega)
  have d1 : decide ((z : Int) ≥ (m : Int)) = false := decide_eq_false (by omega)
  go_enter Tryz.func4, Tryz.ntmps4
  go_upto_region 1 with (fail)
  have KB := (BK.nil w).lit [.slice A n c, .slice (some ⟨g, o, none⟩) m d, .slice C q e] 29
  rw [show ([.slice A n c, .slice (some ⟨g, o, none⟩) m d, .slice C q e] : List Value).toArray = #[.slice A n c, .slice (some ⟨g, o, none⟩) m d, .slice C q e] from rfl] at KB
  generalize w.alloc (.cells #[.slice A n c, .slice (some ⟨g, o, none⟩) m d, .slice C q e] 29) = W at *
  obtain ⟨_, x0, x1, x2, _⟩ := (KB.head).three
  have y1 := (KB.hb.cell (p := ⟨g, o + z * 2 + 1, none⟩) hg).trans Y1.out
  go_wp2_with (first | (go_at_call 12; refine (GR.out _ KB.hb).mono ?_; rintro e9 W9 ⟨rfl, hk⟩; replace KB := KB.below hk; clear hk; clear x0 x1 x2 y1; obtain ⟨_, x0, x1, x2, _⟩ := (KB.head).three; have y1 := (KB.hb.cell (p := ⟨g, o + z * 2 + 1, none⟩) hg).trans Y1.out) | (go_at_call 13; refine (PR.out _ KB.hb (MO.out _ _ LQ KB.hb)).mono ?_; rintro e9 W9 ⟨rfl, hk⟩; replace KB := KB.below hk; clear hk; clear x0 x1 x2 y1; obtain ⟨_, x0, x1, x2, _⟩ := (KB.head).three; have y1 := (KB.hb.cell (p := ⟨g, o + z * 2 + 1, none⟩) hg).trans Y1.out) | (go_at_call 14; refine (RG.out _ KB.hb).mono ?_; rintro e9 W9 ⟨rfl, hk⟩; replace KB := KB.below hk; clear hk; clear x0 x1 x2 y1; obtain ⟨_, x0, x1, x2, _⟩ := (KB.head).three; have y1 := (KB.hb.cell (p := ⟨g, o + z * 2 + 1, none⟩) hg).trans Y1.out) | (go_at_call 9; refine (AL.out _ (MO.out _ _ LQ KB.hb)).mono ?_; rintro e9 W9 ⟨rfl, hk⟩; replace KB := KB.below hk; clear hk; clear x0 x1 x2 y1; obtain ⟨_, x0, x1, x2, _⟩ := (KB.head).three; have y1 := (KB.hb.cell (p := ⟨g, o + z * 2 + 1, none⟩) hg).trans Y1.out))
  go_ret
  exact ⟨rfl, KB.hb⟩
theorem le_6 {Q : World → Prop} (MO : Hid (∀ (w W : World), Q w → Below w.heap.size w W → Q W)) (AL : Hid (∀ W, Q W → Calls Tryz.prog 9 #[] W (RetV W (.bool true)))) (w : World) (LQ : Q w) (g o : Nat) (A C : Option Addr) (n c m d q e : Nat) (z : Nat) (i : Nat) (hz : z < m) (_hm : m ≤ d) (hd : d ≤ maxLen) (hg : g < w.heap.size) (g2 o2 : Nat) (u cu : Nat) (_hu : u ≤ cu) (hcu : cu ≤ maxLen) (Y1 : Hid (w.cell? ⟨g, o + z * 2 + 1, none⟩ = some (.slice (some ⟨g2, o2, none⟩) u cu))) (hi : i < u) (hg2 : g2 < w.heap.size) (E5 : Hid (w.cell? ⟨g2, o2 + i * 13 + 5, none⟩ = some (.bool false))) (GR : Hid (∀ W, Below w.heap.size w W → Calls Tryz.prog 12 #[.agg #[.slice A n c, .slice (some ⟨g, o, none⟩) m d, .slice C q e]] W (RetV W (.bool false)))) (PR : Hid (∀ W, Below w.heap.size w W → Q W → Calls Tryz.prog 13 #[.agg #[.slice A n c, .slice (some ⟨g, o, none⟩) m d, .slice C q e], .int .i64 (z : Int), .int .i64 (i : Int)] W (fun e w' => e = .returned (.tuple #[.int .i64 0, .bool false]) ∧ Below W.heap.size W w'))) (RG : Hid (∀ W, Below w.heap.size w W → Calls Tryz.prog 14 #[.agg #[.slice A n c, .slice (some ⟨g, o, none⟩) m d, .slice C q e]] W (RetV W (.bool true)))) : Calls Tryz.prog 4 #[.agg #[.slice A n c, .slice (some ⟨g, o, none⟩) m d, .slice C q e], .int .i64 (z : Int), .int .i64 (i : Int)] w (RetV w (.bool true)) := by
  have dm : d ≤ 9223372036854775807 := hd
  have um : cu ≤ 9223372036854775807 := hcu
  have d0 : decide ((z : Int) < 0) = false := decide_eq_false (by omega)
  have d1 : decide ((z : Int) ≥ (m : Int)) = false := decide_eq_false (by omega)
  have d2 : decide ((i : Int) < 0) = false := decide_eq_false (by omega)
  have d3 : decide ((i : Int) ≥ (u : Int)) = false := decide_eq_false (by omega)
  go_enter Tryz.func4, Tryz.ntmps4
  go_upto_region 1 with (fail)
  have KB := (BK.nil w).lit [.slice A n c, .slice (some ⟨g, o, none⟩) m d, .slice C q e] 29
  rw [show ([.slice A n c, .slice (some ⟨g, o, none⟩) m d, .slice C q e] : List Value).toArray = #[.slice A n c, .slice (some ⟨g, o, none⟩) m d, .slice C q e] from rfl] at KB
  generalize w.alloc (.cells #[.slice A n c, .slice (some ⟨g, o, none⟩) m d, .slice C q e] 29) = W at *
  obtain ⟨_, x0, x1, x2, _⟩ := (KB.head).three
  have y1 := (KB.hb.cell (p := ⟨g, o + z * 2 + 1, none⟩) hg).trans Y1.out
  have z5 := (KB.hb.cell (p := ⟨g2, o2 + i * 13 + 5, none⟩) hg2).trans E5.out
  go_wp2_with (first | (go_at_call 12; refine (GR.out _ KB.hb).mono ?_; rintro e9 W9 ⟨rfl, hk⟩; replace KB := KB.below hk; clear hk; clear x0 x1 x2 y1 z5; obtain ⟨_, x0, x1, x2, _⟩ := (KB.head).three; have y1 := (KB.hb.cell (p := ⟨g, o + z * 2 + 1, none⟩) hg).trans Y1.out; have z5 := (KB.hb.cell (p := ⟨g2, o2 + i * 13 + 5, none⟩) hg2).trans E5.out) | (go_at_call 13; refine (PR.out _ KB.hb (MO.out _ _ LQ KB.hb)).mono ?_; rintro e9 W9 ⟨rfl, hk⟩; replace KB := KB.below hk; clear hk; clear x0 x1 x2 y1 z5; obtain ⟨_, x0, x1, x2, _⟩ := (KB.head).three; have y1 := (KB.hb.cell (p := ⟨g, o + z * 2 + 1, none⟩) hg).trans Y1.out; have z5 := (KB.hb.cell (p := ⟨g2, o2 + i * 13 + 5, none⟩) hg2).trans E5.out) | (go_at_call 14; refine (RG.out _ KB.hb).mono ?_; rintro e9 W9 ⟨rfl, hk⟩; replace KB := KB.below hk; clear hk; clear x0 x1 x2 y1 z5; obtain ⟨_, x0, x1, x2, _⟩ := (KB.head).three; have y1 := (KB.hb.cell (p := ⟨g, o + z * 2 + 1, none⟩) hg).trans Y1.out; have z5 := (KB.hb.cell (p := ⟨g2, o2 + i * 13 + 5, none⟩) hg2).trans E5.out) | (go_at_call 9; refine (AL.out _ (MO.out _ _ LQ KB.hb)).mono ?_; rintro e9 W9 ⟨rfl, hk⟩; replace KB := KB.below hk; clear hk; clear x0 x1 x2 y1 z5; obtain ⟨_, x0, x1, x2, _⟩ := (KB.head).three; have y1 := (KB.hb.cell (p := ⟨g, o + z * 2 + 1, none⟩) hg).trans Y1.out; have z5 := (KB.hb.cell (p := ⟨g2, o2 + i * 13 + 5, none⟩) hg2).trans E5.out))
  go_ret
  exact ⟨rfl, KB.hb⟩
theorem le_y {Q : World → Prop} (MO : Hid (∀ (w W : World), Q w → Below w.heap.size w W → Q W)) (AL : Hid (∀ W, Q W → Calls Tryz.prog 9 #[] W (RetV W (.bool true)))) (w : World) (LQ : Q w) (g o : Nat) (A C : Option Addr) (n c m d q e : Nat) (z : Nat) (i : Nat) (off kind sav : Int) (rs fmt : ByteArray) (yr mo ki wd da ti re : Int) (en : Int) (hz : z < m) (_hm : m ≤ d) (hd : d ≤ maxLen) (hg : g < w.heap.size) (g2 o2 : Nat) (u cu : Nat) (_hu : u ≤ cu) (hcu : cu ≤ maxLen) (Y1 : Hid (w.cell? ⟨g, o + z * 2 + 1, none⟩ = some (.slice (some ⟨g2, o2, none⟩) u cu))) (hi : i < u) (hg2 : g2 < w.heap.size) (E0 : Hid (w.cell? ⟨g2, o2 + i * 13, none⟩ = some (.int .i64 off))) (E1 : Hid (w.cell? ⟨g2, o2 + i * 13 + 1, none⟩ = some (.int .i64 kind))) (E2 : Hid (w.cell? ⟨g2, o2 + i * 13 + 2, none⟩ = some (.int .i64 sav))) (E3 : Hid (w.cell? ⟨g2, o2 + i * 13 + 3, none⟩ = some (.string rs))) (E4 : Hid (w.cell? ⟨g2, o2 + i * 13 + 4, none⟩ = some (.string fmt))) (E5 : Hid (w.cell? ⟨g2, o2 + i * 13 + 5, none⟩ = some (.bool true))) (E6 : Hid (w.cell? ⟨g2, o2 + i * 13 + 6, none⟩ = some (.int .i64 yr))) (E7 : Hid (w.cell? ⟨g2, o2 + i * 13 + 7, none⟩ = some (.int .i64 mo))) (E8 : Hid (w.cell? ⟨g2, o2 + i * 13 + 8, none⟩ = some (.int .i64 ki))) (E9 : Hid (w.cell? ⟨g2, o2 + i * 13 + 9, none⟩ = some (.int .i64 wd))) (E10 : Hid (w.cell? ⟨g2, o2 + i * 13 + 10, none⟩ = some (.int .i64 da))) (E11 : Hid (w.cell? ⟨g2, o2 + i * 13 + 11, none⟩ = some (.int .i64 ti))) (E12 : Hid (w.cell? ⟨g2, o2 + i * 13 + 12, none⟩ = some (.int .i64 re))) (GR : Hid (∀ W, Below w.heap.size w W → Calls Tryz.prog 12 #[.agg #[.slice A n c, .slice (some ⟨g, o, none⟩) m d, .slice C q e]] W (RetV W (.bool false)))) (PR : Hid (∀ W, Below w.heap.size w W → Q W → Calls Tryz.prog 13 #[.agg #[.slice A n c, .slice (some ⟨g, o, none⟩) m d, .slice C q e], .int .i64 (z : Int), .int .i64 (i : Int)] W (fun e w' => e = .returned (.tuple #[.int .i64 en, .bool true]) ∧ Below W.heap.size W w'))) (RG : Hid (∀ W, Below w.heap.size w W → Calls Tryz.prog 14 #[.agg #[.slice A n c, .slice (some ⟨g, o, none⟩) m d, .slice C q e]] W (RetV W (.bool true)))) (DC : Hid (∀ W, Below w.heap.size w W → Calls Tryz.prog 15 #[.agg #[.slice A n c, .slice (some ⟨g, o, none⟩) m d, .slice C q e], .agg #[.int .i64 off, .int .i64 kind, .int .i64 sav, .string rs, .string fmt, .bool true, .int .i64 yr, .int .i64 mo, .int .i64 ki, .int .i64 wd, .int .i64 da, .int .i64 ti, .int .i64 re]] W (RetV W (.int .i64 en)))) : Calls Tryz.prog 4 #[.agg #[.slice A n c, .slice (some ⟨g, o, none⟩) m d, .slice C q e], .int .i64 (z : Int), .int .i64 (i : Int)] w (RetV w (.bool true)) := by
  have dm : d ≤ 9223372036854775807 := hd
  have um : cu ≤ 9223372036854775807 := hcu
  have d0 : decide ((z : Int) < 0) = false := decide_eq_false (by omega)
  have d1 : decide ((z : Int) ≥ (m : Int)) = false := decide_eq_false (by omega)
  have d2 : decide ((i : Int) < 0) = false := decide_eq_false (by omega)
  have d3 : decide ((i : Int) ≥ (u : Int)) = false := decide_eq_false (by omega)
  go_enter Tryz.func4, Tryz.ntmps4
  go_upto_region 1 with (fail)
  have KB := (BK.nil w).lit [.slice A n c, .slice (some ⟨g, o, none⟩) m d, .slice C q e] 29
  rw [show ([.slice A n c, .slice (some ⟨g, o, none⟩) m d, .slice C q e] : List Value).toArray = #[.slice A n c, .slice (some ⟨g, o, none⟩) m d, .slice C q e] from rfl] at KB
  generalize w.alloc (.cells #[.slice A n c, .slice (some ⟨g, o, none⟩) m d, .slice C q e] 29) = W at *
  obtain ⟨_, x0, x1, x2, _⟩ := (KB.head).three
  have y1 := (KB.hb.cell (p := ⟨g, o + z * 2 + 1, none⟩) hg).trans Y1.out
  have z5 := (KB.hb.cell (p := ⟨g2, o2 + i * 13 + 5, none⟩) hg2).trans E5.out
  go_wp2_with (first | (go_at_call 12; refine (GR.out _ KB.hb).mono ?_; rintro e9 W9 ⟨rfl, hk⟩; replace KB := KB.below hk; clear hk; clear x0 x1 x2 y1 z5; obtain ⟨_, x0, x1, x2, _⟩ := (KB.head).three; have y1 := (KB.hb.cell (p := ⟨g, o + z * 2 + 1, none⟩) hg).trans Y1.out; have z5 := (KB.hb.cell (p := ⟨g2, o2 + i * 13 + 5, none⟩) hg2).trans E5.out) | (go_at_call 13; refine (PR.out _ KB.hb (MO.out _ _ LQ KB.hb)).mono ?_; rintro e9 W9 ⟨rfl, hk⟩; replace KB := KB.below hk; clear hk; clear x0 x1 x2 y1 z5; obtain ⟨_, x0, x1, x2, _⟩ := (KB.head).three; have y1 := (KB.hb.cell (p := ⟨g, o + z * 2 + 1, none⟩) hg).trans Y1.out; have z5 := (KB.hb.cell (p := ⟨g2, o2 + i * 13 + 5, none⟩) hg2).trans E5.out) | (go_at_call 14; refine (RG.out _ KB.hb).mono ?_; rintro e9 W9 ⟨rfl, hk⟩; replace KB := KB.below hk; clear hk; clear x0 x1 x2 y1 z5; obtain ⟨_, x0, x1, x2, _⟩ := (KB.head).three; have y1 := (KB.hb.cell (p := ⟨g, o + z * 2 + 1, none⟩) hg).trans Y1.out; have z5 := (KB.hb.cell (p := ⟨g2, o2 + i * 13 + 5, none⟩) hg2).trans E5.out))
  clear y1 z5
  have r0 := (KB.hb.cell (p := ⟨g, o + z * 2 + 1, none⟩) hg).trans Y1.out
  have r1 := (KB.hb.cell (p := ⟨g2, o2 + i * 13, none⟩) hg2).trans E0.out
  have r2 := (KB.hb.cell (p := ⟨g2, o2 + i * 13 + 1, none⟩) hg2).trans E1.out
  have r3 := (KB.hb.cell (p := ⟨g2, o2 + i * 13 + 2, none⟩) hg2).trans E2.out
  have r4 := (KB.hb.cell (p := ⟨g2, o2 + i * 13 + 3, none⟩) hg2).trans E3.out
  have r5 := (KB.hb.cell (p := ⟨g2, o2 + i * 13 + 4, none⟩) hg2).trans E4.out
  have r6 := (KB.hb.cell (p := ⟨g2, o2 + i * 13 + 5, none⟩) hg2).trans E5.out
  have r7 := (KB.hb.cell (p := ⟨g2, o2 + i * 13 + 6, none⟩) hg2).trans E6.out
  have r8 := (KB.hb.cell (p := ⟨g2, o2 + i * 13 + 7, none⟩) hg2).trans E7.out
  have r9 := (KB.hb.cell (p := ⟨g2, o2 + i * 13 + 8, none⟩) hg2).trans E8.out
  have r10 := (KB.hb.cell (p := ⟨g2, o2 + i * 13 + 9, none⟩) hg2).trans E9.out
  have r11 := (KB.hb.cell (p := ⟨g2, o2 + i * 13 + 10, none⟩) hg2).trans E10.out
  have r12 := (KB.hb.cell (p := ⟨g2, o2 + i * 13 + 11, none⟩) hg2).trans E11.out
  have r13 := (KB.hb.cell (p := ⟨g2, o2 + i * 13 + 12, none⟩) hg2).trans E12.out
  go_region_held3 (fun w' => w'.cell? ⟨w.heap.size, 0, none⟩ = some (.slice A n c) ∧ w'.cell? ⟨w.heap.size, 1, none⟩ = some (.slice (some ⟨g, o, none⟩) m d) ∧ w'.cell? ⟨w.heap.size, 2, none⟩ = some (.slice C q e) ∧ w'.cell? ⟨g, o + z * 2 + 1, none⟩ = some (.slice (some ⟨g2, o2, none⟩) u cu) ∧ w'.cell? ⟨g2, o2 + i * 13, none⟩ = some (.int .i64 off) ∧ w'.cell? ⟨g2, o2 + i * 13 + 1, none⟩ = some (.int .i64 kind) ∧ w'.cell? ⟨g2, o2 + i * 13 + 2, none⟩ = some (.int .i64 sav) ∧ w'.cell? ⟨g2, o2 + i * 13 + 3, none⟩ = some (.string rs) ∧ w'.cell? ⟨g2, o2 + i * 13 + 4, none⟩ = some (.string fmt) ∧ w'.cell? ⟨g2, o2 + i * 13 + 5, none⟩ = some (.bool true) ∧ w'.cell? ⟨g2, o2 + i * 13 + 6, none⟩ = some (.int .i64 yr) ∧ w'.cell? ⟨g2, o2 + i * 13 + 7, none⟩ = some (.int .i64 mo) ∧ w'.cell? ⟨g2, o2 + i * 13 + 8, none⟩ = some (.int .i64 ki) ∧ w'.cell? ⟨g2, o2 + i * 13 + 9, none⟩ = some (.int .i64 wd) ∧ w'.cell? ⟨g2, o2 + i * 13 + 10, none⟩ = some (.int .i64 da) ∧ w'.cell? ⟨g2, o2 + i * 13 + 11, none⟩ = some (.int .i64 ti) ∧ w'.cell? ⟨g2, o2 + i * 13 + 12, none⟩ = some (.int .i64 re)) (first | (with_reducible exact ⟨(KB.head).three.2.1, (KB.head).three.2.2.1, (KB.head).three.2.2.2.1, (KB.hb.cell (p := ⟨g, o + z * 2 + 1, none⟩) hg).trans Y1.out, (KB.hb.cell (p := ⟨g2, o2 + i * 13, none⟩) hg2).trans E0.out, (KB.hb.cell (p := ⟨g2, o2 + i * 13 + 1, none⟩) hg2).trans E1.out, (KB.hb.cell (p := ⟨g2, o2 + i * 13 + 2, none⟩) hg2).trans E2.out, (KB.hb.cell (p := ⟨g2, o2 + i * 13 + 3, none⟩) hg2).trans E3.out, (KB.hb.cell (p := ⟨g2, o2 + i * 13 + 4, none⟩) hg2).trans E4.out, (KB.hb.cell (p := ⟨g2, o2 + i * 13 + 5, none⟩) hg2).trans E5.out, (KB.hb.cell (p := ⟨g2, o2 + i * 13 + 6, none⟩) hg2).trans E6.out, (KB.hb.cell (p := ⟨g2, o2 + i * 13 + 7, none⟩) hg2).trans E7.out, (KB.hb.cell (p := ⟨g2, o2 + i * 13 + 8, none⟩) hg2).trans E8.out, (KB.hb.cell (p := ⟨g2, o2 + i * 13 + 9, none⟩) hg2).trans E9.out, (KB.hb.cell (p := ⟨g2, o2 + i * 13 + 10, none⟩) hg2).trans E10.out, (KB.hb.cell (p := ⟨g2, o2 + i * 13 + 11, none⟩) hg2).trans E11.out, (KB.hb.cell (p := ⟨g2, o2 + i * 13 + 12, none⟩) hg2).trans E12.out⟩) | (with_reducible exact ⟨(KB.drew.head).three.2.1, (KB.drew.head).three.2.2.1, (KB.drew.head).three.2.2.2.1, (KB.drew.hb.cell (p := ⟨g, o + z * 2 + 1, none⟩) hg).trans Y1.out, (KB.drew.hb.cell (p := ⟨g2, o2 + i * 13, none⟩) hg2).trans E0.out, (KB.drew.hb.cell (p := ⟨g2, o2 + i * 13 + 1, none⟩) hg2).trans E1.out, (KB.drew.hb.cell (p := ⟨g2, o2 + i * 13 + 2, none⟩) hg2).trans E2.out, (KB.drew.hb.cell (p := ⟨g2, o2 + i * 13 + 3, none⟩) hg2).trans E3.out, (KB.drew.hb.cell (p := ⟨g2, o2 + i * 13 + 4, none⟩) hg2).trans E4.out, (KB.drew.hb.cell (p := ⟨g2, o2 + i * 13 + 5, none⟩) hg2).trans E5.out, (KB.drew.hb.cell (p := ⟨g2, o2 + i * 13 + 6, none⟩) hg2).trans E6.out, (KB.drew.hb.cell (p := ⟨g2, o2 + i * 13 + 7, none⟩) hg2).trans E7.out, (KB.drew.hb.cell (p := ⟨g2, o2 + i * 13 + 8, none⟩) hg2).trans E8.out, (KB.drew.hb.cell (p := ⟨g2, o2 + i * 13 + 9, none⟩) hg2).trans E9.out, (KB.drew.hb.cell (p := ⟨g2, o2 + i * 13 + 10, none⟩) hg2).trans E10.out, (KB.drew.hb.cell (p := ⟨g2, o2 + i * 13 + 11, none⟩) hg2).trans E11.out, (KB.drew.hb.cell (p := ⟨g2, o2 + i * 13 + 12, none⟩) hg2).trans E12.out⟩) | go_keep)
    (first
      | (go_at_call 9; (with_reducible first | refine (AL.out _ (MO.out _ _ LQ KB.hb)).mono ?_ | refine (AL.out _ (MO.out _ _ LQ KB.drew.hb)).mono ?_); rintro e9 W10 ⟨rfl, hk⟩; (with_reducible first | replace KB := KB.below hk | replace KB := KB.drew.below hk); clear hk)
      | (go_at_call 15; (with_reducible first | refine (DC.out _ KB.hb).mono ?_ | refine (DC.out _ KB.drew.hb).mono ?_); rintro e9 W11 ⟨rfl, hk⟩; (with_reducible first | replace KB := KB.below hk | replace KB := KB.drew.below hk); clear hk))
  all_goals
    go_wp2
    go_ret
    exact ⟨rfl, by first | exact KB.hb | exact KB.drew.hb⟩
theorem lp_g {Q : World → Prop} (MO : Hid (∀ (w W : World), Q w → Below w.heap.size w W → Q W)) (AL : Hid (∀ W, Q W → Calls Tryz.prog 9 #[] W (RetV W (.bool true)))) (w : World) (LQ : Q w) (A B C : Option Addr) (n c m d q e : Nat) (z : Int) (i : Int) (T : Int) (GR : Hid (∀ W, Below w.heap.size w W → Calls Tryz.prog 12 #[.agg #[.slice A n c, .slice B m d, .slice C q e]] W (RetV W (.bool true)))) : Calls Tryz.prog 5 #[.agg #[.slice A n c, .slice B m d, .slice C q e], .int .i64 z, .int .i64 i, .int .i64 T] w (RetV w (.bool true)) := by
  go_enter Tryz.func5, Tryz.ntmps5
  go_upto_region 1 with (fail)
  have KB := (BK.nil w).lit [.slice A n c, .slice B m d, .slice C q e] 29
  rw [show ([.slice A n c, .slice B m d, .slice C q e] : List Value).toArray = #[.slice A n c, .slice B m d, .slice C q e] from rfl] at KB
  generalize w.alloc (.cells #[.slice A n c, .slice B m d, .slice C q e] 29) = W at *
  obtain ⟨_, x0, x1, x2, _⟩ := (KB.head).three
  go_wp2_with (first | (go_at_call 12; refine (GR.out _ KB.hb).mono ?_; rintro e9 W9 ⟨rfl, hk⟩; replace KB := KB.below hk; clear hk; clear x0 x1 x2 ; obtain ⟨_, x0, x1, x2, _⟩ := (KB.head).three) | (go_at_call 9; refine (AL.out _ (MO.out _ _ LQ KB.hb)).mono ?_; rintro e9 W9 ⟨rfl, hk⟩; replace KB := KB.below hk; clear hk; clear x0 x1 x2 ; obtain ⟨_, x0, x1, x2, _⟩ := (KB.head).three))
  go_ret
  exact ⟨rfl, KB.hb⟩
theorem lp_1 {Q : World → Prop} (MO : Hid (∀ (w W : World), Q w → Below w.heap.size w W → Q W)) (AL : Hid (∀ W, Q W → Calls Tryz.prog 9 #[] W (RetV W (.bool true)))) (w : World) (LQ : Q w) (A B C : Option Addr) (n c m d q e : Nat) (z : Int) (i : Int) (T : Int)   (GR : Hid (∀ W, Below w.heap.size w W → Calls Tryz.prog 12 #[.agg #[.slice A n c, .slice B m d, .slice C q e]] W (RetV W (.bool false)))) (PR : Hid (∀ W, Below w.heap.size w W → Q W → Calls Tryz.prog 16 #[.agg #[.slice A n c, .slice B m d, .slice C q e], .int .i64 z, .int .i64 i, .int .i64 T] W (fun e w' => e = .returned (.tuple #[.agg #[.int .i64 0, .int .i64 0, .string ⟨#[]⟩], .bool false]) ∧ Below W.heap.size W w'))) (RG : Hid (∀ W, Below w.heap.size w W → Calls Tryz.prog 14 #[.agg #[.slice A n c, .slice B m d, .slice C q e]] W (RetV W (.bool false)))) : Calls Tryz.prog 5 #[.agg #[.slice A n c, .slice B m d, .slice C q e], .int .i64 z, .int .i64 i, .int .i64 T] w (RetV w (.bool true)) := by
  go_enter Tryz.func5, Tryz.ntmps5
  go_upto_region 1 with (fail)
  have KB := (BK.nil w).lit [.slice A n c, .slice B m d, .slice C q e] 29
  rw [show ([.slice A n c, .slice B m d, .slice C q e] : List Value).toArray = #[.slice A n c, .slice B m d, .slice C q e] from rfl] at KB
  generalize w.alloc (.cells #[.slice A n c, .slice B m d, .slice C q e] 29) = W at *
  obtain ⟨_, x0, x1, x2, _⟩ := (KB.head).three
  have s1 : ((⟨#[]⟩ : ByteArray) == ⟨#[]⟩) = true := by decide
  go_upto_region 4 with (first | (go_at_call 12; refine (GR.out _ KB.hb).mono ?_; rintro e9 W9 ⟨rfl, hk⟩; replace KB := KB.below hk; clear hk; clear x0 x1 x2 ; obtain ⟨_, x0, x1, x2, _⟩ := (KB.head).three) | (go_at_call 16; refine (PR.out _ KB.hb (MO.out _ _ LQ KB.hb)).mono ?_; rintro e9 W8 ⟨rfl, hk⟩; replace KB := KB.below hk; clear hk x0 x1 x2 ))
  replace KB := KB.lit [.int .i64 0, .int .i64 0, .string ⟨#[]⟩] 43
  rw [show ([.int .i64 0, .int .i64 0, .string ⟨#[]⟩] : List Value).toArray = #[.int .i64 0, .int .i64 0, .string ⟨#[]⟩] from rfl] at KB
  generalize W8.alloc (.cells #[.int .i64 0, .int .i64 0, .string ⟨#[]⟩] 43) = W7 at *
  generalize W8.heap.size = qq at *
  obtain ⟨_, x0, x1, x2, _⟩ := (KB.tail.head).three
  obtain ⟨_, p0, p1, p2, _⟩ := KB.head.three
  go_wp2_with (first | (go_at_call 14; refine (RG.out _ KB.hb).mono ?_; rintro e9 W9 ⟨rfl, hk⟩; replace KB := KB.below hk; clear hk; clear x0 x1 x2 ; obtain ⟨_, x0, x1, x2, _⟩ := (KB.tail.head).three; clear p0 p1 p2; obtain ⟨_, p0, p1, p2, _⟩ := KB.head.three) | (go_at_call 9; refine (AL.out _ (MO.out _ _ LQ KB.hb)).mono ?_; rintro e9 W9 ⟨rfl, hk⟩; replace KB := KB.below hk; clear hk; clear x0 x1 x2 ; obtain ⟨_, x0, x1, x2, _⟩ := (KB.tail.head).three; clear p0 p1 p2; obtain ⟨_, p0, p1, p2, _⟩ := KB.head.three))
  go_ret
  exact ⟨rfl, KB.hb⟩
theorem lp_2 {Q : World → Prop} (MO : Hid (∀ (w W : World), Q w → Below w.heap.size w W → Q W)) (AL : Hid (∀ W, Q W → Calls Tryz.prog 9 #[] W (RetV W (.bool true)))) (w : World) (LQ : Q w) (A B C : Option Addr) (n c m d q e : Nat) (z : Int) (i : Int) (T : Int) (d0 : decide (z < 0) = true)  (GR : Hid (∀ W, Below w.heap.size w W → Calls Tryz.prog 12 #[.agg #[.slice A n c, .slice B m d, .slice C q e]] W (RetV W (.bool false)))) (PR : Hid (∀ W, Below w.heap.size w W → Q W → Calls Tryz.prog 16 #[.agg #[.slice A n c, .slice B m d, .slice C q e], .int .i64 z, .int .i64 i, .int .i64 T] W (fun e w' => e = .returned (.tuple #[.agg #[.int .i64 0, .int .i64 0, .string ⟨#[]⟩], .bool false]) ∧ Below W.heap.size W w'))) (RG : Hid (∀ W, Below w.heap.size w W → Calls Tryz.prog 14 #[.agg #[.slice A n c, .slice B m d, .slice C q e]] W (RetV W (.bool true)))) : Calls Tryz.prog 5 #[.agg #[.slice A n c, .slice B m d, .slice C q e], .int .i64 z, .int .i64 i, .int .i64 T] w (RetV w (.bool true)) := by
  go_enter Tryz.func5, Tryz.ntmps5
  go_upto_region 1 with (fail)
  have KB := (BK.nil w).lit [.slice A n c, .slice B m d, .slice C q e] 29
  rw [show ([.slice A n c, .slice B m d, .slice C q e] : List Value).toArray = #[.slice A n c, .slice B m d, .slice C q e] from rfl] at KB
  generalize w.alloc (.cells #[.slice A n c, .slice B m d, .slice C q e] 29) = W at *
  obtain ⟨_, x0, x1, x2, _⟩ := (KB.head).three
  have s1 : ((⟨#[]⟩ : ByteArray) == ⟨#[]⟩) = true := by decide
  go_upto_region 4 with (first | (go_at_call 12; refine (GR.out _ KB.hb).mono ?_; rintro e9 W9 ⟨rfl, hk⟩; replace KB := KB.below hk; clear hk; clear x0 x1 x2 ; obtain ⟨_, x0, x1, x2, _⟩ := (KB.head).three) | (go_at_call 16; refine (PR.out _ KB.hb (MO.out _ _ LQ KB.hb)).mono ?_; rintro e9 W8 ⟨rfl, hk⟩; replace KB := KB.below hk; clear hk x0 x1 x2 ))
  replace KB := KB.lit [.int .i64 0, .int .i64 0, .string ⟨#[]⟩] 43
  rw [show ([.int .i64 0, .int .i64 0, .string ⟨#[]⟩] : List Value).toArray = #[.int .i64 0, .int .i64 0, .string ⟨#[]⟩] from rfl] at KB
  generalize W8.alloc (.cells #[.int .i64 0, .int .i64 0, .string ⟨#[]⟩] 43) = W7 at *
  generalize W8.heap.size = qq at *
  obtain ⟨_, x0, x1, x2, _⟩ := (KB.tail.head).three
  obtain ⟨_, p0, p1, p2, _⟩ := KB.head.three
  go_wp2_with (first | (go_at_call 14; refine (RG.out _ KB.hb).mono ?_; rintro e9 W9 ⟨rfl, hk⟩; replace KB := KB.below hk; clear hk; clear x0 x1 x2 ; obtain ⟨_, x0, x1, x2, _⟩ := (KB.tail.head).three; clear p0 p1 p2; obtain ⟨_, p0, p1, p2, _⟩ := KB.head.three) | (go_at_call 9; refine (AL.out _ (MO.out _ _ LQ KB.hb)).mono ?_; rintro e9 W9 ⟨rfl, hk⟩; replace KB := KB.below hk; clear hk; clear x0 x1 x2 ; obtain ⟨_, x0, x1, x2, _⟩ := (KB.tail.head).three; clear p0 p1 p2; obtain ⟨_, p0, p1, p2, _⟩ := KB.head.three))
  go_ret
  exact ⟨rfl, KB.hb⟩
theorem lp_3 {Q : World → Prop} (MO : Hid (∀ (w W : World), Q w → Below w.heap.size w W → Q W)) (AL : Hid (∀ W, Q W → Calls Tryz.prog 9 #[] W (RetV W (.bool true)))) (w : World) (LQ : Q w) (A B C : Option Addr) (n c m d q e : Nat) (z : Int) (i : Int) (T : Int) (d0 : decide (z < 0) = false) (d1 : decide (z ≥ (m : Int)) = true)  (GR : Hid (∀ W, Below w.heap.size w W → Calls Tryz.prog 12 #[.agg #[.slice A n c, .slice B m d, .slice C q e]] W (RetV W (.bool false)))) (PR : Hid (∀ W, Below w.heap.size w W → Q W → Calls Tryz.prog 16 #[.agg #[.slice A n c, .slice B m d, .slice C q e], .int .i64 z, .int .i64 i, .int .i64 T] W (fun e w' => e = .returned (.tuple #[.agg #[.int .i64 0, .int .i64 0, .string ⟨#[]⟩], .bool false]) ∧ Below W.heap.size W w'))) (RG : Hid (∀ W, Below w.heap.size w W → Calls Tryz.prog 14 #[.agg #[.slice A n c, .slice B m d, .slice C q e]] W (RetV W (.bool true)))) : Calls Tryz.prog 5 #[.agg #[.slice A n c, .slice B m d, .slice C q e], .int .i64 z, .int .i64 i, .int .i64 T] w (RetV w (.bool true)) := by
  go_enter Tryz.func5, Tryz.ntmps5
  go_upto_region 1 with (fail)
  have KB := (BK.nil w).lit [.slice A n c, .slice B m d, .slice C q e] 29
  rw [show ([.slice A n c, .slice B m d, .slice C q e] : List Value).toArray = #[.slice A n c, .slice B m d, .slice C q e] from rfl] at KB
  generalize w.alloc (.cells #[.slice A n c, .slice B m d, .slice C q e] 29) = W at *
  obtain ⟨_, x0, x1, x2, _⟩ := (KB.head).three
  have s1 : ((⟨#[]⟩ : ByteArray) == ⟨#[]⟩) = true := by decide
  go_upto_region 4 with (first | (go_at_call 12; refine (GR.out _ KB.hb).mono ?_; rintro e9 W9 ⟨rfl, hk⟩; replace KB := KB.below hk; clear hk; clear x0 x1 x2 ; obtain ⟨_, x0, x1, x2, _⟩ := (KB.head).three) | (go_at_call 16; refine (PR.out _ KB.hb (MO.out _ _ LQ KB.hb)).mono ?_; rintro e9 W8 ⟨rfl, hk⟩; replace KB := KB.below hk; clear hk x0 x1 x2 ))
  replace KB := KB.lit [.int .i64 0, .int .i64 0, .string ⟨#[]⟩] 43
  rw [show ([.int .i64 0, .int .i64 0, .string ⟨#[]⟩] : List Value).toArray = #[.int .i64 0, .int .i64 0, .string ⟨#[]⟩] from rfl] at KB
  generalize W8.alloc (.cells #[.int .i64 0, .int .i64 0, .string ⟨#[]⟩] 43) = W7 at *
  generalize W8.heap.size = qq at *
  obtain ⟨_, x0, x1, x2, _⟩ := (KB.tail.head).three
  obtain ⟨_, p0, p1, p2, _⟩ := KB.head.three
  go_wp2_with (first | (go_at_call 14; refine (RG.out _ KB.hb).mono ?_; rintro e9 W9 ⟨rfl, hk⟩; replace KB := KB.below hk; clear hk; clear x0 x1 x2 ; obtain ⟨_, x0, x1, x2, _⟩ := (KB.tail.head).three; clear p0 p1 p2; obtain ⟨_, p0, p1, p2, _⟩ := KB.head.three) | (go_at_call 9; refine (AL.out _ (MO.out _ _ LQ KB.hb)).mono ?_; rintro e9 W9 ⟨rfl, hk⟩; replace KB := KB.below hk; clear hk; clear x0 x1 x2 ; obtain ⟨_, x0, x1, x2, _⟩ := (KB.tail.head).three; clear p0 p1 p2; obtain ⟨_, p0, p1, p2, _⟩ := KB.head.three))
  go_ret
  exact ⟨rfl, KB.hb⟩
theorem lp_4 {Q : World → Prop} (MO : Hid (∀ (w W : World), Q w → Below w.heap.size w W → Q W)) (AL : Hid (∀ W, Q W → Calls Tryz.prog 9 #[] W (RetV W (.bool true)))) (w : World) (LQ : Q w) (A B C : Option Addr) (n c m d q e : Nat) (z : Int) (i : Int) (T : Int) (d0 : decide (z < 0) = false) (d1 : decide (z ≥ (m : Int)) = false) (d2 : decide (i < 0) = true)  (GR : Hid (∀ W, Below w.heap.size w W → Calls Tryz.prog 12 #[.agg #[.slice A n c, .slice B m d, .slice C q e]] W (RetV W (.bool false)))) (PR : Hid (∀ W, Below w.heap.size w W → Q W → Calls Tryz.prog 16 #[.agg #[.slice A n c, .slice B m d, .slice C q e], .int .i64 z, .int .i64 i, .int .i64 T] W (fun e w' => e = .returned (.tuple #[.agg #[.int .i64 0, .int .i64 0, .string ⟨#[]⟩], .bool false]) ∧ Below W.heap.size W w'))) (RG : Hid (∀ W, Below w.heap.size w W → Calls Tryz.prog 14 #[.agg #[.slice A n c, .slice B m d, .slice C q e]] W (RetV W (.bool true)))) : Calls Tryz.prog 5 #[.agg #[.slice A n c, .slice B m d, .slice C q e], .int .i64 z, .int .i64 i, .int .i64 T] w (RetV w (.bool true)) := by
  go_enter Tryz.func5, Tryz.ntmps5
  go_upto_region 1 with (fail)
  have KB := (BK.nil w).lit [.slice A n c, .slice B m d, .slice C q e] 29
  rw [show ([.slice A n c, .slice B m d, .slice C q e] : List Value).toArray = #[.slice A n c, .slice B m d, .slice C q e] from rfl] at KB
  generalize w.alloc (.cells #[.slice A n c, .slice B m d, .slice C q e] 29) = W at *
  obtain ⟨_, x0, x1, x2, _⟩ := (KB.head).three
  have s1 : ((⟨#[]⟩ : ByteArray) == ⟨#[]⟩) = true := by decide
  go_upto_region 4 with (first | (go_at_call 12; refine (GR.out _ KB.hb).mono ?_; rintro e9 W9 ⟨rfl, hk⟩; replace KB := KB.below hk; clear hk; clear x0 x1 x2 ; obtain ⟨_, x0, x1, x2, _⟩ := (KB.head).three) | (go_at_call 16; refine (PR.out _ KB.hb (MO.out _ _ LQ KB.hb)).mono ?_; rintro e9 W8 ⟨rfl, hk⟩; replace KB := KB.below hk; clear hk x0 x1 x2 ))
  replace KB := KB.lit [.int .i64 0, .int .i64 0, .string ⟨#[]⟩] 43
  rw [show ([.int .i64 0, .int .i64 0, .string ⟨#[]⟩] : List Value).toArray = #[.int .i64 0, .int .i64 0, .string ⟨#[]⟩] from rfl] at KB
  generalize W8.alloc (.cells #[.int .i64 0, .int .i64 0, .string ⟨#[]⟩] 43) = W7 at *
  generalize W8.heap.size = qq at *
  obtain ⟨_, x0, x1, x2, _⟩ := (KB.tail.head).three
  obtain ⟨_, p0, p1, p2, _⟩ := KB.head.three
  go_wp2_with (first | (go_at_call 14; refine (RG.out _ KB.hb).mono ?_; rintro e9 W9 ⟨rfl, hk⟩; replace KB := KB.below hk; clear hk; clear x0 x1 x2 ; obtain ⟨_, x0, x1, x2, _⟩ := (KB.tail.head).three; clear p0 p1 p2; obtain ⟨_, p0, p1, p2, _⟩ := KB.head.three) | (go_at_call 9; refine (AL.out _ (MO.out _ _ LQ KB.hb)).mono ?_; rintro e9 W9 ⟨rfl, hk⟩; replace KB := KB.below hk; clear hk; clear x0 x1 x2 ; obtain ⟨_, x0, x1, x2, _⟩ := (KB.tail.head).three; clear p0 p1 p2; obtain ⟨_, p0, p1, p2, _⟩ := KB.head.three))
  go_ret
  exact ⟨rfl, KB.hb⟩
theorem lp_5 {Q : World → Prop} (MO : Hid (∀ (w W : World), Q w → Below w.heap.size w W → Q W)) (AL : Hid (∀ W, Q W → Calls Tryz.prog 9 #[] W (RetV W (.bool true)))) (w : World) (LQ : Q w) (g o : Nat) (A C : Option Addr) (n c m d q e : Nat) (z : Nat) (i : Int) (T : Int) (hz : z < m) (_hm : m ≤ d) (hd : d ≤ maxLen) (hg : g < w.heap.size) (Z : Option Addr) (u cu : Nat) (_hu : u ≤ cu) (hcu : cu ≤ maxLen) (Y1 : Hid (w.cell? ⟨g, o + z * 2 + 1, none⟩ = some (.slice (Z) u cu))) (d2 : decide (i < 0) = false) (d3 : decide (i ≥ (u : Int)) = true)  (GR : Hid (∀ W, Below w.heap.size w W → Calls Tryz.prog 12 #[.agg #[.slice A n c, .slice (some ⟨g, o, none⟩) m d, .slice C q e]] W (RetV W (.bool false)))) (PR : Hid (∀ W, Below w.heap.size w W → Q W → Calls Tryz.prog 16 #[.agg #[.slice A n c, .slice (some ⟨g, o, none⟩) m d, .slice C q e], .int .i64 (z : Int), .int .i64 i, .int .i64 T] W (fun e w' => e = .returned (.tuple #[.agg #[.int .i64 0, .int .i64 0, .string ⟨#[]⟩], .bool false]) ∧ Below W.heap.size W w'))) (RG : Hid (∀ W, Below w.heap.size w W → Calls Tryz.prog 14 #[.agg #[.slice A n c, .slice (some ⟨g, o, none⟩) m d, .slice C q e]] W (RetV W (.bool true)))) : Calls Tryz.prog 5 #[.agg #[.slice A n c, .slice (some ⟨g, o, none⟩) m d, .slice C q e], .int .i64 (z : Int), .int .i64 i, .int .i64 T] w (RetV w (.bool true)) := by
  have dm : d ≤ 9223372036854775807 := hd
  have um : cu ≤ 9223372036854775807 := hcu
  have d0 : decide ((z : Int) < 0) = false := decide_eq_false (by omega)
  have d1 : decide ((z : Int) ≥ (m : Int)) = false := decide_eq_false (by omega)
  go_enter Tryz.func5, Tryz.ntmps5
  go_upto_region 1 with (fail)
  have KB := (BK.nil w).lit [.slice A n c, .slice (some ⟨g, o, none⟩) m d, .slice C q e] 29
  rw [show ([.slice A n c, .slice (some ⟨g, o, none⟩) m d, .slice C q e] : List Value).toArray = #[.slice A n c, .slice (some ⟨g, o, none⟩) m d, .slice C q e] from rfl] at KB
  generalize w.alloc (.cells #[.slice A n c, .slice (some ⟨g, o, none⟩) m d, .slice C q e] 29) = W at *
  obtain ⟨_, x0, x1, x2, _⟩ := (KB.head).three
  have y1 := (KB.hb.cell (p := ⟨g, o + z * 2 + 1, none⟩) hg).trans Y1.out
  have s1 : ((⟨#[]⟩ : ByteArray) == ⟨#[]⟩) = true := by decide
  go_upto_region 4 with (first | (go_at_call 12; refine (GR.out _ KB.hb).mono ?_; rintro e9 W9 ⟨rfl, hk⟩; replace KB := KB.below hk; clear hk; clear x0 x1 x2 y1; obtain ⟨_, x0, x1, x2, _⟩ := (KB.head).three; have y1 := (KB.hb.cell (p := ⟨g, o + z * 2 + 1, none⟩) hg).trans Y1.out) | (go_at_call 16; refine (PR.out _ KB.hb (MO.out _ _ LQ KB.hb)).mono ?_; rintro e9 W8 ⟨rfl, hk⟩; replace KB := KB.below hk; clear hk x0 x1 x2 y1))
  replace KB := KB.lit [.int .i64 0, .int .i64 0, .string ⟨#[]⟩] 43
  rw [show ([.int .i64 0, .int .i64 0, .string ⟨#[]⟩] : List Value).toArray = #[.int .i64 0, .int .i64 0, .string ⟨#[]⟩] from rfl] at KB
  generalize W8.alloc (.cells #[.int .i64 0, .int .i64 0, .string ⟨#[]⟩] 43) = W7 at *
  generalize W8.heap.size = qq at *
  obtain ⟨_, x0, x1, x2, _⟩ := (KB.tail.head).three
  obtain ⟨_, p0, p1, p2, _⟩ := KB.head.three
  have y1 := (KB.hb.cell (p := ⟨g, o + z * 2 + 1, none⟩) hg).trans Y1.out
  go_wp2_with (first | (go_at_call 14; refine (RG.out _ KB.hb).mono ?_; rintro e9 W9 ⟨rfl, hk⟩; replace KB := KB.below hk; clear hk; clear x0 x1 x2 y1; obtain ⟨_, x0, x1, x2, _⟩ := (KB.tail.head).three; have y1 := (KB.hb.cell (p := ⟨g, o + z * 2 + 1, none⟩) hg).trans Y1.out; clear p0 p1 p2; obtain ⟨_, p0, p1, p2, _⟩ := KB.head.three) | (go_at_call 9; refine (AL.out _ (MO.out _ _ LQ KB.hb)).mono ?_; rintro e9 W9 ⟨rfl, hk⟩; replace KB := KB.below hk; clear hk; clear x0 x1 x2 y1; obtain ⟨_, x0, x1, x2, _⟩ := (KB.tail.head).three; have y1 := (KB.hb.cell (p := ⟨g, o + z * 2 + 1, none⟩) hg).trans Y1.out; clear p0 p1 p2; obtain ⟨_, p0, p1, p2, _⟩ := KB.head.three))
  go_ret
  exact ⟨rfl, KB.hb⟩
theorem lp_y {Q : World → Prop} (MO : Hid (∀ (w W : World), Q w → Below w.heap.size w W → Q W)) (AL : Hid (∀ W, Q W → Calls Tryz.prog 9 #[] W (RetV W (.bool true)))) (w : World) (LQ : Q w) (g o : Nat) (A C : Option Addr) (n c m d q e : Nat) (z : Nat) (i : Nat) (T : Int) (off kind sav : Int) (rs fmt : ByteArray) (til : Bool) (yr mo ki wd da ti re : Int) (po ps : Int) (pa : ByteArray) (hz : z < m) (_hm : m ≤ d) (hd : d ≤ maxLen) (hg : g < w.heap.size) (g2 o2 : Nat) (u cu : Nat) (_hu : u ≤ cu) (hcu : cu ≤ maxLen) (Y1 : Hid (w.cell? ⟨g, o + z * 2 + 1, none⟩ = some (.slice (some ⟨g2, o2, none⟩) u cu))) (hi : i < u) (hg2 : g2 < w.heap.size) (E0 : Hid (w.cell? ⟨g2, o2 + i * 13, none⟩ = some (.int .i64 off))) (E1 : Hid (w.cell? ⟨g2, o2 + i * 13 + 1, none⟩ = some (.int .i64 kind))) (E2 : Hid (w.cell? ⟨g2, o2 + i * 13 + 2, none⟩ = some (.int .i64 sav))) (E3 : Hid (w.cell? ⟨g2, o2 + i * 13 + 3, none⟩ = some (.string rs))) (E4 : Hid (w.cell? ⟨g2, o2 + i * 13 + 4, none⟩ = some (.string fmt))) (E5 : Hid (w.cell? ⟨g2, o2 + i * 13 + 5, none⟩ = some (.bool til))) (E6 : Hid (w.cell? ⟨g2, o2 + i * 13 + 6, none⟩ = some (.int .i64 yr))) (E7 : Hid (w.cell? ⟨g2, o2 + i * 13 + 7, none⟩ = some (.int .i64 mo))) (E8 : Hid (w.cell? ⟨g2, o2 + i * 13 + 8, none⟩ = some (.int .i64 ki))) (E9 : Hid (w.cell? ⟨g2, o2 + i * 13 + 9, none⟩ = some (.int .i64 wd))) (E10 : Hid (w.cell? ⟨g2, o2 + i * 13 + 10, none⟩ = some (.int .i64 da))) (E11 : Hid (w.cell? ⟨g2, o2 + i * 13 + 11, none⟩ = some (.int .i64 ti))) (E12 : Hid (w.cell? ⟨g2, o2 + i * 13 + 12, none⟩ = some (.int .i64 re))) (GR : Hid (∀ W, Below w.heap.size w W → Calls Tryz.prog 12 #[.agg #[.slice A n c, .slice (some ⟨g, o, none⟩) m d, .slice C q e]] W (RetV W (.bool false)))) (PR : Hid (∀ W, Below w.heap.size w W → Q W → Calls Tryz.prog 16 #[.agg #[.slice A n c, .slice (some ⟨g, o, none⟩) m d, .slice C q e], .int .i64 (z : Int), .int .i64 (i : Int), .int .i64 T] W (fun e w' => e = .returned (.tuple #[.agg #[.int .i64 po, .int .i64 ps, .string pa], .bool true]) ∧ Below W.heap.size W w'))) (RG : Hid (∀ W, Below w.heap.size w W → Calls Tryz.prog 14 #[.agg #[.slice A n c, .slice (some ⟨g, o, none⟩) m d, .slice C q e]] W (RetV W (.bool true)))) (DC : Hid (∀ W, Below w.heap.size w W → Calls Tryz.prog 17 #[.agg #[.slice A n c, .slice (some ⟨g, o, none⟩) m d, .slice C q e], .agg #[.int .i64 off, .int .i64 kind, .int .i64 sav, .string rs, .string fmt, .bool til, .int .i64 yr, .int .i64 mo, .int .i64 ki, .int .i64 wd, .int .i64 da, .int .i64 ti, .int .i64 re], .int .i64 T] W (RetV W (.agg #[.int .i64 po, .int .i64 ps, .string pa])))) : Calls Tryz.prog 5 #[.agg #[.slice A n c, .slice (some ⟨g, o, none⟩) m d, .slice C q e], .int .i64 (z : Int), .int .i64 (i : Int), .int .i64 T] w (RetV w (.bool true)) := by
  have dm : d ≤ 9223372036854775807 := hd
  have um : cu ≤ 9223372036854775807 := hcu
  have d0 : decide ((z : Int) < 0) = false := decide_eq_false (by omega)
  have d1 : decide ((z : Int) ≥ (m : Int)) = false := decide_eq_false (by omega)
  have d2 : decide ((i : Int) < 0) = false := decide_eq_false (by omega)
  have d3 : decide ((i : Int) ≥ (u : Int)) = false := decide_eq_false (by omega)
  go_enter Tryz.func5, Tryz.ntmps5
  go_upto_region 1 with (fail)
  have KB := (BK.nil w).lit [.slice A n c, .slice (some ⟨g, o, none⟩) m d, .slice C q e] 29
  rw [show ([.slice A n c, .slice (some ⟨g, o, none⟩) m d, .slice C q e] : List Value).toArray = #[.slice A n c, .slice (some ⟨g, o, none⟩) m d, .slice C q e] from rfl] at KB
  generalize w.alloc (.cells #[.slice A n c, .slice (some ⟨g, o, none⟩) m d, .slice C q e] 29) = W at *
  obtain ⟨_, x0, x1, x2, _⟩ := (KB.head).three
  have s1 : (pa == pa) = true := by rw [beq_txtT]; exact decide_eq_true rfl
  go_upto_region 4 with (first | (go_at_call 12; refine (GR.out _ KB.hb).mono ?_; rintro e9 W9 ⟨rfl, hk⟩; replace KB := KB.below hk; clear hk; clear x0 x1 x2 ; obtain ⟨_, x0, x1, x2, _⟩ := (KB.head).three) | (go_at_call 16; refine (PR.out _ KB.hb (MO.out _ _ LQ KB.hb)).mono ?_; rintro e9 W8 ⟨rfl, hk⟩; replace KB := KB.below hk; clear hk x0 x1 x2))
  replace KB := KB.lit [.int .i64 po, .int .i64 ps, .string pa] 43
  rw [show ([.int .i64 po, .int .i64 ps, .string pa] : List Value).toArray = #[.int .i64 po, .int .i64 ps, .string pa] from rfl] at KB
  generalize W8.alloc (.cells #[.int .i64 po, .int .i64 ps, .string pa] 43) = W7 at *
  generalize W8.heap.size = qq at *
  obtain ⟨_, x0, x1, x2, _⟩ := (KB.tail.head).three
  have y1 := (KB.hb.cell (p := ⟨g, o + z * 2 + 1, none⟩) hg).trans Y1.out
  go_wp2_with (go_at_call 14; refine (RG.out _ KB.hb).mono ?_; rintro e9 W9 ⟨rfl, hk⟩; replace KB := KB.below hk; clear hk; clear x0 x1 x2 y1; obtain ⟨_, x0, x1, x2, _⟩ := (KB.tail.head).three; have y1 := (KB.hb.cell (p := ⟨g, o + z * 2 + 1, none⟩) hg).trans Y1.out)
  clear y1
  obtain ⟨_, p0, p1, p2, _⟩ := KB.head.three
  have r0 := (KB.hb.cell (p := ⟨g, o + z * 2 + 1, none⟩) hg).trans Y1.out
  have r1 := (KB.hb.cell (p := ⟨g2, o2 + i * 13, none⟩) hg2).trans E0.out
  have r2 := (KB.hb.cell (p := ⟨g2, o2 + i * 13 + 1, none⟩) hg2).trans E1.out
  have r3 := (KB.hb.cell (p := ⟨g2, o2 + i * 13 + 2, none⟩) hg2).trans E2.out
  have r4 := (KB.hb.cell (p := ⟨g2, o2 + i * 13 + 3, none⟩) hg2).trans E3.out
  have r5 := (KB.hb.cell (p := ⟨g2, o2 + i * 13 + 4, none⟩) hg2).trans E4.out
  have r6 := (KB.hb.cell (p := ⟨g2, o2 + i * 13 + 5, none⟩) hg2).trans E5.out
  have r7 := (KB.hb.cell (p := ⟨g2, o2 + i * 13 + 6, none⟩) hg2).trans E6.out
  have r8 := (KB.hb.cell (p := ⟨g2, o2 + i * 13 + 7, none⟩) hg2).trans E7.out
  have r9 := (KB.hb.cell (p := ⟨g2, o2 + i * 13 + 8, none⟩) hg2).trans E8.out
  have r10 := (KB.hb.cell (p := ⟨g2, o2 + i * 13 + 9, none⟩) hg2).trans E9.out
  have r11 := (KB.hb.cell (p := ⟨g2, o2 + i * 13 + 10, none⟩) hg2).trans E10.out
  have r12 := (KB.hb.cell (p := ⟨g2, o2 + i * 13 + 11, none⟩) hg2).trans E11.out
  have r13 := (KB.hb.cell (p := ⟨g2, o2 + i * 13 + 12, none⟩) hg2).trans E12.out
  go_region_held3 (fun w' => w'.cell? ⟨w.heap.size, 0, none⟩ = some (.slice A n c) ∧ w'.cell? ⟨w.heap.size, 1, none⟩ = some (.slice (some ⟨g, o, none⟩) m d) ∧ w'.cell? ⟨w.heap.size, 2, none⟩ = some (.slice C q e) ∧ w'.cell? ⟨g, o + z * 2 + 1, none⟩ = some (.slice (some ⟨g2, o2, none⟩) u cu) ∧ w'.cell? ⟨g2, o2 + i * 13, none⟩ = some (.int .i64 off) ∧ w'.cell? ⟨g2, o2 + i * 13 + 1, none⟩ = some (.int .i64 kind) ∧ w'.cell? ⟨g2, o2 + i * 13 + 2, none⟩ = some (.int .i64 sav) ∧ w'.cell? ⟨g2, o2 + i * 13 + 3, none⟩ = some (.string rs) ∧ w'.cell? ⟨g2, o2 + i * 13 + 4, none⟩ = some (.string fmt) ∧ w'.cell? ⟨g2, o2 + i * 13 + 5, none⟩ = some (.bool til) ∧ w'.cell? ⟨g2, o2 + i * 13 + 6, none⟩ = some (.int .i64 yr) ∧ w'.cell? ⟨g2, o2 + i * 13 + 7, none⟩ = some (.int .i64 mo) ∧ w'.cell? ⟨g2, o2 + i * 13 + 8, none⟩ = some (.int .i64 ki) ∧ w'.cell? ⟨g2, o2 + i * 13 + 9, none⟩ = some (.int .i64 wd) ∧ w'.cell? ⟨g2, o2 + i * 13 + 10, none⟩ = some (.int .i64 da) ∧ w'.cell? ⟨g2, o2 + i * 13 + 11, none⟩ = some (.int .i64 ti) ∧ w'.cell? ⟨g2, o2 + i * 13 + 12, none⟩ = some (.int .i64 re) ∧ w'.cell? ⟨qq, 0, none⟩ = some (.int .i64 po) ∧ w'.cell? ⟨qq, 1, none⟩ = some (.int .i64 ps) ∧ w'.cell? ⟨qq, 2, none⟩ = some (.string pa)) (first | (with_reducible exact ⟨(KB.tail.head).three.2.1, (KB.tail.head).three.2.2.1, (KB.tail.head).three.2.2.2.1, (KB.hb.cell (p := ⟨g, o + z * 2 + 1, none⟩) hg).trans Y1.out, (KB.hb.cell (p := ⟨g2, o2 + i * 13, none⟩) hg2).trans E0.out, (KB.hb.cell (p := ⟨g2, o2 + i * 13 + 1, none⟩) hg2).trans E1.out, (KB.hb.cell (p := ⟨g2, o2 + i * 13 + 2, none⟩) hg2).trans E2.out, (KB.hb.cell (p := ⟨g2, o2 + i * 13 + 3, none⟩) hg2).trans E3.out, (KB.hb.cell (p := ⟨g2, o2 + i * 13 + 4, none⟩) hg2).trans E4.out, (KB.hb.cell (p := ⟨g2, o2 + i * 13 + 5, none⟩) hg2).trans E5.out, (KB.hb.cell (p := ⟨g2, o2 + i * 13 + 6, none⟩) hg2).trans E6.out, (KB.hb.cell (p := ⟨g2, o2 + i * 13 + 7, none⟩) hg2).trans E7.out, (KB.hb.cell (p := ⟨g2, o2 + i * 13 + 8, none⟩) hg2).trans E8.out, (KB.hb.cell (p := ⟨g2, o2 + i * 13 + 9, none⟩) hg2).trans E9.out, (KB.hb.cell (p := ⟨g2, o2 + i * 13 + 10, none⟩) hg2).trans E10.out, (KB.hb.cell (p := ⟨g2, o2 + i * 13 + 11, none⟩) hg2).trans E11.out, (KB.hb.cell (p := ⟨g2, o2 + i * 13 + 12, none⟩) hg2).trans E12.out, (KB.head).three.2.1, (KB.head).three.2.2.1, (KB.head).three.2.2.2.1⟩) | (with_reducible exact ⟨(KB.drew.tail.head).three.2.1, (KB.drew.tail.head).three.2.2.1, (KB.drew.tail.head).three.2.2.2.1, (KB.drew.hb.cell (p := ⟨g, o + z * 2 + 1, none⟩) hg).trans Y1.out, (KB.drew.hb.cell (p := ⟨g2, o2 + i * 13, none⟩) hg2).trans E0.out, (KB.drew.hb.cell (p := ⟨g2, o2 + i * 13 + 1, none⟩) hg2).trans E1.out, (KB.drew.hb.cell (p := ⟨g2, o2 + i * 13 + 2, none⟩) hg2).trans E2.out, (KB.drew.hb.cell (p := ⟨g2, o2 + i * 13 + 3, none⟩) hg2).trans E3.out, (KB.drew.hb.cell (p := ⟨g2, o2 + i * 13 + 4, none⟩) hg2).trans E4.out, (KB.drew.hb.cell (p := ⟨g2, o2 + i * 13 + 5, none⟩) hg2).trans E5.out, (KB.drew.hb.cell (p := ⟨g2, o2 + i * 13 + 6, none⟩) hg2).trans E6.out, (KB.drew.hb.cell (p := ⟨g2, o2 + i * 13 + 7, none⟩) hg2).trans E7.out, (KB.drew.hb.cell (p := ⟨g2, o2 + i * 13 + 8, none⟩) hg2).trans E8.out, (KB.drew.hb.cell (p := ⟨g2, o2 + i * 13 + 9, none⟩) hg2).trans E9.out, (KB.drew.hb.cell (p := ⟨g2, o2 + i * 13 + 10, none⟩) hg2).trans E10.out, (KB.drew.hb.cell (p := ⟨g2, o2 + i * 13 + 11, none⟩) hg2).trans E11.out, (KB.drew.hb.cell (p := ⟨g2, o2 + i * 13 + 12, none⟩) hg2).trans E12.out, (KB.drew.head).three.2.1, (KB.drew.head).three.2.2.1, (KB.drew.head).three.2.2.2.1⟩) | go_keep)
    (first
      | (go_at_call 9; (with_reducible first | refine (AL.out _ (MO.out _ _ LQ KB.hb)).mono ?_ | refine (AL.out _ (MO.out _ _ LQ KB.drew.hb)).mono ?_); rintro e9 W10 ⟨rfl, hk⟩; (with_reducible first | replace KB := KB.below hk | replace KB := KB.drew.below hk); clear hk)
      | (go_at_call 17; (with_reducible first | refine (DC.out _ KB.hb).mono ?_ | refine (DC.out _ KB.drew.hb).mono ?_); rintro e9 W11 ⟨rfl, hk⟩; (with_reducible first | replace KB := KB.below hk | replace KB := KB.drew.below hk); clear hk))
  all_goals
    go_wp2
    go_ret
    exact ⟨rfl, by first | exact KB.hb | exact KB.drew.hb⟩
theorem lt_g {Q : World → Prop} (MO : Hid (∀ (w W : World), Q w → Below w.heap.size w W → Q W)) (AL : Hid (∀ W, Q W → Calls Tryz.prog 9 #[] W (RetV W (.bool true)))) (w : World) (LQ : Q w) (A B C : Option Addr) (n c m d q e : Nat) (z : Int) (T : Int) (GR : Hid (∀ W, Below w.heap.size w W → Calls Tryz.prog 12 #[.agg #[.slice A n c, .slice B m d, .slice C q e]] W (RetV W (.bool true)))) : Calls Tryz.prog 6 #[.agg #[.slice A n c, .slice B m d, .slice C q e], .int .i64 z, .int .i64 T] w (RetV w (.bool true)) := by
  go_enter Tryz.func6, Tryz.ntmps6
  go_upto_region 1 with (fail)
  have KB := (BK.nil w).lit [.slice A n c, .slice B m d, .slice C q e] 29
  rw [show ([.slice A n c, .slice B m d, .slice C q e] : List Value).toArray = #[.slice A n c, .slice B m d, .slice C q e] from rfl] at KB
  generalize w.alloc (.cells #[.slice A n c, .slice B m d, .slice C q e] 29) = W at *
  obtain ⟨_, x0, x1, x2, _⟩ := (KB.head).three
  go_wp2_with (first | (go_at_call 12; refine (GR.out _ KB.hb).mono ?_; rintro e9 W9 ⟨rfl, hk⟩; replace KB := KB.below hk; clear hk; clear x0 x1 x2 ; obtain ⟨_, x0, x1, x2, _⟩ := (KB.head).three) | (go_at_call 9; refine (AL.out _ (MO.out _ _ LQ KB.hb)).mono ?_; rintro e9 W9 ⟨rfl, hk⟩; replace KB := KB.below hk; clear hk; clear x0 x1 x2 ; obtain ⟨_, x0, x1, x2, _⟩ := (KB.head).three))
  go_ret
  exact ⟨rfl, KB.hb⟩
theorem lt_1 {Q : World → Prop} (MO : Hid (∀ (w W : World), Q w → Below w.heap.size w W → Q W)) (AL : Hid (∀ W, Q W → Calls Tryz.prog 9 #[] W (RetV W (.bool true)))) (w : World) (LQ : Q w) (A B C : Option Addr) (n c m d q e : Nat) (z : Int) (T : Int)   (GR : Hid (∀ W, Below w.heap.size w W → Calls Tryz.prog 12 #[.agg #[.slice A n c, .slice B m d, .slice C q e]] W (RetV W (.bool false)))) (PR : Hid (∀ W, Below w.heap.size w W → Q W → Calls Tryz.prog 18 #[.agg #[.slice A n c, .slice B m d, .slice C q e], .int .i64 z, .int .i64 T] W (fun e w' => e = .returned (.tuple #[.agg #[.int .i64 0, .int .i64 0, .string ⟨#[]⟩], .bool false]) ∧ Below W.heap.size W w'))) (RG : Hid (∀ W, Below w.heap.size w W → Calls Tryz.prog 14 #[.agg #[.slice A n c, .slice B m d, .slice C q e]] W (RetV W (.bool false)))) : Calls Tryz.prog 6 #[.agg #[.slice A n c, .slice B m d, .slice C q e], .int .i64 z, .int .i64 T] w (RetV w (.bool true)) := by
  go_enter Tryz.func6, Tryz.ntmps6
  go_upto_region 1 with (fail)
  have KB := (BK.nil w).lit [.slice A n c, .slice B m d, .slice C q e] 29
  rw [show ([.slice A n c, .slice B m d, .slice C q e] : List Value).toArray = #[.slice A n c, .slice B m d, .slice C q e] from rfl] at KB
  generalize w.alloc (.cells #[.slice A n c, .slice B m d, .slice C q e] 29) = W at *
  obtain ⟨_, x0, x1, x2, _⟩ := (KB.head).three
  have s1 : ((⟨#[]⟩ : ByteArray) == ⟨#[]⟩) = true := by decide
  go_upto_region 4 with (first | (go_at_call 12; refine (GR.out _ KB.hb).mono ?_; rintro e9 W9 ⟨rfl, hk⟩; replace KB := KB.below hk; clear hk; clear x0 x1 x2 ; obtain ⟨_, x0, x1, x2, _⟩ := (KB.head).three) | (go_at_call 18; refine (PR.out _ KB.hb (MO.out _ _ LQ KB.hb)).mono ?_; rintro e9 W8 ⟨rfl, hk⟩; replace KB := KB.below hk; clear hk x0 x1 x2 ))
  replace KB := KB.lit [.int .i64 0, .int .i64 0, .string ⟨#[]⟩] 43
  rw [show ([.int .i64 0, .int .i64 0, .string ⟨#[]⟩] : List Value).toArray = #[.int .i64 0, .int .i64 0, .string ⟨#[]⟩] from rfl] at KB
  generalize W8.alloc (.cells #[.int .i64 0, .int .i64 0, .string ⟨#[]⟩] 43) = W7 at *
  generalize W8.heap.size = qq at *
  obtain ⟨_, x0, x1, x2, _⟩ := (KB.tail.head).three
  obtain ⟨_, p0, p1, p2, _⟩ := KB.head.three
  go_wp2_with (first | (go_at_call 14; refine (RG.out _ KB.hb).mono ?_; rintro e9 W9 ⟨rfl, hk⟩; replace KB := KB.below hk; clear hk; clear x0 x1 x2 ; obtain ⟨_, x0, x1, x2, _⟩ := (KB.tail.head).three; clear p0 p1 p2; obtain ⟨_, p0, p1, p2, _⟩ := KB.head.three) | (go_at_call 9; refine (AL.out _ (MO.out _ _ LQ KB.hb)).mono ?_; rintro e9 W9 ⟨rfl, hk⟩; replace KB := KB.below hk; clear hk; clear x0 x1 x2 ; obtain ⟨_, x0, x1, x2, _⟩ := (KB.tail.head).three; clear p0 p1 p2; obtain ⟨_, p0, p1, p2, _⟩ := KB.head.three))
  go_ret
  exact ⟨rfl, KB.hb⟩
theorem lt_2 {Q : World → Prop} (MO : Hid (∀ (w W : World), Q w → Below w.heap.size w W → Q W)) (AL : Hid (∀ W, Q W → Calls Tryz.prog 9 #[] W (RetV W (.bool true)))) (w : World) (LQ : Q w) (A B C : Option Addr) (n c m d q e : Nat) (z : Int) (T : Int) (d0 : decide (z < 0) = true)  (GR : Hid (∀ W, Below w.heap.size w W → Calls Tryz.prog 12 #[.agg #[.slice A n c, .slice B m d, .slice C q e]] W (RetV W (.bool false)))) (PR : Hid (∀ W, Below w.heap.size w W → Q W → Calls Tryz.prog 18 #[.agg #[.slice A n c, .slice B m d, .slice C q e], .int .i64 z, .int .i64 T] W (fun e w' => e = .returned (.tuple #[.agg #[.int .i64 0, .int .i64 0, .string ⟨#[]⟩], .bool false]) ∧ Below W.heap.size W w'))) (RG : Hid (∀ W, Below w.heap.size w W → Calls Tryz.prog 14 #[.agg #[.slice A n c, .slice B m d, .slice C q e]] W (RetV W (.bool true)))) : Calls Tryz.prog 6 #[.agg #[.slice A n c, .slice B m d, .slice C q e], .int .i64 z, .int .i64 T] w (RetV w (.bool true)) := by
  go_enter Tryz.func6, Tryz.ntmps6
  go_upto_region 1 with (fail)
  have KB := (BK.nil w).lit [.slice A n c, .slice B m d, .slice C q e] 29
  rw [show ([.slice A n c, .slice B m d, .slice C q e] : List Value).toArray = #[.slice A n c, .slice B m d, .slice C q e] from rfl] at KB
  generalize w.alloc (.cells #[.slice A n c, .slice B m d, .slice C q e] 29) = W at *
  obtain ⟨_, x0, x1, x2, _⟩ := (KB.head).three
  have s1 : ((⟨#[]⟩ : ByteArray) == ⟨#[]⟩) = true := by decide
  go_upto_region 4 with (first | (go_at_call 12; refine (GR.out _ KB.hb).mono ?_; rintro e9 W9 ⟨rfl, hk⟩; replace KB := KB.below hk; clear hk; clear x0 x1 x2 ; obtain ⟨_, x0, x1, x2, _⟩ := (KB.head).three) | (go_at_call 18; refine (PR.out _ KB.hb (MO.out _ _ LQ KB.hb)).mono ?_; rintro e9 W8 ⟨rfl, hk⟩; replace KB := KB.below hk; clear hk x0 x1 x2 ))
  replace KB := KB.lit [.int .i64 0, .int .i64 0, .string ⟨#[]⟩] 43
  rw [show ([.int .i64 0, .int .i64 0, .string ⟨#[]⟩] : List Value).toArray = #[.int .i64 0, .int .i64 0, .string ⟨#[]⟩] from rfl] at KB
  generalize W8.alloc (.cells #[.int .i64 0, .int .i64 0, .string ⟨#[]⟩] 43) = W7 at *
  generalize W8.heap.size = qq at *
  obtain ⟨_, x0, x1, x2, _⟩ := (KB.tail.head).three
  obtain ⟨_, p0, p1, p2, _⟩ := KB.head.three
  go_wp2_with (first | (go_at_call 14; refine (RG.out _ KB.hb).mono ?_; rintro e9 W9 ⟨rfl, hk⟩; replace KB := KB.below hk; clear hk; clear x0 x1 x2 ; obtain ⟨_, x0, x1, x2, _⟩ := (KB.tail.head).three; clear p0 p1 p2; obtain ⟨_, p0, p1, p2, _⟩ := KB.head.three) | (go_at_call 9; refine (AL.out _ (MO.out _ _ LQ KB.hb)).mono ?_; rintro e9 W9 ⟨rfl, hk⟩; replace KB := KB.below hk; clear hk; clear x0 x1 x2 ; obtain ⟨_, x0, x1, x2, _⟩ := (KB.tail.head).three; clear p0 p1 p2; obtain ⟨_, p0, p1, p2, _⟩ := KB.head.three))
  go_ret
  exact ⟨rfl, KB.hb⟩
theorem lt_3 {Q : World → Prop} (MO : Hid (∀ (w W : World), Q w → Below w.heap.size w W → Q W)) (AL : Hid (∀ W, Q W → Calls Tryz.prog 9 #[] W (RetV W (.bool true)))) (w : World) (LQ : Q w) (A B C : Option Addr) (n c m d q e : Nat) (z : Int) (T : Int) (d0 : decide (z < 0) = false) (d1 : decide (z ≥ (m : Int)) = true)  (GR : Hid (∀ W, Below w.heap.size w W → Calls Tryz.prog 12 #[.agg #[.slice A n c, .slice B m d, .slice C q e]] W (RetV W (.bool false)))) (PR : Hid (∀ W, Below w.heap.size w W → Q W → Calls Tryz.prog 18 #[.agg #[.slice A n c, .slice B m d, .slice C q e], .int .i64 z, .int .i64 T] W (fun e w' => e = .returned (.tuple #[.agg #[.int .i64 0, .int .i64 0, .string ⟨#[]⟩], .bool false]) ∧ Below W.heap.size W w'))) (RG : Hid (∀ W, Below w.heap.size w W → Calls Tryz.prog 14 #[.agg #[.slice A n c, .slice B m d, .slice C q e]] W (RetV W (.bool true)))) : Calls Tryz.prog 6 #[.agg #[.slice A n c, .slice B m d, .slice C q e], .int .i64 z, .int .i64 T] w (RetV w (.bool true)) := by
  go_enter Tryz.func6, Tryz.ntmps6
  go_upto_region 1 with (fail)
  have KB := (BK.nil w).lit [.slice A n c, .slice B m d, .slice C q e] 29
  rw [show ([.slice A n c, .slice B m d, .slice C q e] : List Value).toArray = #[.slice A n c, .slice B m d, .slice C q e] from rfl] at KB
  generalize w.alloc (.cells #[.slice A n c, .slice B m d, .slice C q e] 29) = W at *
  obtain ⟨_, x0, x1, x2, _⟩ := (KB.head).three
  have s1 : ((⟨#[]⟩ : ByteArray) == ⟨#[]⟩) = true := by decide
  go_upto_region 4 with (first | (go_at_call 12; refine (GR.out _ KB.hb).mono ?_; rintro e9 W9 ⟨rfl, hk⟩; replace KB := KB.below hk; clear hk; clear x0 x1 x2 ; obtain ⟨_, x0, x1, x2, _⟩ := (KB.head).three) | (go_at_call 18; refine (PR.out _ KB.hb (MO.out _ _ LQ KB.hb)).mono ?_; rintro e9 W8 ⟨rfl, hk⟩; replace KB := KB.below hk; clear hk x0 x1 x2 ))
  replace KB := KB.lit [.int .i64 0, .int .i64 0, .string ⟨#[]⟩] 43
  rw [show ([.int .i64 0, .int .i64 0, .string ⟨#[]⟩] : List Value).toArray = #[.int .i64 0, .int .i64 0, .string ⟨#[]⟩] from rfl] at KB
  generalize W8.alloc (.cells #[.int .i64 0, .int .i64 0, .string ⟨#[]⟩] 43) = W7 at *
  generalize W8.heap.size = qq at *
  obtain ⟨_, x0, x1, x2, _⟩ := (KB.tail.head).three
  obtain ⟨_, p0, p1, p2, _⟩ := KB.head.three
  go_wp2_with (first | (go_at_call 14; refine (RG.out _ KB.hb).mono ?_; rintro e9 W9 ⟨rfl, hk⟩; replace KB := KB.below hk; clear hk; clear x0 x1 x2 ; obtain ⟨_, x0, x1, x2, _⟩ := (KB.tail.head).three; clear p0 p1 p2; obtain ⟨_, p0, p1, p2, _⟩ := KB.head.three) | (go_at_call 9; refine (AL.out _ (MO.out _ _ LQ KB.hb)).mono ?_; rintro e9 W9 ⟨rfl, hk⟩; replace KB := KB.below hk; clear hk; clear x0 x1 x2 ; obtain ⟨_, x0, x1, x2, _⟩ := (KB.tail.head).three; clear p0 p1 p2; obtain ⟨_, p0, p1, p2, _⟩ := KB.head.three))
  go_ret
  exact ⟨rfl, KB.hb⟩
theorem lt_y {Q : World → Prop} (MO : Hid (∀ (w W : World), Q w → Below w.heap.size w W → Q W)) (AL : Hid (∀ W, Q W → Calls Tryz.prog 9 #[] W (RetV W (.bool true)))) (w : World) (LQ : Q w) (g o : Nat) (A C : Option Addr) (n c m d q e : Nat) (z : Nat) (T : Int) (po ps : Int) (pa : ByteArray) (hz : z < m) (_hm : m ≤ d) (hd : d ≤ maxLen) (hg : g < w.heap.size) (nm : ByteArray) (Z : Option Addr) (u cu : Nat) (_hu : u ≤ cu) (hcu : cu ≤ maxLen) (Y0 : Hid (w.cell? ⟨g, o + z * 2, none⟩ = some (.string nm))) (Y1 : Hid (w.cell? ⟨g, o + z * 2 + 1, none⟩ = some (.slice (Z) u cu)))  (GR : Hid (∀ W, Below w.heap.size w W → Calls Tryz.prog 12 #[.agg #[.slice A n c, .slice (some ⟨g, o, none⟩) m d, .slice C q e]] W (RetV W (.bool false)))) (PR : Hid (∀ W, Below w.heap.size w W → Q W → Calls Tryz.prog 18 #[.agg #[.slice A n c, .slice (some ⟨g, o, none⟩) m d, .slice C q e], .int .i64 (z : Int), .int .i64 T] W (fun e w' => e = .returned (.tuple #[.agg #[.int .i64 po, .int .i64 ps, .string pa], .bool true]) ∧ Below W.heap.size W w'))) (RG : Hid (∀ W, Below w.heap.size w W → Calls Tryz.prog 14 #[.agg #[.slice A n c, .slice (some ⟨g, o, none⟩) m d, .slice C q e]] W (RetV W (.bool true)))) (DC : Hid (∀ W, Below w.heap.size w W → Calls Tryz.prog 19 #[.agg #[.slice A n c, .slice (some ⟨g, o, none⟩) m d, .slice C q e], .agg #[.string nm, .slice (Z) u cu], .int .i64 T] W (RetV W (.agg #[.int .i64 po, .int .i64 ps, .string pa])))) : Calls Tryz.prog 6 #[.agg #[.slice A n c, .slice (some ⟨g, o, none⟩) m d, .slice C q e], .int .i64 (z : Int), .int .i64 T] w (RetV w (.bool true)) := by
  have dm : d ≤ 9223372036854775807 := hd
  have um : cu ≤ 9223372036854775807 := hcu
  have d0 : decide ((z : Int) < 0) = false := decide_eq_false (by omega)
  have d1 : decide ((z : Int) ≥ (m : Int)) = false := decide_eq_false (by omega)
  go_enter Tryz.func6, Tryz.ntmps6
  go_upto_region 1 with (fail)
  have KB := (BK.nil w).lit [.slice A n c, .slice (some ⟨g, o, none⟩) m d, .slice C q e] 29
  rw [show ([.slice A n c, .slice (some ⟨g, o, none⟩) m d, .slice C q e] : List Value).toArray = #[.slice A n c, .slice (some ⟨g, o, none⟩) m d, .slice C q e] from rfl] at KB
  generalize w.alloc (.cells #[.slice A n c, .slice (some ⟨g, o, none⟩) m d, .slice C q e] 29) = W at *
  obtain ⟨_, x0, x1, x2, _⟩ := (KB.head).three
  have s1 : (pa == pa) = true := by rw [beq_txtT]; exact decide_eq_true rfl
  go_upto_region 4 with (first | (go_at_call 12; refine (GR.out _ KB.hb).mono ?_; rintro e9 W9 ⟨rfl, hk⟩; replace KB := KB.below hk; clear hk; clear x0 x1 x2 ; obtain ⟨_, x0, x1, x2, _⟩ := (KB.head).three) | (go_at_call 18; refine (PR.out _ KB.hb (MO.out _ _ LQ KB.hb)).mono ?_; rintro e9 W8 ⟨rfl, hk⟩; replace KB := KB.below hk; clear hk x0 x1 x2))
  replace KB := KB.lit [.int .i64 po, .int .i64 ps, .string pa] 43
  rw [show ([.int .i64 po, .int .i64 ps, .string pa] : List Value).toArray = #[.int .i64 po, .int .i64 ps, .string pa] from rfl] at KB
  generalize W8.alloc (.cells #[.int .i64 po, .int .i64 ps, .string pa] 43) = W7 at *
  generalize W8.heap.size = qq at *
  obtain ⟨_, x0, x1, x2, _⟩ := (KB.tail.head).three
  have y0 := (KB.hb.cell (p := ⟨g, o + z * 2, none⟩) hg).trans Y0.out
  have y1 := (KB.hb.cell (p := ⟨g, o + z * 2 + 1, none⟩) hg).trans Y1.out
  go_wp2_with (go_at_call 14; refine (RG.out _ KB.hb).mono ?_; rintro e9 W9 ⟨rfl, hk⟩; replace KB := KB.below hk; clear hk; clear x0 x1 x2 y0 y1; obtain ⟨_, x0, x1, x2, _⟩ := (KB.tail.head).three; have y0 := (KB.hb.cell (p := ⟨g, o + z * 2, none⟩) hg).trans Y0.out; have y1 := (KB.hb.cell (p := ⟨g, o + z * 2 + 1, none⟩) hg).trans Y1.out)
  clear y0 y1
  obtain ⟨_, p0, p1, p2, _⟩ := KB.head.three
  have r0 := (KB.hb.cell (p := ⟨g, o + z * 2, none⟩) hg).trans Y0.out
  have r1 := (KB.hb.cell (p := ⟨g, o + z * 2 + 1, none⟩) hg).trans Y1.out
  go_region_held3 (fun w' => w'.cell? ⟨w.heap.size, 0, none⟩ = some (.slice A n c) ∧ w'.cell? ⟨w.heap.size, 1, none⟩ = some (.slice (some ⟨g, o, none⟩) m d) ∧ w'.cell? ⟨w.heap.size, 2, none⟩ = some (.slice C q e) ∧ w'.cell? ⟨g, o + z * 2, none⟩ = some (.string nm) ∧ w'.cell? ⟨g, o + z * 2 + 1, none⟩ = some (.slice (Z) u cu) ∧ w'.cell? ⟨qq, 0, none⟩ = some (.int .i64 po) ∧ w'.cell? ⟨qq, 1, none⟩ = some (.int .i64 ps) ∧ w'.cell? ⟨qq, 2, none⟩ = some (.string pa)) (first | (with_reducible exact ⟨(KB.tail.head).three.2.1, (KB.tail.head).three.2.2.1, (KB.tail.head).three.2.2.2.1, (KB.hb.cell (p := ⟨g, o + z * 2, none⟩) hg).trans Y0.out, (KB.hb.cell (p := ⟨g, o + z * 2 + 1, none⟩) hg).trans Y1.out, (KB.head).three.2.1, (KB.head).three.2.2.1, (KB.head).three.2.2.2.1⟩) | (with_reducible exact ⟨(KB.drew.tail.head).three.2.1, (KB.drew.tail.head).three.2.2.1, (KB.drew.tail.head).three.2.2.2.1, (KB.drew.hb.cell (p := ⟨g, o + z * 2, none⟩) hg).trans Y0.out, (KB.drew.hb.cell (p := ⟨g, o + z * 2 + 1, none⟩) hg).trans Y1.out, (KB.drew.head).three.2.1, (KB.drew.head).three.2.2.1, (KB.drew.head).three.2.2.2.1⟩) | go_keep)
    (first
      | (go_at_call 9; (with_reducible first | refine (AL.out _ (MO.out _ _ LQ KB.hb)).mono ?_ | refine (AL.out _ (MO.out _ _ LQ KB.drew.hb)).mono ?_); rintro e9 W10 ⟨rfl, hk⟩; (with_reducible first | replace KB := KB.below hk | replace KB := KB.drew.below hk); clear hk)
      | (go_at_call 19; (with_reducible first | refine (DC.out _ KB.hb).mono ?_ | refine (DC.out _ KB.drew.hb).mono ?_); rintro e9 W11 ⟨rfl, hk⟩; (with_reducible first | replace KB := KB.below hk | replace KB := KB.drew.below hk); clear hk))
  all_goals
    go_wp2
    go_ret
    exact ⟨rfl, by first | exact KB.hb | exact KB.drew.hb⟩
theorem endsL12 {Q : World → Prop} (C' : ErasQ Q) (S : Sr) (a b c : Hd) (ze : List Ze) (z i : Int) (w : World) (hv : SrcV w S a b c ze) (hx : S.in64) (_hz : In64 z) (_hi : In64 i) (LQ : Q w) : Calls Tryz.prog 4 #[.agg #[a.val, b.val, c.val], .int .i64 z, .int .i64 i] w (RetV w (.bool true)) := by
  have MO := Lib.hid C'.mono
  have AL := Lib.hid (fun W q => alive12 C' W q)
  have hn : ze.length = b.n := by have := hv.zones.len; simpa using this
  have PR := fun W (h : Below w.heap.size w W) (q : Q W) => C'.end_ S a b c ze z i W (hv.below h) hx q
  have RG := fun W (h : Below w.heap.size w W) => srcRightDR S a b c ze W (hv.below h) hx
  have ZO := fun p => zone_ok hv (z := z) (p := p)
  have hq := hv
  obtain ⟨A, n, c'⟩ := a
  obtain ⟨B, m, d⟩ := b
  obtain ⟨C, q, e⟩ := c
  replace hn : ze.length = m := hn
  have GR := fun W (h : Below w.heap.size w W) => greatE S A B C n c' m d q e ze W (hq.below h)
  cases hg : gB n m q ze with
  | true =>
    rw [hg] at GR
    exact le_g MO AL w LQ A B C n c' m d q e z i (Lib.hid GR)
  | false =>
    rw [hg] at GR
    cases hk : okSr S with
    | false =>
      rw [hk] at RG
      rw [eraAtP_none (zoneAt_bad hk)] at PR
      exact le_1 MO AL w LQ A B C n c' m d q e z i (Lib.hid GR) (Lib.hid PR) (Lib.hid RG)
    | true =>
      rw [hk] at RG
      by_cases h0 : z < 0
      · rw [eraAtP_none (zoneAt_neg h0)] at PR
        exact le_2 MO AL w LQ A B C n c' m d q e z i (decide_eq_true h0) (Lib.hid GR) (Lib.hid PR) (Lib.hid RG)
      · by_cases h1 : z ≥ (m : Int)
        · rw [eraAtP_none (zone_far hn (by omega))] at PR
          exact le_3 MO AL w LQ A B C n c' m d q e z i (decide_eq_false h0) (decide_eq_true h1) (Lib.hid GR) (Lib.hid PR) (Lib.hid RG)
        · obtain ⟨p, hp⟩ : ∃ p, ze[z.toNat]? = some p := ⟨_, List.getElem?_eq_getElem (by omega)⟩
          have hz1 := zoneAt_hit hk h0 hp
          obtain ⟨zok, er, sm, hL, hS⟩ := ZO p hz1
          obtain ⟨g, o, eB, hgg, ca⟩ := hq.zones.cells (by show 0 < m; omega)
          have eB : B = some ⟨g, o, none⟩ := eB
          subst eB
          have ra := row_at ca (show (ze.map Ze.vals)[z.toNat]? = some (Ze.vals p) by rw [List.getElem?_map, hp]; rfl)
          have zz : ((z.toNat : Nat) : Int) = z := by omega
          rw [eraAtP_some hz1] at PR
          by_cases h2 : i < 0
          · rw [if_neg (by omega)] at PR
            exact le_4 MO AL w LQ A (some ⟨g, o, none⟩) C n c' m d q e z i (decide_eq_false h0) (decide_eq_false h1) (decide_eq_true h2) (Lib.hid GR) (Lib.hid PR) (Lib.hid RG)
          · rw [if_pos (by omega)] at PR
            obtain ⟨⟨nm, es⟩, ⟨Z, u, cu⟩⟩ := p
            have hu : es.length = u := by have := er.len; simpa using this
            have Y1 : w.cell? ⟨g, o + z.toNat * 2 + 1, none⟩ = some (.slice Z u cu) := ra 1 _ rfl
            have PR0 : ∀ W, Below w.heap.size w W → Q W → _ := PR
            rw [← zz] at PR ⊢
            by_cases h3 : i ≥ (u : Int)
            · rw [show (⟨nm, es⟩ : Zn).eras[i.toNat]? = none from List.getElem?_eq_none (by show es.length ≤ _; omega)] at PR
              exact le_5 MO AL w LQ g o A C n c' m d q e z.toNat i (by omega) hq.zones.cap hq.zones.max hgg Z u cu er.cap er.max (Lib.hid Y1) (decide_eq_false h2) (decide_eq_true h3) (Lib.hid GR) (Lib.hid PR) (Lib.hid RG)
            · obtain ⟨x, hxx⟩ : ∃ x, es[i.toNat]? = some x := ⟨_, List.getElem?_eq_getElem (by omega)⟩
              rw [show (⟨nm, es⟩ : Zn).eras[i.toNat]? = some x from hxx] at PR
              have fx : ErF x := era_fit (zok.2.2.1 x (List.mem_of_getElem? hxx))
              obtain ⟨g2, o2, eZ, hg2, _, rx⟩ := era_rows er hxx
              have eZ : Z = some ⟨g2, o2, none⟩ := eZ
              subst eZ
              have sm : n ≤ 200 := sm
              have ii : ((i.toNat : Nat) : Int) = i := by omega
              have DC := fun W (h : Below w.heap.size w W) => endDR hL x fx A (some ⟨g, o, none⟩) C n c' m d q e W (hq.rules.below h) (by omega)
              unfold endO at PR
              rw [← ii] at PR ⊢
              obtain ⟨off, kind, sav, rs, fmt, til, yr, ⟨mo, ki, wd, da, ti, re⟩⟩ := x
              cases til with
              | false => exact le_6 MO AL w LQ g o A C n c' m d q e z.toNat i.toNat (by omega) hq.zones.cap hq.zones.max hgg g2 o2 u cu er.cap er.max (Lib.hid Y1) (by omega) hg2 (Lib.hid (rx 5 _ rfl)) (Lib.hid GR) (Lib.hid PR) (Lib.hid RG)
              | true => exact le_y MO AL w LQ g o A C n c' m d q e z.toNat i.toNat off kind sav rs fmt yr mo ki wd da ti re _ (by omega) hq.zones.cap hq.zones.max hgg g2 o2 u cu er.cap er.max (Lib.hid Y1) (by omega) hg2 (Lib.hid (rx 0 _ rfl)) (Lib.hid (rx 1 _ rfl)) (Lib.hid (rx 2 _ rfl)) (Lib.hid (rx 3 _ rfl)) (Lib.hid (rx 4 _ rfl)) (Lib.hid (rx 5 _ rfl)) (Lib.hid (rx 6 _ rfl)) (Lib.hid (rx 7 _ rfl)) (Lib.hid (rx 8 _ rfl)) (Lib.hid (rx 9 _ rfl)) (Lib.hid (rx 10 _ rfl)) (Lib.hid (rx 11 _ rfl)) (Lib.hid (rx 12 _ rfl)) (Lib.hid GR) (Lib.hid PR) (Lib.hid RG) (Lib.hid DC)
theorem phasesL12 {Q : World → Prop} (C' : ErasQ Q) (S : Sr) (a b c : Hd) (ze : List Ze) (z i T : Int) (w : World) (hv : SrcV w S a b c ze) (hx : S.in64) (_hz : In64 z) (_hi : In64 i) (hT : In64 T) (LQ : Q w) : Calls Tryz.prog 5 #[.agg #[a.val, b.val, c.val], .int .i64 z, .int .i64 i, .int .i64 T] w (RetV w (.bool true)) := by
  have MO := Lib.hid C'.mono
  have AL := Lib.hid (fun W q => alive12 C' W q)
  have hn : ze.length = b.n := by have := hv.zones.len; simpa using this
  have PR := fun W (h : Below w.heap.size w W) (q : Q W) => C'.phase S a b c ze z i T hT W (hv.below h) hx q
  have RG := fun W (h : Below w.heap.size w W) => srcRightDR S a b c ze W (hv.below h) hx
  have ZO := fun p => zone_ok hv (z := z) (p := p)
  have hq := hv
  obtain ⟨A, n, c'⟩ := a
  obtain ⟨B, m, d⟩ := b
  obtain ⟨C, q, e⟩ := c
  replace hn : ze.length = m := hn
  have GR := fun W (h : Below w.heap.size w W) => greatE S A B C n c' m d q e ze W (hq.below h)
  cases hg : gB n m q ze with
  | true =>
    rw [hg] at GR
    exact lp_g MO AL w LQ A B C n c' m d q e z i T (Lib.hid GR)
  | false =>
    rw [hg] at GR
    cases hk : okSr S with
    | false =>
      rw [hk] at RG
      rw [eraAtP_none (zoneAt_bad hk)] at PR
      exact lp_1 MO AL w LQ A B C n c' m d q e z i T (Lib.hid GR) (Lib.hid PR) (Lib.hid RG)
    | true =>
      rw [hk] at RG
      by_cases h0 : z < 0
      · rw [eraAtP_none (zoneAt_neg h0)] at PR
        exact lp_2 MO AL w LQ A B C n c' m d q e z i T (decide_eq_true h0) (Lib.hid GR) (Lib.hid PR) (Lib.hid RG)
      · by_cases h1 : z ≥ (m : Int)
        · rw [eraAtP_none (zone_far hn (by omega))] at PR
          exact lp_3 MO AL w LQ A B C n c' m d q e z i T (decide_eq_false h0) (decide_eq_true h1) (Lib.hid GR) (Lib.hid PR) (Lib.hid RG)
        · obtain ⟨p, hp⟩ : ∃ p, ze[z.toNat]? = some p := ⟨_, List.getElem?_eq_getElem (by omega)⟩
          have hz1 := zoneAt_hit hk h0 hp
          obtain ⟨zok, er, sm, hL, hS⟩ := ZO p hz1
          obtain ⟨g, o, eB, hgg, ca⟩ := hq.zones.cells (by show 0 < m; omega)
          have eB : B = some ⟨g, o, none⟩ := eB
          subst eB
          have ra := row_at ca (show (ze.map Ze.vals)[z.toNat]? = some (Ze.vals p) by rw [List.getElem?_map, hp]; rfl)
          have zz : ((z.toNat : Nat) : Int) = z := by omega
          rw [eraAtP_some hz1] at PR
          by_cases h2 : i < 0
          · rw [if_neg (by omega)] at PR
            exact lp_4 MO AL w LQ A (some ⟨g, o, none⟩) C n c' m d q e z i T (decide_eq_false h0) (decide_eq_false h1) (decide_eq_true h2) (Lib.hid GR) (Lib.hid PR) (Lib.hid RG)
          · rw [if_pos (by omega)] at PR
            obtain ⟨⟨nm, es⟩, ⟨Z, u, cu⟩⟩ := p
            have hu : es.length = u := by have := er.len; simpa using this
            have Y1 : w.cell? ⟨g, o + z.toNat * 2 + 1, none⟩ = some (.slice Z u cu) := ra 1 _ rfl
            have PR0 : ∀ W, Below w.heap.size w W → Q W → _ := PR
            rw [← zz] at PR ⊢
            by_cases h3 : i ≥ (u : Int)
            · rw [show (⟨nm, es⟩ : Zn).eras[i.toNat]? = none from List.getElem?_eq_none (by show es.length ≤ _; omega)] at PR
              exact lp_5 MO AL w LQ g o A C n c' m d q e z.toNat i T (by omega) hq.zones.cap hq.zones.max hgg Z u cu er.cap er.max (Lib.hid Y1) (decide_eq_false h2) (decide_eq_true h3) (Lib.hid GR) (Lib.hid PR) (Lib.hid RG)
            · obtain ⟨x, hxx⟩ : ∃ x, es[i.toNat]? = some x := ⟨_, List.getElem?_eq_getElem (by omega)⟩
              rw [show (⟨nm, es⟩ : Zn).eras[i.toNat]? = some x from hxx] at PR
              have fx : ErF x := era_fit (zok.2.2.1 x (List.mem_of_getElem? hxx))
              obtain ⟨g2, o2, eZ, hg2, _, rx⟩ := era_rows er hxx
              have eZ : Z = some ⟨g2, o2, none⟩ := eZ
              subst eZ
              have sm : n ≤ 200 := sm
              have ii : ((i.toNat : Nat) : Int) = i := by omega
              have DC := fun W (h : Below w.heap.size w W) => phaseDR hL hS x fx T A (some ⟨g, o, none⟩) C n c' m d q e W (hq.rules.below h) (by omega)
              unfold phO at PR
              have PR2 : ∀ W, Below w.heap.size w W → Q W → Calls Tryz.prog 16 _ W (RetPB W (phE abbrB S.rules x T) true) := PR
              clear PR PR0
              rw [← ii] at PR2 ⊢
              obtain ⟨p, hp⟩ : ∃ p, p = phE abbrB S.rules x T := ⟨_, rfl⟩
              rw [← hp] at PR2 DC
              obtain ⟨po, ps, pa⟩ := p
              obtain ⟨off, kind, sav, rs, fmt, til, yr, ⟨mo, ki, wd, da, ti, re⟩⟩ := x
              exact lp_y MO AL w LQ g o A C n c' m d q e z.toNat i.toNat T off kind sav rs fmt til yr mo ki wd da ti re po ps pa (by omega) hq.zones.cap hq.zones.max hgg g2 o2 u cu er.cap er.max (Lib.hid Y1) (by omega) hg2 (Lib.hid (rx 0 _ rfl)) (Lib.hid (rx 1 _ rfl)) (Lib.hid (rx 2 _ rfl)) (Lib.hid (rx 3 _ rfl)) (Lib.hid (rx 4 _ rfl)) (Lib.hid (rx 5 _ rfl)) (Lib.hid (rx 6 _ rfl)) (Lib.hid (rx 7 _ rfl)) (Lib.hid (rx 8 _ rfl)) (Lib.hid (rx 9 _ rfl)) (Lib.hid (rx 10 _ rfl)) (Lib.hid (rx 11 _ rfl)) (Lib.hid (rx 12 _ rfl)) (Lib.hid GR) (Lib.hid PR2) (Lib.hid RG) (Lib.hid DC)
theorem tellL12 {Q : World → Prop} (C' : ErasQ Q) (S : Sr) (a b c : Hd) (ze : List Ze) (z T : Int) (w : World) (hv : SrcV w S a b c ze) (hx : S.in64) (_hz : In64 z) (hT : In64 T) (LQ : Q w) : Calls Tryz.prog 6 #[.agg #[a.val, b.val, c.val], .int .i64 z, .int .i64 T] w (RetV w (.bool true)) := by
  have MO := Lib.hid C'.mono
  have AL := Lib.hid (fun W q => alive12 C' W q)
  have hn : ze.length = b.n := by have := hv.zones.len; simpa using this
  have PR := fun W (h : Below w.heap.size w W) (q : Q W) => C'.at_ S a b c ze z T hT W (hv.below h) hx q
  have RG := fun W (h : Below w.heap.size w W) => srcRightDR S a b c ze W (hv.below h) hx
  have ZO := fun p => zone_ok hv (z := z) (p := p)
  have hq := hv
  obtain ⟨A, n, c'⟩ := a
  obtain ⟨B, m, d⟩ := b
  obtain ⟨C, q, e⟩ := c
  replace hn : ze.length = m := hn
  have GR := fun W (h : Below w.heap.size w W) => greatE S A B C n c' m d q e ze W (hq.below h)
  cases hg : gB n m q ze with
  | true =>
    rw [hg] at GR
    exact lt_g MO AL w LQ A B C n c' m d q e z T (Lib.hid GR)
  | false =>
    rw [hg] at GR
    cases hk : okSr S with
    | false =>
      rw [hk] at RG
      rw [zoneAt_bad hk] at PR
      exact lt_1 MO AL w LQ A B C n c' m d q e z T (Lib.hid GR) (Lib.hid PR) (Lib.hid RG)
    | true =>
      rw [hk] at RG
      by_cases h0 : z < 0
      · rw [zoneAt_neg h0] at PR
        exact lt_2 MO AL w LQ A B C n c' m d q e z T (decide_eq_true h0) (Lib.hid GR) (Lib.hid PR) (Lib.hid RG)
      · by_cases h1 : z ≥ (m : Int)
        · rw [zone_far hn (by omega)] at PR
          exact lt_3 MO AL w LQ A B C n c' m d q e z T (decide_eq_false h0) (decide_eq_true h1) (Lib.hid GR) (Lib.hid PR) (Lib.hid RG)
        · obtain ⟨p, hp⟩ : ∃ p, ze[z.toNat]? = some p := ⟨_, List.getElem?_eq_getElem (by omega)⟩
          have hz1 := zoneAt_hit hk h0 hp
          obtain ⟨zok, er, sm, hL, hS⟩ := ZO p hz1
          obtain ⟨g, o, eB, hgg, ca⟩ := hq.zones.cells (by show 0 < m; omega)
          have eB : B = some ⟨g, o, none⟩ := eB
          subst eB
          have ra := row_at ca (show (ze.map Ze.vals)[z.toNat]? = some (Ze.vals p) by rw [List.getElem?_map, hp]; rfl)
          have zz : ((z.toNat : Nat) : Int) = z := by omega
          have DC := fun W (h : Below w.heap.size w W) => atDR hL hS p.1.name p.2.a p.2.n p.2.c p.1.eras (fun x hx => era_fit (zok.2.2.1 x hx)) T A (some ⟨g, o, none⟩) C n c' m d q e W (hq.rules.below h) (er.below h) (by have sm : n ≤ 200 := sm; omega)
          rw [hz1] at PR
          unfold atO at PR
          have PR2 : ∀ W, Below w.heap.size w W → Q W → Calls Tryz.prog 18 _ W (RetPB W (atE abbrB S.rules p.1.eras T) true) := PR
          clear PR
          rw [← zz] at PR2 ⊢
          obtain ⟨ph, hph⟩ : ∃ ph, ph = atE abbrB S.rules p.1.eras T := ⟨_, rfl⟩
          rw [← hph] at PR2 DC
          obtain ⟨po, ps, pa⟩ := ph
          obtain ⟨⟨nm, es⟩, ⟨Z, u, cu⟩⟩ := p
          exact lt_y MO AL w LQ g o A C n c' m d q e z.toNat T po ps pa (by omega) hq.zones.cap hq.zones.max hgg nm Z u cu er.cap er.max (Lib.hid (ra 0 _ rfl)) (Lib.hid (ra 1 _ rfl)) (Lib.hid GR) (Lib.hid PR2) (Lib.hid RG) (Lib.hid DC)
end Go.Proofs.YtallclimljiplaaGreatDoor
