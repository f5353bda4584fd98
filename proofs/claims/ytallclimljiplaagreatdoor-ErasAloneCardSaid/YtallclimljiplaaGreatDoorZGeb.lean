import Derived.Test.YtallclimljiplaaGreatDoorZGea
import Derived.Test.YtallclimljiplaaGreatDoorZMem
import Derived.Deep.RegionHeld3
import Derived.Test.YtallclimljiplaaGreatDoorZGc
import Derived.BigQuiet
set_option maxRecDepth 100000
set_option maxHeartbeats 64000000
namespace Go.Proofs.YtallclimljiplaaGreatDoor
open Go.RowKit
def turnO (x : Rl) (y : Int) : Option Tn := if turnIn x y then some (turnT x y) else none
theorem td_a (nm le : ByteArray) (fr last mo ki wd da ti re save y : Int) (h1 : decide (y < fr) = true) (w : World) :
    Calls Tryz.prog 54 #[.agg #[.string nm, .int .i64 fr, .int .i64 last, .int .i64 mo, .int .i64 ki, .int .i64 wd, .int .i64 da, .int .i64 ti, .int .i64 re, .int .i64 save, .string le], .int .i64 y] w fun e w' => e = .returned (.tuple #[.agg #[.int .i64 0, .int .i64 0, .int .i64 0, .string ⟨#[]⟩], .bool false]) ∧ Below w.heap.size w w' := by
  go_enter Tryz.func54, Tryz.ntmps54
  go_upto_region 1 with (fail)
  have k1 := below_box w (.cells #[.string nm, .int .i64 fr, .int .i64 last, .int .i64 mo, .int .i64 ki, .int .i64 wd, .int .i64 da, .int .i64 ti, .int .i64 re, .int .i64 save, .string le] 52)
  have kb := blk_lit w 52 [.string nm, .int .i64 fr, .int .i64 last, .int .i64 mo, .int .i64 ki, .int .i64 wd, .int .i64 da, .int .i64 ti, .int .i64 re, .int .i64 save, .string le]
  rw [show ([.string nm, .int .i64 fr, .int .i64 last, .int .i64 mo, .int .i64 ki, .int .i64 wd, .int .i64 da, .int .i64 ti, .int .i64 re, .int .i64 save, .string le] : List Value).toArray = #[.string nm, .int .i64 fr, .int .i64 last, .int .i64 mo, .int .i64 ki, .int .i64 wd, .int .i64 da, .int .i64 ti, .int .i64 re, .int .i64 save, .string le] from rfl] at kb
  have k2 := below_box (w.alloc (.cells #[.string nm, .int .i64 fr, .int .i64 last, .int .i64 mo, .int .i64 ki, .int .i64 wd, .int .i64 da, .int .i64 ti, .int .i64 re, .int .i64 save, .string le] 52)) (.cells #[.int .i64 0, .int .i64 0, .int .i64 0, .string ⟨#[]⟩] 65)
  have kr := Blk.new4 (w.alloc (.cells #[.string nm, .int .i64 fr, .int .i64 last, .int .i64 mo, .int .i64 ki, .int .i64 wd, .int .i64 da, .int .i64 ti, .int .i64 re, .int .i64 save, .string le] 52)) (.int .i64 0) (.int .i64 0) (.int .i64 0) (.string ⟨#[]⟩) 65
  simp only [World.size_alloc] at kr
  have KB := kb.below k2
  have hb := below_thru k1 k2
  generalize ((w.alloc (.cells #[.string nm, .int .i64 fr, .int .i64 last, .int .i64 mo, .int .i64 ki, .int .i64 wd, .int .i64 da, .int .i64 ti, .int .i64 re, .int .i64 save, .string le] 52)).alloc (.cells #[.int .i64 0, .int .i64 0, .int .i64 0, .string ⟨#[]⟩] 65)) = W at *
  clear k1 k2 kb
  obtain ⟨x0, x1, x2, x3, x4, x5, x6, x7, x8, x9, x10⟩ := KB.elevenC
  obtain ⟨_, r0, r1, r2, r3, f0, f1, f2, f3⟩ := kr.four
  have i5 : w.heap.size + 1 ≠ w.heap.size := by omega
  have i6 := Ne.symm i5
  go_wp2
  obtain ⟨_, P0, P1, P2, P3, _⟩ := (kr.self4 (.int .i64 0) (.int .i64 0) (.int .i64 0) (.string ⟨#[]⟩)).four
  have HB := (((hb.setCell (p := ⟨w.heap.size + 1, 0, none⟩) (by show _ ≤ w.heap.size + 1; omega) (.int .i64 0)).setCell (p := ⟨w.heap.size + 1, 1, none⟩) (by show _ ≤ w.heap.size + 1; omega) (.int .i64 0)).setCell (p := ⟨w.heap.size + 1, 2, none⟩) (by show _ ≤ w.heap.size + 1; omega) (.int .i64 0)).setCell (p := ⟨w.heap.size + 1, 3, none⟩) (by show _ ≤ w.heap.size + 1; omega) (.string ⟨#[]⟩)
  exact bodyPost_ret (v := .tuple #[.agg #[.int .i64 0, .int .i64 0, .int .i64 0, .string ⟨#[]⟩], .bool false]) (by simp [results, Tryz.results54, go_sem, P0, P1, P2, P3]) rfl ⟨rfl, HB⟩
theorem td_b (nm le : ByteArray) (fr last mo ki wd da ti re save y : Int) (h1 : decide (y < fr) = false) (h2 : decide (last < y) = true) (w : World) :
    Calls Tryz.prog 54 #[.agg #[.string nm, .int .i64 fr, .int .i64 last, .int .i64 mo, .int .i64 ki, .int .i64 wd, .int .i64 da, .int .i64 ti, .int .i64 re, .int .i64 save, .string le], .int .i64 y] w fun e w' => e = .returned (.tuple #[.agg #[.int .i64 0, .int .i64 0, .int .i64 0, .string ⟨#[]⟩], .bool false]) ∧ Below w.heap.size w w' := by
  go_enter Tryz.func54, Tryz.ntmps54
  go_upto_region 1 with (fail)
  have k1 := below_box w (.cells #[.string nm, .int .i64 fr, .int .i64 last, .int .i64 mo, .int .i64 ki, .int .i64 wd, .int .i64 da, .int .i64 ti, .int .i64 re, .int .i64 save, .string le] 52)
  have kb := blk_lit w 52 [.string nm, .int .i64 fr, .int .i64 last, .int .i64 mo, .int .i64 ki, .int .i64 wd, .int .i64 da, .int .i64 ti, .int .i64 re, .int .i64 save, .string le]
  rw [show ([.string nm, .int .i64 fr, .int .i64 last, .int .i64 mo, .int .i64 ki, .int .i64 wd, .int .i64 da, .int .i64 ti, .int .i64 re, .int .i64 save, .string le] : List Value).toArray = #[.string nm, .int .i64 fr, .int .i64 last, .int .i64 mo, .int .i64 ki, .int .i64 wd, .int .i64 da, .int .i64 ti, .int .i64 re, .int .i64 save, .string le] from rfl] at kb
  have k2 := below_box (w.alloc (.cells #[.string nm, .int .i64 fr, .int .i64 last, .int .i64 mo, .int .i64 ki, .int .i64 wd, .int .i64 da, .int .i64 ti, .int .i64 re, .int .i64 save, .string le] 52)) (.cells #[.int .i64 0, .int .i64 0, .int .i64 0, .string ⟨#[]⟩] 65)
  have kr := Blk.new4 (w.alloc (.cells #[.string nm, .int .i64 fr, .int .i64 last, .int .i64 mo, .int .i64 ki, .int .i64 wd, .int .i64 da, .int .i64 ti, .int .i64 re, .int .i64 save, .string le] 52)) (.int .i64 0) (.int .i64 0) (.int .i64 0) (.string ⟨#[]⟩) 65
  simp only [World.size_alloc] at kr
  have KB := kb.below k2
  have hb := below_thru k1 k2
  generalize ((w.alloc (.cells #[.string nm, .int .i64 fr, .int .i64 last, .int .i64 mo, .int .i64 ki, .int .i64 wd, .int .i64 da, .int .i64 ti, .int .i64 re, .int .i64 save, .string le] 52)).alloc (.cells #[.int .i64 0, .int .i64 0, .int .i64 0, .string ⟨#[]⟩] 65)) = W at *
  clear k1 k2 kb
  obtain ⟨x0, x1, x2, x3, x4, x5, x6, x7, x8, x9, x10⟩ := KB.elevenC
  obtain ⟨_, r0, r1, r2, r3, f0, f1, f2, f3⟩ := kr.four
  have i5 : w.heap.size + 1 ≠ w.heap.size := by omega
  have i6 := Ne.symm i5
  go_wp2
  obtain ⟨_, P0, P1, P2, P3, _⟩ := (kr.self4 (.int .i64 0) (.int .i64 0) (.int .i64 0) (.string ⟨#[]⟩)).four
  have HB := (((hb.setCell (p := ⟨w.heap.size + 1, 0, none⟩) (by show _ ≤ w.heap.size + 1; omega) (.int .i64 0)).setCell (p := ⟨w.heap.size + 1, 1, none⟩) (by show _ ≤ w.heap.size + 1; omega) (.int .i64 0)).setCell (p := ⟨w.heap.size + 1, 2, none⟩) (by show _ ≤ w.heap.size + 1; omega) (.int .i64 0)).setCell (p := ⟨w.heap.size + 1, 3, none⟩) (by show _ ≤ w.heap.size + 1; omega) (.string ⟨#[]⟩)
  exact bodyPost_ret (v := .tuple #[.agg #[.int .i64 0, .int .i64 0, .int .i64 0, .string ⟨#[]⟩], .bool false]) (by simp [results, Tryz.results54, go_sem, P0, P1, P2, P3]) rfl ⟨rfl, HB⟩
theorem td_c (nm le : ByteArray) (fr last mo ki wd da ti re save y : Int) (h1 : decide (y < fr) = false) (h2 : decide (last < y) = false) (a : Int) (LO : Hid (∀ W, Calls Tryz.prog 29 #[.agg #[.int .i64 mo, .int .i64 ki, .int .i64 wd, .int .i64 da, .int .i64 ti, .int .i64 re], .int .i64 y] W (RetNumB W a false))) (w : World) :
    Calls Tryz.prog 54 #[.agg #[.string nm, .int .i64 fr, .int .i64 last, .int .i64 mo, .int .i64 ki, .int .i64 wd, .int .i64 da, .int .i64 ti, .int .i64 re, .int .i64 save, .string le], .int .i64 y] w fun e w' => e = .returned (.tuple #[.agg #[.int .i64 0, .int .i64 0, .int .i64 0, .string ⟨#[]⟩], .bool false]) ∧ Below w.heap.size w w' := by
  go_enter Tryz.func54, Tryz.ntmps54
  go_upto_region 1 with (fail)
  have k1 := below_box w (.cells #[.string nm, .int .i64 fr, .int .i64 last, .int .i64 mo, .int .i64 ki, .int .i64 wd, .int .i64 da, .int .i64 ti, .int .i64 re, .int .i64 save, .string le] 52)
  have kb := blk_lit w 52 [.string nm, .int .i64 fr, .int .i64 last, .int .i64 mo, .int .i64 ki, .int .i64 wd, .int .i64 da, .int .i64 ti, .int .i64 re, .int .i64 save, .string le]
  rw [show ([.string nm, .int .i64 fr, .int .i64 last, .int .i64 mo, .int .i64 ki, .int .i64 wd, .int .i64 da, .int .i64 ti, .int .i64 re, .int .i64 save, .string le] : List Value).toArray = #[.string nm, .int .i64 fr, .int .i64 last, .int .i64 mo, .int .i64 ki, .int .i64 wd, .int .i64 da, .int .i64 ti, .int .i64 re, .int .i64 save, .string le] from rfl] at kb
  have k2 := below_box (w.alloc (.cells #[.string nm, .int .i64 fr, .int .i64 last, .int .i64 mo, .int .i64 ki, .int .i64 wd, .int .i64 da, .int .i64 ti, .int .i64 re, .int .i64 save, .string le] 52)) (.cells #[.int .i64 0, .int .i64 0, .int .i64 0, .string ⟨#[]⟩] 65)
  have kr := Blk.new4 (w.alloc (.cells #[.string nm, .int .i64 fr, .int .i64 last, .int .i64 mo, .int .i64 ki, .int .i64 wd, .int .i64 da, .int .i64 ti, .int .i64 re, .int .i64 save, .string le] 52)) (.int .i64 0) (.int .i64 0) (.int .i64 0) (.string ⟨#[]⟩) 65
  simp only [World.size_alloc] at kr
  have KB := kb.below k2
  have hb := below_thru k1 k2
  generalize ((w.alloc (.cells #[.string nm, .int .i64 fr, .int .i64 last, .int .i64 mo, .int .i64 ki, .int .i64 wd, .int .i64 da, .int .i64 ti, .int .i64 re, .int .i64 save, .string le] 52)).alloc (.cells #[.int .i64 0, .int .i64 0, .int .i64 0, .string ⟨#[]⟩] 65)) = W at *
  clear k1 k2 kb
  obtain ⟨x0, x1, x2, x3, x4, x5, x6, x7, x8, x9, x10⟩ := KB.elevenC
  obtain ⟨_, r0, r1, r2, r3, f0, f1, f2, f3⟩ := kr.four
  have i5 : w.heap.size + 1 ≠ w.heap.size := by omega
  have i6 := Ne.symm i5
  go_wp2_with (go_at_call 29; refine (LO.out _).mono ?_; clear LO; rintro e W9 ⟨rfl, hk⟩; replace KB := KB.below hk; replace kr := kr.below hk; replace hb := below_thru hb hk; clear hk x0 x1 x2 x3 x4 x5 x6 x7 x8 x9 x10 r0 r1 r2 r3 f0 f1 f2 f3; obtain ⟨x0, x1, x2, x3, x4, x5, x6, x7, x8, x9, x10⟩ := KB.elevenC; obtain ⟨_, r0, r1, r2, r3, f0, f1, f2, f3⟩ := kr.four)
  go_wp2
  obtain ⟨_, P0, P1, P2, P3, _⟩ := (kr.self4 (.int .i64 0) (.int .i64 0) (.int .i64 0) (.string ⟨#[]⟩)).four
  have HB := (((hb.setCell (p := ⟨w.heap.size + 1, 0, none⟩) (by show _ ≤ w.heap.size + 1; omega) (.int .i64 0)).setCell (p := ⟨w.heap.size + 1, 1, none⟩) (by show _ ≤ w.heap.size + 1; omega) (.int .i64 0)).setCell (p := ⟨w.heap.size + 1, 2, none⟩) (by show _ ≤ w.heap.size + 1; omega) (.int .i64 0)).setCell (p := ⟨w.heap.size + 1, 3, none⟩) (by show _ ≤ w.heap.size + 1; omega) (.string ⟨#[]⟩)
  exact bodyPost_ret (v := .tuple #[.agg #[.int .i64 0, .int .i64 0, .int .i64 0, .string ⟨#[]⟩], .bool false]) (by simp [results, Tryz.results54, go_sem, P0, P1, P2, P3]) rfl ⟨rfl, HB⟩
theorem td_d (nm le : ByteArray) (fr last mo ki wd da ti re save y : Int) (h1 : decide (y < fr) = false) (h2 : decide (last < y) = false) (a : Int) (LO : Hid (∀ W, Calls Tryz.prog 29 #[.agg #[.int .i64 mo, .int .i64 ki, .int .i64 wd, .int .i64 da, .int .i64 ti, .int .i64 re], .int .i64 y] W (RetNumB W a true))) (w : World) :
    Calls Tryz.prog 54 #[.agg #[.string nm, .int .i64 fr, .int .i64 last, .int .i64 mo, .int .i64 ki, .int .i64 wd, .int .i64 da, .int .i64 ti, .int .i64 re, .int .i64 save, .string le], .int .i64 y] w fun e w' => e = .returned (.tuple #[.agg #[.int .i64 a, .int .i64 re, .int .i64 save, .string le], .bool true]) ∧ Below w.heap.size w w' := by
  go_enter Tryz.func54, Tryz.ntmps54
  go_upto_region 1 with (fail)
  have k1 := below_box w (.cells #[.string nm, .int .i64 fr, .int .i64 last, .int .i64 mo, .int .i64 ki, .int .i64 wd, .int .i64 da, .int .i64 ti, .int .i64 re, .int .i64 save, .string le] 52)
  have kb := blk_lit w 52 [.string nm, .int .i64 fr, .int .i64 last, .int .i64 mo, .int .i64 ki, .int .i64 wd, .int .i64 da, .int .i64 ti, .int .i64 re, .int .i64 save, .string le]
  rw [show ([.string nm, .int .i64 fr, .int .i64 last, .int .i64 mo, .int .i64 ki, .int .i64 wd, .int .i64 da, .int .i64 ti, .int .i64 re, .int .i64 save, .string le] : List Value).toArray = #[.string nm, .int .i64 fr, .int .i64 last, .int .i64 mo, .int .i64 ki, .int .i64 wd, .int .i64 da, .int .i64 ti, .int .i64 re, .int .i64 save, .string le] from rfl] at kb
  have k2 := below_box (w.alloc (.cells #[.string nm, .int .i64 fr, .int .i64 last, .int .i64 mo, .int .i64 ki, .int .i64 wd, .int .i64 da, .int .i64 ti, .int .i64 re, .int .i64 save, .string le] 52)) (.cells #[.int .i64 0, .int .i64 0, .int .i64 0, .string ⟨#[]⟩] 65)
  have kr := Blk.new4 (w.alloc (.cells #[.string nm, .int .i64 fr, .int .i64 last, .int .i64 mo, .int .i64 ki, .int .i64 wd, .int .i64 da, .int .i64 ti, .int .i64 re, .int .i64 save, .string le] 52)) (.int .i64 0) (.int .i64 0) (.int .i64 0) (.string ⟨#[]⟩) 65
  simp only [World.size_alloc] at kr
  have KB := kb.below k2
  have hb := below_thru k1 k2
  generalize ((w.alloc (.cells #[.string nm, .int .i64 fr, .int .i64 last, .int .i64 mo, .int .i64 ki, .int .i64 wd, .int .i64 da, .int .i64 ti, .int .i64 re, .int .i64 save, .string le] 52)).alloc (.cells #[.int .i64 0, .int .i64 0, .int .i64 0, .string ⟨#[]⟩] 65)) = W at *
  clear k1 k2 kb
  obtain ⟨x0, x1, x2, x3, x4, x5, x6, x7, x8, x9, x10⟩ := KB.elevenC
  obtain ⟨_, r0, r1, r2, r3, f0, f1, f2, f3⟩ := kr.four
  have i5 : w.heap.size + 1 ≠ w.heap.size := by omega
  have i6 := Ne.symm i5
  go_wp2_with (go_at_call 29; refine (LO.out _).mono ?_; clear LO; rintro e W9 ⟨rfl, hk⟩; replace KB := KB.below hk; replace kr := kr.below hk; replace hb := below_thru hb hk; clear hk x0 x1 x2 x3 x4 x5 x6 x7 x8 x9 x10 r0 r1 r2 r3 f0 f1 f2 f3; obtain ⟨x0, x1, x2, x3, x4, x5, x6, x7, x8, x9, x10⟩ := KB.elevenC; obtain ⟨_, r0, r1, r2, r3, f0, f1, f2, f3⟩ := kr.four)
  go_wp2
  obtain ⟨_, P0, P1, P2, P3, _⟩ := (kr.self4 (.int .i64 a) (.int .i64 re) (.int .i64 save) (.string le)).four
  have HB := (((hb.setCell (p := ⟨w.heap.size + 1, 0, none⟩) (by show _ ≤ w.heap.size + 1; omega) (.int .i64 a)).setCell (p := ⟨w.heap.size + 1, 1, none⟩) (by show _ ≤ w.heap.size + 1; omega) (.int .i64 re)).setCell (p := ⟨w.heap.size + 1, 2, none⟩) (by show _ ≤ w.heap.size + 1; omega) (.int .i64 save)).setCell (p := ⟨w.heap.size + 1, 3, none⟩) (by show _ ≤ w.heap.size + 1; omega) (.string le)
  exact bodyPost_ret (v := .tuple #[.agg #[.int .i64 a, .int .i64 re, .int .i64 save, .string le], .bool true]) (by simp [results, Tryz.results54, go_sem, P0, P1, P2, P3]) rfl ⟨rfl, HB⟩
theorem turnO_none {x : Rl} {y : Int} (h : ¬ turnIn x y) : turnO x y = none := if_neg h
theorem turnO_some {x : Rl} {y : Int} (h : turnIn x y) : turnO x y = some (turnT x y) := if_pos h
theorem turnDR (x : Rl) (y : Int) (w : World) : Calls Tryz.prog 54 #[x.val, .int .i64 y] w (RetTB w (turnO x y)) := by
  have lo := fun W => localR x.sp y W
  obtain ⟨nm, fr, last, ⟨mo, ki, wd, da, ti, re⟩, save, le⟩ := x
  by_cases h1 : y < fr
  · rw [turnO_none (fun c => by have := c.1.1; simp only at this; omega)]
    exact td_a _ _ _ _ _ _ _ _ _ _ _ _ (decide_eq_true h1) w
  by_cases h2 : last < y
  · rw [turnO_none (fun c => by have := c.1.2; simp only at this; omega)]
    exact td_b _ _ _ _ _ _ _ _ _ _ _ _ (decide_eq_false h1) (decide_eq_true h2) w
  by_cases h3 : onOk ⟨mo, ki, wd, da, ti, re⟩ y
  · rw [turnO_some ⟨⟨Int.not_lt.mp h1, Int.not_lt.mp h2⟩, h3⟩]
    rw [decide_eq_true h3] at lo
    exact td_d _ _ _ _ _ _ _ _ _ _ _ _ (decide_eq_false h1) (decide_eq_false h2) _ (Lib.hid lo) w
  · rw [turnO_none (fun c => h3 c.2)]
    rw [decide_eq_false h3] at lo
    exact td_c _ _ _ _ _ _ _ _ _ _ _ _ (decide_eq_false h1) (decide_eq_false h2) _ (Lib.hid lo) w
theorem lesserDR (a b : Int) (w : World) : Calls Tryz.prog 52 #[.int .i64 a, .int .i64 b] w (fun e w1 => e = .returned (.int .i64 (min a b)) ∧ w = w1) := by
  by_cases h : a < b
  · have d : decide (a < b) = true := decide_eq_true h
    have E := Lib.hid (show min a b = a by omega)
    go_enter Tryz.func52, Tryz.ntmps52
    go_wp2
    go_ret
    exact ⟨by rw [E.out]; rfl, rfl⟩
  · have d : decide (a < b) = false := decide_eq_false h
    have E := Lib.hid (show min a b = b by omega)
    go_enter Tryz.func52, Tryz.ntmps52
    go_wp2
    go_ret
    exact ⟨by rw [E.out]; rfl, rfl⟩
theorem tdiv_neg_day {T : Int} (h : T < 0) : T.tdiv 86400 = -((-T) / 86400) ∧ T.tmod 86400 = -((-T) % 86400) := by
  have a := Int.neg_tdiv (a := -T) (b := 86400)
  have b := Int.neg_tmod (-T) 86400
  rw [Int.neg_neg] at a b
  rw [Int.tdiv_eq_ediv_of_nonneg (show 0 ≤ -T by omega)] at a
  rw [Int.tmod_eq_emod_of_nonneg (show 0 ≤ -T by omega)] at b
  exact ⟨a, b⟩
theorem yrD_a (T : Int) (h : T < -9000000000000) (w : World) : Calls Tryz.prog 53 #[.int .i64 T] w (RetN w (-271821)) := by
  go_enter Tryz.func53, Tryz.ntmps53
  go_wp2
  go_ret
  exact ⟨rfl, Below.refl _ _⟩
theorem yrD_b (T : Int) (h1 : ¬ T < -9000000000000) (h2 : 8640000000000 < T) (w : World) : Calls Tryz.prog 53 #[.int .i64 T] w (RetN w (275760)) := by
  go_enter Tryz.func53, Tryz.ntmps53
  go_wp2
  go_ret
  exact ⟨rfl, Below.refl _ _⟩
theorem yrD_c (T : Int) (h1 : 0 ≤ T) (h2 : T ≤ 8640000000000) (y m d : Int) (OFR : Hid (∀ W, Calls Tryz.prog 73 #[.int .i64 (T / 86400)] W (RetDateB W y m d true))) (w : World) : Calls Tryz.prog 53 #[.int .i64 T] w (RetN w (y)) := by
  go_enter Tryz.func53, Tryz.ntmps53
  go_wp2_with (go_at_call 73; refine (OFR.out _).mono ?_; clear OFR; rintro e W9 ⟨rfl, hk⟩)
  go_ret
  exact ⟨rfl, below_thru hk (below_box _ _)⟩
theorem yrD_d (T : Int) (h1 : -9000000000000 ≤ T) (h2 : T < 0) (q1 : -104166667 ≤ T.tdiv 86400) (q2 : T.tdiv 86400 ≤ 0) (r2 : T.tmod 86400 < 0) (q3 : -100000001 ≤ T.tdiv 86400 - 1) (y m d : Int) (OFR : Hid (∀ W, Calls Tryz.prog 73 #[.int .i64 (T.tdiv 86400 - 1)] W (RetDateB W y m d true))) (w : World) : Calls Tryz.prog 53 #[.int .i64 T] w (RetN w (y)) := by
  go_enter Tryz.func53, Tryz.ntmps53
  go_wp2_with (go_at_call 73; refine (OFR.out _).mono ?_; clear OFR; rintro e W9 ⟨rfl, hk⟩)
  go_ret
  exact ⟨rfl, below_thru hk (below_box _ _)⟩
theorem yrD_e (T : Int) (h1 : -9000000000000 ≤ T) (h2 : T < 0) (q1 : -104166667 ≤ T.tdiv 86400) (q2 : T.tdiv 86400 ≤ 0) (r2 : ¬ T.tmod 86400 < 0) (q3 : -100000001 ≤ T.tdiv 86400) (y m d : Int) (OFR : Hid (∀ W, Calls Tryz.prog 73 #[.int .i64 (T.tdiv 86400)] W (RetDateB W y m d true))) (w : World) : Calls Tryz.prog 53 #[.int .i64 T] w (RetN w (y)) := by
  go_enter Tryz.func53, Tryz.ntmps53
  go_wp2_with (go_at_call 73; refine (OFR.out _).mono ?_; clear OFR; rintro e W9 ⟨rfl, hk⟩)
  go_ret
  exact ⟨rfl, below_thru hk (below_box _ _)⟩
theorem yrD_f (T : Int) (h1 : -9000000000000 ≤ T) (h2 : T < 0) (q1 : -104166667 ≤ T.tdiv 86400) (q2 : T.tdiv 86400 ≤ 0) (r2 : T.tmod 86400 < 0) (q3 : T.tdiv 86400 - 1 < -100000001) (w : World) : Calls Tryz.prog 53 #[.int .i64 T] w (RetN w (-271821)) := by
  go_enter Tryz.func53, Tryz.ntmps53
  go_wp2
  go_ret
  exact ⟨rfl, Below.refl _ _⟩
theorem yrD_g (T : Int) (h1 : -9000000000000 ≤ T) (h2 : T < 0) (q1 : -104166667 ≤ T.tdiv 86400) (q2 : T.tdiv 86400 ≤ 0) (r2 : ¬ T.tmod 86400 < 0) (q3 : T.tdiv 86400 < -100000001) (w : World) : Calls Tryz.prog 53 #[.int .i64 T] w (RetN w (-271821)) := by
  go_enter Tryz.func53, Tryz.ntmps53
  go_wp2
  go_ret
  exact ⟨rfl, Below.refl _ _⟩
theorem of_year (n : Int) (h1 : -100000001 ≤ n) (h2 : n ≤ 100000000) : ∃ y m d : Int, (jan y ≤ n ∧ n < jan (y + 1)) ∧ ∀ W, Calls Tryz.prog 73 #[.int .i64 n] W (RetDateB W y m d true) := by
  obtain ⟨y, m, d, k, e⟩ := day_of n
  have := num_year k
  refine ⟨y, m, d, ⟨by omega, by omega⟩, fun W => ofR_yes n y m d ⟨k, by omega, by omega⟩ e W⟩
theorem yearDR (T : Int) : ∃ Y, yearDoc T Y ∧ ∀ w, Calls Tryz.prog 53 #[.int .i64 T] w (RetN w Y) := by
  unfold yearDoc
  by_cases h1 : T < -9000000000000
  · exact ⟨-271821, by rw [if_pos h1], fun w => yrD_a T h1 w⟩
  simp only [if_neg h1]
  by_cases h2 : 8640000000000 < T
  · exact ⟨275760, by rw [if_pos h2], fun w => yrD_b T h1 h2 w⟩
  simp only [if_neg h2]
  by_cases h3 : T / 86400 < -100000001
  · simp only [if_pos h3]
    refine ⟨-271821, rfl, fun w => ?_⟩
    obtain ⟨a, b⟩ := tdiv_neg_day (T := T) (by omega)
    by_cases c : T.tmod 86400 < 0
    · exact yrD_f T (by omega) (by omega) (by omega) (by omega) c (by omega) w
    · exact yrD_g T (by omega) (by omega) (by omega) (by omega) c (by omega) w
  simp only [if_neg h3]
  obtain ⟨y, m, d, k, o⟩ := of_year (T / 86400) (by omega) (by omega)
  refine ⟨y, k, fun w => ?_⟩
  by_cases s : 0 ≤ T
  · exact yrD_c T s (by omega) y m d (Lib.hid o) w
  obtain ⟨a, b⟩ := tdiv_neg_day (T := T) (by omega)
  by_cases c : T.tmod 86400 < 0
  · exact yrD_d T (by omega) (by omega) (by omega) (by omega) c (by omega) y m d (Lib.hid (by rw [show T.tdiv 86400 - 1 = T / 86400 by omega]; exact o)) w
  · exact yrD_e T (by omega) (by omega) (by omega) (by omega) c (by omega) y m d (Lib.hid (by rw [show T.tdiv 86400 = T / 86400 by omega]; exact o)) w
theorem fit_no {L : List Rl} {k : Nat} {x : Rl} (h : L[k]? = some x) (b : ¬ x.fit) : fitB L = false := by
  rw [← Bool.not_eq_true, fit_yes]
  exact fun c => b (c x (List.mem_of_getElem? h))
theorem yearDoc_in {T Y : Int} (h : yearDoc T Y) : -271821 ≤ Y ∧ Y ≤ 275760 := by
  unfold yearDoc at h
  split at h
  · omega
  split at h
  · omega
  split at h
  · omega
  have c2 : 100000000 < jan 275761 := by decide
  constructor
  · apply Classical.byContradiction
    intro k
    have := jan_le (show Y + 1 ≤ -271821 by omega)
    have c3 : jan (-271821) < -100000001 := by decide
    omega
  · apply Classical.byContradiction
    intro k
    have := jan_le (show 275761 ≤ Y by omega)
    omega
def nextO (x : Rl) (b : Option Tn) : Option Int → Option Tn
  | none => b
  | some y => match b with
    | none => some (turnT x y)
    | some t => if t.at_ ≤ (turnT x y).at_ then some (turnT x y) else some t
theorem nextO_up {x : Rl} {b : Tn} {y : Int} (h : b.at_ ≤ (turnT x y).at_) : nextO x (some b) (some y) = some (turnT x y) := if_pos h
theorem nextO_old {x : Rl} {b : Tn} {y : Int} (h : ¬ b.at_ ≤ (turnT x y).at_) : nextO x (some b) (some y) = some b := if_neg h
theorem latest_next {L : List Rl} {P : Tn → Prop} {k : Nat} {x : Rl} (hx : L[k]? = some x) {b : Option Tn} (h : Latest (L.take k) P b) (r : Option Int) (hr : LatestOf x P r) : Latest (L.take (k + 1)) P (nextO x b r) := by
  have := h.next hx hr
  cases r <;> cases b <;> exact this
structure AhW (w : World) (b : List Value) (X : World) : Prop where
  hb : Below w.heap.size w X
  k0 : Blk X w.heap.size Tn.zero.vals
  k1 : Blk X (w.heap.size + 1) b
theorem AhW.below {w : World} {b : List Value} {X X' : World} (h : AhW w b X) (k : Below X.heap.size X X') : AhW w b X' := ⟨below_thru h.hb k, h.k0.below k, h.k1.below k⟩
theorem AhW.alloc {w : World} {b : List Value} {X : World} (h : AhW w b X) (o : Obj) : AhW w b (X.alloc o) := h.below (below_box X o)
theorem AhW.drew {w : World} {b : List Value} {X : World} (h : AhW w b X) : AhW w b X.drew := h.below (Below.refl _ _).drew
theorem AhW.at_ {w : World} {b : List Value} {X : World} (h : AhW w b X) {g q : Nat} {v : Value} (hg : g < w.heap.size) (r : w.cell? ⟨g, q, none⟩ = some v) : X.cell? ⟨g, q, none⟩ = some v := (h.hb.cell (p := ⟨g, q, none⟩) hg).trans r
theorem AhW.store {w : World} {u v x y : Value} {X : World} (h : AhW w [u, v, x, y] X) (u' v' x' y' : Value) : AhW w [u', v', x', y'] ((((X.setCell ⟨w.heap.size + 1, 0, none⟩ u').setCell ⟨w.heap.size + 1, 1, none⟩ v').setCell ⟨w.heap.size + 1, 2, none⟩ x').setCell ⟨w.heap.size + 1, 3, none⟩ y') :=
  ⟨(((h.hb.setCell (p := ⟨w.heap.size + 1, 0, none⟩) (by show _ ≤ w.heap.size + 1; omega) u').setCell (p := ⟨w.heap.size + 1, 1, none⟩) (by show _ ≤ w.heap.size + 1; omega) v').setCell (p := ⟨w.heap.size + 1, 2, none⟩) (by show _ ≤ w.heap.size + 1; omega) x').setCell (p := ⟨w.heap.size + 1, 3, none⟩) (by show _ ≤ w.heap.size + 1; omega) y',
    (((h.k0.far (by omega) 0 u').far (by omega) 1 v').far (by omega) 2 x').far (by omega) 3 y', h.k1.self4 u' v' x' y'⟩
theorem aheadDR {L : List Rl} (hL : fitL L) (at_ : Int) (A : Option Addr) (n c : Nat) (w : World) (hm : RulV w A n c L) : Calls Tryz.prog 30 #[.slice A n c, .int .i64 at_] w (RetTB w (aheadO L at_)) := by
  have mx : n ≤ 9223372036854775807 := Nat.le_trans hm.cap hm.max
  have LN := Lib.hid (show L.length = n by have := hm.len; simpa using this)
  obtain ⟨Y, hY, YR⟩ := yearDR at_
  have YO := Lib.hid (yearDoc_ok hY)
  obtain ⟨yb1, yb2⟩ := yearDoc_in hY
  have YR := Lib.hid YR
  have HA := Lib.hid hm
  have FIT := Lib.hid hL
  clear hm hL hY
  go_enter Tryz.func30, Tryz.ntmps30
  go_upto_region 2 with (fail)
  have HW : AhW w [.int .i64 0, .int .i64 0, .int .i64 0, .string ⟨#[]⟩] ((w.alloc (.cells #[.int .i64 0, .int .i64 0, .int .i64 0, .string ⟨#[]⟩] 65)).alloc (.cells #[.int .i64 0, .int .i64 0, .int .i64 0, .string ⟨#[]⟩] 65)) := by
    have k1 := below_box w (.cells #[.int .i64 0, .int .i64 0, .int .i64 0, .string ⟨#[]⟩] 65)
    have k2 := below_box (w.alloc (.cells #[.int .i64 0, .int .i64 0, .int .i64 0, .string ⟨#[]⟩] 65)) (.cells #[.int .i64 0, .int .i64 0, .int .i64 0, .string ⟨#[]⟩] 65)
    have b1 := Blk.new4 (w.alloc (.cells #[.int .i64 0, .int .i64 0, .int .i64 0, .string ⟨#[]⟩] 65)) (.int .i64 0) (.int .i64 0) (.int .i64 0) (.string ⟨#[]⟩) 65
    simp only [World.size_alloc] at b1
    exact ⟨below_thru k1 k2, (Blk.new4 w (.int .i64 0) (.int .i64 0) (.int .i64 0) (.string ⟨#[]⟩) 65).below k2, b1⟩
  generalize ((w.alloc (.cells #[.int .i64 0, .int .i64 0, .int .i64 0, .string ⟨#[]⟩] 65)).alloc (.cells #[.int .i64 0, .int .i64 0, .int .i64 0, .string ⟨#[]⟩] 65)) = W0 at *
  go_wp2_with fail
  go_loopw [7, 8] (fun v7 v8 wr => ∃ (k : Nat) (b : Option Tn), k ≤ n ∧ v7 = .bool b.isSome ∧ v8 = .int .i64 k ∧ Latest (L.take k) (fun t => t.at_ < at_) b ∧ AhW w (b.getD Tn.zero).vals wr) (fun _ v _ => n - (intOf v).toNat)
  case atStart => exact ⟨0, none, by omega, rfl, rfl, Latest.zero L _, HW⟩
  case round =>
    clear HW
    obtain ⟨k, b, hk, rfl, rfl, hR, HW⟩ := hrel
    have HR := Lib.hid hR
    clear hR
    obtain ⟨⟨ba, br, bs, bl⟩, hq⟩ : ∃ q, q = b.getD Tn.zero := ⟨_, rfl⟩
    have HQ := Lib.hid hq
    rw [← hq] at HW
    clear hq
    by_cases h4 : k < n
    · obtain ⟨x, hxx⟩ : ∃ x, L[k]? = some x := ⟨_, List.getElem?_eq_getElem (by rw [LN.out]; exact h4)⟩
      obtain ⟨g, o, ea0, hg, ca⟩ := HA.out.cells (by omega)
      subst ea0
      have ra := row_at ca (show (L.map Rl.vals)[k]? = some (Rl.vals x) by rw [List.getElem?_map, hxx]; rfl)
      have fx := FIT.out x (List.mem_of_getElem? hxx)
      have HN := Lib.hid (show ∀ r, LatestOf x (fun t => t.at_ < at_) r → Latest (L.take (k + 1)) (fun t => t.at_ < at_) (nextO x b r) from latest_next hxx HR.out)
      have TR := Lib.hid (fun y W => turnDR x y W)
      have NT := Lib.hid (noneFrom_top (x := x) YO.out (P := fun t => t.at_ < at_) (fun t h => by have : t.at_ < at_ := h; omega))
      obtain ⟨⟨f1, f2⟩, ⟨f3, f4⟩, _, _⟩ := fx
      obtain ⟨X, hX⟩ : ∃ X, X = x := ⟨_, rfl⟩
      rw [← hX] at HN TR NT
      have HX := Lib.hid hX
      clear hX
      obtain ⟨nm, fr, last, ⟨mo, ki, wd, da, ti, re⟩, save, le⟩ := x
      simp only at f1 f2 f3 f4
      have x0 : w.cell? ⟨g, o + k * 11, none⟩ = some (.string nm) := ra 0 _ rfl
      have x1 : w.cell? ⟨g, o + k * 11 + 1, none⟩ = some (.int .i64 fr) := ra 1 _ rfl
      have x2 : w.cell? ⟨g, o + k * 11 + 2, none⟩ = some (.int .i64 last) := ra 2 _ rfl
      have x3 : w.cell? ⟨g, o + k * 11 + 3, none⟩ = some (.int .i64 mo) := ra 3 _ rfl
      have x4 : w.cell? ⟨g, o + k * 11 + 4, none⟩ = some (.int .i64 ki) := ra 4 _ rfl
      have x5 : w.cell? ⟨g, o + k * 11 + 5, none⟩ = some (.int .i64 wd) := ra 5 _ rfl
      have x6 : w.cell? ⟨g, o + k * 11 + 6, none⟩ = some (.int .i64 da) := ra 6 _ rfl
      have x7 : w.cell? ⟨g, o + k * 11 + 7, none⟩ = some (.int .i64 ti) := ra 7 _ rfl
      have x8 : w.cell? ⟨g, o + k * 11 + 8, none⟩ = some (.int .i64 re) := ra 8 _ rfl
      have x9 : w.cell? ⟨g, o + k * 11 + 9, none⟩ = some (.int .i64 save) := ra 9 _ rfl
      have x10 : w.cell? ⟨g, o + k * 11 + 10, none⟩ = some (.string le) := ra 10 _ rfl
      clear ca ra hxx HR
      have z1 := HW.at_ hg x1
      have z2 := HW.at_ hg x2
      go_wp2_with fail
      go_region_held3 (fun w' => w'.cell? ⟨g, o + k * 11 + 2, none⟩ = some (.int .i64 last)) (first | (with_reducible exact AhW.at_ HW hg x2) | (with_reducible exact AhW.at_ HW.drew hg x2) | (with_reducible exact AhW.at_ (HW.alloc _) hg x2) | (with_reducible exact AhW.at_ (HW.drew.alloc _) hg x2) | (with_reducible exact AhW.at_ (HW.alloc _).drew hg x2) | go_keep)
        (first
          | (go_at_call 53; (with_reducible refine (YR.out _).mono ?_); rintro e9 W9 ⟨rfl, hk⟩
             with_reducible (first | replace HW := AhW.below HW hk | replace HW := AhW.below HW.drew hk | replace HW := AhW.below (HW.alloc _) hk | replace HW := AhW.below (HW.drew.alloc _) hk | replace HW := AhW.below (HW.alloc _).drew hk)
             clear hk)
          | (go_at_call 52; (with_reducible refine (lesserDR _ _ _).mono ?_); rintro e9 W9 ⟨rfl, rfl⟩))
      have hs : IntKind.i64.wrap (Y + 2) = Y + 2 := IntWalk.i64_in _ (by omega)
      rw [hs]
      have NT := Lib.hid (show noneFrom X (fun t => t.at_ < at_) (min last (Y + 2)) from by have := NT.out; rw [HX.out] at this ⊢; exact this)
      obtain ⟨m, hm⟩ : ∃ m, m = min last (Y + 2) := ⟨_, rfl⟩
      rw [← hm] at NT ⊢
      have m1 : -300000 ≤ m := by omega
      have m2 : m ≤ 275762 := by omega
      clear hm hs z1 z2
      go_wp2_with fail
      go_loopw [7, 9] (fun v7 v9 wr => ∃ y : Int, v7 = .bool b.isSome ∧ v9 = .int .i64 y ∧ -300000 ≤ y ∧ y ≤ 275762 ∧ noneFrom X (fun t => t.at_ < at_) y ∧ AhW w [.int .i64 ba, .int .i64 br, .int .i64 bs, .string bl] wr) (fun _ v _ => (intOf v - fr + 1).toNat)
      case atStart => exact ⟨m, rfl, rfl, m1, m2, NT.out, HW⟩
      case round =>
        clear HW NT
        obtain ⟨y, rfl, rfl, y1, y2, hN, HW⟩ := hrel
        have HN5 := Lib.hid hN
        clear hN
        by_cases h5 : fr ≤ y
        · have TC := Lib.hid (fun W => (show Calls Tryz.prog 54 #[.agg #[.string nm, .int .i64 fr, .int .i64 last, .int .i64 mo, .int .i64 ki, .int .i64 wd, .int .i64 da, .int .i64 ti, .int .i64 re, .int .i64 save, .string le], .int .i64 y] W (RetTB W (turnO X y)) from by rw [show (Value.agg #[.string nm, .int .i64 fr, .int .i64 last, .int .i64 mo, .int .i64 ki, .int .i64 wd, .int .i64 da, .int .i64 ti, .int .i64 re, .int .i64 save, .string le]) = X.val from by rw [HX.out]; rfl]; exact TR.out y W))
          by_cases h6 : turnIn X y ∧ (turnT X y).at_ < at_
          · have LO := Lib.hid (HN.out (some y) (noneFrom_hit HN5.out h6.1 h6.2))
            rw [turnO_some h6.1] at TC
            have h7 := h6.2
            clear h6 HN HN5 TR
            obtain ⟨t, ht⟩ : ∃ t, t = turnT X y := ⟨_, rfl⟩
            have HT := Lib.hid ht
            rw [← ht] at TC h7
            clear ht
            obtain ⟨ta, tr, ts, tl⟩ := t
            have d7 : decide (at_ ≤ ta) = false := decide_eq_false (by simpa using h7)
            replace TC := Lib.hid (fun W => (show Calls Tryz.prog 54 #[.agg #[.string nm, .int .i64 fr, .int .i64 last, .int .i64 mo, .int .i64 ki, .int .i64 wd, .int .i64 da, .int .i64 ti, .int .i64 re, .int .i64 save, .string le], .int .i64 y] W (fun e w' => e = .returned (.tuple #[.agg #[.int .i64 ta, .int .i64 tr, .int .i64 ts, .string tl], .bool true]) ∧ Below W.heap.size W w') from TC.out W))
            have z0 := HW.at_ hg x0
            have z1 := HW.at_ hg x1
            have z2 := HW.at_ hg x2
            have z3 := HW.at_ hg x3
            have z4 := HW.at_ hg x4
            have z5 := HW.at_ hg x5
            have z6 := HW.at_ hg x6
            have z7 := HW.at_ hg x7
            have z8 := HW.at_ hg x8
            have z9 := HW.at_ hg x9
            have z10 := HW.at_ hg x10
            go_upto_region 9 with (go_at_call 54; refine (TC.out _).mono ?_; clear TC; rintro e W9 ⟨rfl, hk⟩; replace HW := HW.below hk; clear hk z0 z1 z2 z3 z4 z5 z6 z7 z8 z9 z10)
            have KT := Blk.new4 W9 (.int .i64 ta) (.int .i64 tr) (.int .i64 ts) (.string tl) 65
            replace HW := HW.alloc (.cells #[.int .i64 ta, .int .i64 tr, .int .i64 ts, .string tl] 65)
            generalize W9.alloc (.cells #[.int .i64 ta, .int .i64 tr, .int .i64 ts, .string tl] 65) = W1 at *
            generalize W9.heap.size = q at *
            obtain ⟨_, q0, q1, q2, q3, _⟩ := KT.four
            obtain ⟨_, b0, b1, b2, b3, e0, e1, e2, e3⟩ := HW.k1.four
            cases b with
            | none =>
              go_wp2
              go_roundw
              case rel => exact ⟨k + 1, some ⟨ta, tr, ts, tl⟩, by omega, rfl, int_eqS (by omega), by rw [HT.out]; exact LO.out, HW.store _ _ _ _⟩
              case measure => simp only [intOf]; omega
            | some bt =>
              by_cases h8 : ba ≤ ta
              · have d8 : decide (ba ≤ ta) = true := decide_eq_true h8
                have L2 := Lib.hid (show Latest (L.take (k + 1)) (fun t => t.at_ < at_) (some ⟨ta, tr, ts, tl⟩) from by
                  rw [HT.out, ← nextO_up (x := X) (y := y) (b := bt) (by rw [← HT.out, show bt = ⟨ba, br, bs, bl⟩ from HQ.out.symm]; exact h8)]
                  exact LO.out)
                go_wp2
                go_roundw
                case rel => exact ⟨k + 1, some ⟨ta, tr, ts, tl⟩, by omega, rfl, int_eqS (by omega), L2.out, HW.store _ _ _ _⟩
                case measure => simp only [intOf]; omega
              · have d8 : decide (ba ≤ ta) = false := decide_eq_false h8
                have L2 := Lib.hid (show Latest (L.take (k + 1)) (fun t => t.at_ < at_) (some bt) from by
                  rw [← nextO_old (x := X) (y := y) (b := bt) (by rw [← HT.out, show bt = ⟨ba, br, bs, bl⟩ from HQ.out.symm]; exact h8)]
                  exact LO.out)
                go_wp2
                go_roundw
                case rel => exact ⟨k + 1, some bt, by omega, rfl, int_eqS (by omega), L2.out, HQ.out ▸ HW⟩
                case measure => simp only [intOf]; omega
          · have N2 := Lib.hid (noneFrom_next HN5.out h6)
            by_cases h8 : turnIn X y
            · rw [turnO_some h8] at TC
              have h7 : at_ ≤ (turnT X y).at_ := by
                apply Int.not_lt.mp
                exact fun c => h6 ⟨h8, c⟩
              clear h6 h8 HN HN5 TR
              obtain ⟨t, ht⟩ : ∃ t, t = turnT X y := ⟨_, rfl⟩
              rw [← ht] at TC h7
              clear ht
              obtain ⟨ta, tr, ts, tl⟩ := t
              have d7 : decide (at_ ≤ ta) = true := decide_eq_true h7
              replace TC := Lib.hid (fun W => (show Calls Tryz.prog 54 #[.agg #[.string nm, .int .i64 fr, .int .i64 last, .int .i64 mo, .int .i64 ki, .int .i64 wd, .int .i64 da, .int .i64 ti, .int .i64 re, .int .i64 save, .string le], .int .i64 y] W (fun e w' => e = .returned (.tuple #[.agg #[.int .i64 ta, .int .i64 tr, .int .i64 ts, .string tl], .bool true]) ∧ Below W.heap.size W w') from TC.out W))
              have z0 := HW.at_ hg x0
              have z1 := HW.at_ hg x1
              have z2 := HW.at_ hg x2
              have z3 := HW.at_ hg x3
              have z4 := HW.at_ hg x4
              have z5 := HW.at_ hg x5
              have z6 := HW.at_ hg x6
              have z7 := HW.at_ hg x7
              have z8 := HW.at_ hg x8
              have z9 := HW.at_ hg x9
              have z10 := HW.at_ hg x10
              go_upto_region 9 with (go_at_call 54; refine (TC.out _).mono ?_; clear TC; rintro e W9 ⟨rfl, hk⟩; replace HW := HW.below hk; clear hk z0 z1 z2 z3 z4 z5 z6 z7 z8 z9 z10)
              have KT := Blk.new4 W9 (.int .i64 ta) (.int .i64 tr) (.int .i64 ts) (.string tl) 65
              replace HW := HW.alloc (.cells #[.int .i64 ta, .int .i64 tr, .int .i64 ts, .string tl] 65)
              generalize W9.alloc (.cells #[.int .i64 ta, .int .i64 tr, .int .i64 ts, .string tl] 65) = W1 at *
              generalize W9.heap.size = q at *
              obtain ⟨_, q0, q1, q2, q3, _⟩ := KT.four
              obtain ⟨_, b0, b1, b2, b3, e0, e1, e2, e3⟩ := HW.k1.four
              go_wp2
              go_roundw
              case rel => exact ⟨y - 1, rfl, by first | rfl | exact int_eqS (by omega), by omega, by omega, N2.out, HW⟩
              case measure => simp only [intOf]; omega
            · rw [turnO_none h8] at TC
              clear h6 h8 HN HN5 TR
              replace TC := Lib.hid (fun W => (show Calls Tryz.prog 54 #[.agg #[.string nm, .int .i64 fr, .int .i64 last, .int .i64 mo, .int .i64 ki, .int .i64 wd, .int .i64 da, .int .i64 ti, .int .i64 re, .int .i64 save, .string le], .int .i64 y] W (fun e w' => e = .returned (.tuple #[.agg #[.int .i64 0, .int .i64 0, .int .i64 0, .string ⟨#[]⟩], .bool false]) ∧ Below W.heap.size W w') from TC.out W))
              have z0 := HW.at_ hg x0
              have z1 := HW.at_ hg x1
              have z2 := HW.at_ hg x2
              have z3 := HW.at_ hg x3
              have z4 := HW.at_ hg x4
              have z5 := HW.at_ hg x5
              have z6 := HW.at_ hg x6
              have z7 := HW.at_ hg x7
              have z8 := HW.at_ hg x8
              have z9 := HW.at_ hg x9
              have z10 := HW.at_ hg x10
              go_upto_region 9 with (go_at_call 54; refine (TC.out _).mono ?_; clear TC; rintro e W9 ⟨rfl, hk⟩; replace HW := HW.below hk; clear hk z0 z1 z2 z3 z4 z5 z6 z7 z8 z9 z10)
              have KT := Blk.new4 W9 (.int .i64 0) (.int .i64 0) (.int .i64 0) (.string ⟨#[]⟩) 65
              replace HW := HW.alloc (.cells #[.int .i64 0, .int .i64 0, .int .i64 0, .string ⟨#[]⟩] 65)
              generalize W9.alloc (.cells #[.int .i64 0, .int .i64 0, .int .i64 0, .string ⟨#[]⟩] 65) = W1 at *
              generalize W9.heap.size = q at *
              obtain ⟨_, q0, q1, q2, q3, _⟩ := KT.four
              obtain ⟨_, b0, b1, b2, b3, e0, e1, e2, e3⟩ := HW.k1.four
              go_wp2
              go_roundw
              case rel => exact ⟨y - 1, rfl, by first | rfl | exact int_eqS (by omega), by omega, by omega, N2.out, HW⟩
              case measure => simp only [intOf]; omega
        · have LO := Lib.hid (HN.out none (noneFrom_all HN5.out (show y < X.fr by rw [HX.out]; show y < fr; omega)))
          have z1 := HW.at_ hg x1
          clear HN HN5 TR
          go_wp2
          go_roundw
          case rel => exact ⟨k + 1, b, by omega, rfl, int_eqS (by omega), LO.out, HQ.out ▸ HW⟩
          case measure => simp only [intOf]; omega
    · obtain rfl : k = n := by omega
      have E := Lib.hid (show aheadO L at_ = b from latestO_of (by have := HR.out; rw [← LN.out, List.take_length] at this; exact this))
      clear HR
      obtain ⟨_, b0, b1, b2, b3, _⟩ := HW.k1.four
      obtain ⟨_, r0, r1, r2, r3, f0, f1, f2, f3⟩ := HW.k0.four
      go_wp2
      obtain ⟨_, P0, P1, P2, P3, _⟩ := (HW.k0.self4 (.int .i64 ba) (.int .i64 br) (.int .i64 bs) (.string bl)).four
      have HB := (((HW.hb.setCell (p := ⟨w.heap.size, 0, none⟩) (Nat.le_refl _) (.int .i64 ba)).setCell (p := ⟨w.heap.size, 1, none⟩) (Nat.le_refl _) (.int .i64 br)).setCell (p := ⟨w.heap.size, 2, none⟩) (Nat.le_refl _) (.int .i64 bs)).setCell (p := ⟨w.heap.size, 3, none⟩) (Nat.le_refl _) (.string bl)
      exact bodyPost_ret (v := .tuple #[.agg #[.int .i64 ba, .int .i64 br, .int .i64 bs, .string bl], .bool b.isSome]) (by simp [results, Tryz.results30, go_sem, P0, P1, P2, P3]) rfl ⟨by rw [E.out, ← HQ.out]; rfl, HB⟩
theorem un_a (A : Option Addr) (n c : Nat) (off ta tr ts : Int) (tl : ByteArray) (h : (tr == 2) = true) (w : World) : Calls Tryz.prog 78 #[.slice A n c, .int .i64 off, .agg #[.int .i64 ta, .int .i64 tr, .int .i64 ts, .string tl]] w (RetN w (ta)) := by
  go_enter Tryz.func78, Tryz.ntmps78
  go_upto_region 1 with (fail)
  have KB := Blk.new4 w (.int .i64 ta) (.int .i64 tr) (.int .i64 ts) (.string tl) 65
  have hb := below_box w (.cells #[.int .i64 ta, .int .i64 tr, .int .i64 ts, .string tl] 65)
  generalize w.alloc (.cells #[.int .i64 ta, .int .i64 tr, .int .i64 ts, .string tl] 65) = W at *
  obtain ⟨_, x0, x1, x2, x3, _⟩ := KB.four
  go_wp2
  go_ret
  exact ⟨rfl, hb⟩
theorem un_b (A : Option Addr) (n c : Nat) (off ta tr ts : Int) (tl : ByteArray) (a1 : -9000000000000000 ≤ ta) (a2 : ta ≤ 9000000000000000) (o1 : -86400 < off) (o2 : off < 86400) (h : (tr == 2) = false) (h1 : (tr == 1) = true) (w : World) : Calls Tryz.prog 78 #[.slice A n c, .int .i64 off, .agg #[.int .i64 ta, .int .i64 tr, .int .i64 ts, .string tl]] w (RetN w (ta - off)) := by
  go_enter Tryz.func78, Tryz.ntmps78
  go_upto_region 1 with (fail)
  have KB := Blk.new4 w (.int .i64 ta) (.int .i64 tr) (.int .i64 ts) (.string tl) 65
  have hb := below_box w (.cells #[.int .i64 ta, .int .i64 tr, .int .i64 ts, .string tl] 65)
  generalize w.alloc (.cells #[.int .i64 ta, .int .i64 tr, .int .i64 ts, .string tl] 65) = W at *
  obtain ⟨_, x0, x1, x2, x3, _⟩ := KB.four
  go_wp2
  go_ret
  exact ⟨rfl, hb⟩
theorem un_c (A : Option Addr) (n c : Nat) (off ta tr ts : Int) (tl : ByteArray) (a1 : -9000000000000000 ≤ ta) (a2 : ta ≤ 9000000000000000) (o1 : -86400 < off) (o2 : off < 86400) (h : (tr == 2) = false) (h1 : (tr == 1) = false) (xa xr xs : Int) (xl : ByteArray) (xb : Bool) (s1 : -43200 ≤ xs) (s2 : xs ≤ 43200) (w : World) (AH : Hid (∀ W, Below w.heap.size w W → Calls Tryz.prog 30 #[.slice A n c, .int .i64 ta] W (fun e w' => e = .returned (.tuple #[.agg #[.int .i64 xa, .int .i64 xr, .int .i64 xs, .string xl], .bool xb]) ∧ Below W.heap.size W w'))) : Calls Tryz.prog 78 #[.slice A n c, .int .i64 off, .agg #[.int .i64 ta, .int .i64 tr, .int .i64 ts, .string tl]] w (RetN w (ta - off - xs)) := by
  go_enter Tryz.func78, Tryz.ntmps78
  go_upto_region 1 with (fail)
  have KB := Blk.new4 w (.int .i64 ta) (.int .i64 tr) (.int .i64 ts) (.string tl) 65
  have hb := below_box w (.cells #[.int .i64 ta, .int .i64 tr, .int .i64 ts, .string tl] 65)
  generalize w.alloc (.cells #[.int .i64 ta, .int .i64 tr, .int .i64 ts, .string tl] 65) = W at *
  obtain ⟨_, x0, x1, x2, x3, _⟩ := KB.four
  go_wp2_with (go_at_call 30; refine (AH.out _ hb).mono ?_; clear AH; rintro e W9 ⟨rfl, hk⟩; replace hb := below_thru hb hk; replace KB := KB.below hk; clear hk x0 x1 x2 x3; obtain ⟨_, x0, x1, x2, x3, _⟩ := KB.four)
  go_ret
  exact ⟨rfl, below_thru hb (below_box _ _)⟩
theorem aheadSave_is (L : List Rl) (a : Int) : aheadSave L a = ((aheadO L a).getD Tn.zero).save := by
  unfold aheadSave
  cases aheadO L a <;> rfl
theorem uniDR {L : List Rl} (hL : fitL L) (off : Int) (o1 : -86400 < off) (o2 : off < 86400) (t : Tn) (a1 : -9000000000000000 ≤ t.at_) (a2 : t.at_ ≤ 9000000000000000) (A : Option Addr) (n c : Nat) (w : World) (hm : RulV w A n c L) :
    Calls Tryz.prog 78 #[.slice A n c, .int .i64 off, t.val] w (RetN w (uniT L off t)) := by
  have sv := aheadSave_in hL t.at_
  have AH := fun W (h : Below w.heap.size w W) => aheadDR hL t.at_ A n c W (hm.below h)
  rw [aheadSave_is] at sv
  unfold uniT
  rw [aheadSave_is]
  unfold RetTB at AH
  obtain ⟨ta, tr, ts, tl⟩ := t
  generalize (aheadO L _).isSome = xb at *
  generalize (aheadO L _).getD Tn.zero = q at *
  obtain ⟨xa, xr, xs, xl⟩ := q
  by_cases h : tr = 2
  · rw [if_pos h]
    exact un_a A n c off ta tr ts tl (by simp [h]) w
  rw [if_neg h]
  by_cases h1 : tr = 1
  · rw [if_pos h1]
    exact un_b A n c off ta tr ts tl a1 a2 o1 o2 (by simp [h]) (by simp [h1]) w
  rw [if_neg h1]
  exact un_c A n c off ta tr ts tl a1 a2 o1 o2 (by simp [h]) (by simp [h1]) xa xr xs xl xb sv.1 sv.2 w (Lib.hid AH)
theorem uni_turn {L : List Rl} (hL : fitL L) (off : Int) (o1 : -86400 < off) (o2 : off < 86400) (A : Option Addr) (n c : Nat) (w : World) (hm : RulV w A n c L) {x : Rl} {y : Int} (h : turnIn x y) (W : World) (hb : Below w.heap.size w W) :
    Calls Tryz.prog 78 #[.slice A n c, .int .i64 off, (turnT x y).val] W (RetN W (uniT L off (turnT x y))) := by
  have t := turn_year h
  have y1 := onOk_year h.2
  have j1 := jan_le y1.1
  have j2 := jan_le (show y + 1 ≤ 275761 by omega)
  have c1 : jan 1 = -719162 := by decide
  have c2 : jan 275761 ≤ 200000000 := by decide
  exact uniDR hL off o1 o2 _ (by omega) (by omega) A n c W (hm.below hb)
theorem lastDR {L : List Rl} (hL : fitL L) (off T : Int) (o1 : -86400 < off) (o2 : off < 86400) (A : Option Addr) (n c : Nat) (w : World) (hm : RulV w A n c L) : Calls Tryz.prog 57 #[.slice A n c, .int .i64 off, .int .i64 T] w (RetTB w (lastO L off T)) := by
  have mx : n ≤ 9223372036854775807 := Nat.le_trans hm.cap hm.max
  have LN := Lib.hid (show L.length = n by have := hm.len; simpa using this)
  obtain ⟨Y, hY, YR⟩ := yearDR T
  have YO := Lib.hid (yearDoc_ok hY)
  obtain ⟨yb1, yb2⟩ := yearDoc_in hY
  have YR := Lib.hid YR
  have HA := Lib.hid hm
  have FIT := Lib.hid hL
  clear hm hL hY
  go_enter Tryz.func57, Tryz.ntmps57
  go_upto_region 2 with (fail)
  have HW : AhW w [.int .i64 0, .int .i64 0, .int .i64 0, .string ⟨#[]⟩] ((w.alloc (.cells #[.int .i64 0, .int .i64 0, .int .i64 0, .string ⟨#[]⟩] 65)).alloc (.cells #[.int .i64 0, .int .i64 0, .int .i64 0, .string ⟨#[]⟩] 65)) := by
    have k1 := below_box w (.cells #[.int .i64 0, .int .i64 0, .int .i64 0, .string ⟨#[]⟩] 65)
    have k2 := below_box (w.alloc (.cells #[.int .i64 0, .int .i64 0, .int .i64 0, .string ⟨#[]⟩] 65)) (.cells #[.int .i64 0, .int .i64 0, .int .i64 0, .string ⟨#[]⟩] 65)
    have b1 := Blk.new4 (w.alloc (.cells #[.int .i64 0, .int .i64 0, .int .i64 0, .string ⟨#[]⟩] 65)) (.int .i64 0) (.int .i64 0) (.int .i64 0) (.string ⟨#[]⟩) 65
    simp only [World.size_alloc] at b1
    exact ⟨below_thru k1 k2, (Blk.new4 w (.int .i64 0) (.int .i64 0) (.int .i64 0) (.string ⟨#[]⟩) 65).below k2, b1⟩
  generalize ((w.alloc (.cells #[.int .i64 0, .int .i64 0, .int .i64 0, .string ⟨#[]⟩] 65)).alloc (.cells #[.int .i64 0, .int .i64 0, .int .i64 0, .string ⟨#[]⟩] 65)) = W0 at *
  go_wp2_with fail
  go_loopw [9, 10] (fun v7 v8 wr => ∃ (k : Nat) (b : Option Tn), k ≤ n ∧ v7 = .bool b.isSome ∧ v8 = .int .i64 k ∧ Latest (L.take k) (fun t => uniT L off t ≤ T) b ∧ AhW w (b.getD Tn.zero).vals wr) (fun _ v _ => n - (intOf v).toNat)
  case atStart => exact ⟨0, none, by omega, rfl, rfl, Latest.zero L _, HW⟩
  case round =>
    clear HW
    obtain ⟨k, b, hk, rfl, rfl, hR, HW⟩ := hrel
    have HR := Lib.hid hR
    clear hR
    obtain ⟨⟨ba, br, bs, bl⟩, hq⟩ : ∃ q, q = b.getD Tn.zero := ⟨_, rfl⟩
    have HQ := Lib.hid hq
    rw [← hq] at HW
    clear hq
    by_cases h4 : k < n
    · obtain ⟨x, hxx⟩ : ∃ x, L[k]? = some x := ⟨_, List.getElem?_eq_getElem (by rw [LN.out]; exact h4)⟩
      obtain ⟨g, o, ea0, hg, ca⟩ := HA.out.cells (by omega)
      subst ea0
      have ra := row_at ca (show (L.map Rl.vals)[k]? = some (Rl.vals x) by rw [List.getElem?_map, hxx]; rfl)
      have fx := FIT.out x (List.mem_of_getElem? hxx)
      have HN := Lib.hid (show ∀ r, LatestOf x (fun t => uniT L off t ≤ T) r → Latest (L.take (k + 1)) (fun t => uniT L off t ≤ T) (nextO x b r) from latest_next hxx HR.out)
      have TR := Lib.hid (fun y W => turnDR x y W)
      have NT := Lib.hid (noneFrom_top (x := x) YO.out (P := fun t => uniT L off t ≤ T) (fun t h => by have a := (uniT_near FIT.out o1 o2 t).1; have : uniT L off t ≤ T := h; omega))
      obtain ⟨⟨f1, f2⟩, ⟨f3, f4⟩, _, _⟩ := fx
      obtain ⟨X, hX⟩ : ∃ X, X = x := ⟨_, rfl⟩
      rw [← hX] at HN TR NT
      have HX := Lib.hid hX
      clear hX
      obtain ⟨nm, fr, last, ⟨mo, ki, wd, da, ti, re⟩, save, le⟩ := x
      simp only at f1 f2 f3 f4
      have x0 : w.cell? ⟨g, o + k * 11, none⟩ = some (.string nm) := ra 0 _ rfl
      have x1 : w.cell? ⟨g, o + k * 11 + 1, none⟩ = some (.int .i64 fr) := ra 1 _ rfl
      have x2 : w.cell? ⟨g, o + k * 11 + 2, none⟩ = some (.int .i64 last) := ra 2 _ rfl
      have x3 : w.cell? ⟨g, o + k * 11 + 3, none⟩ = some (.int .i64 mo) := ra 3 _ rfl
      have x4 : w.cell? ⟨g, o + k * 11 + 4, none⟩ = some (.int .i64 ki) := ra 4 _ rfl
      have x5 : w.cell? ⟨g, o + k * 11 + 5, none⟩ = some (.int .i64 wd) := ra 5 _ rfl
      have x6 : w.cell? ⟨g, o + k * 11 + 6, none⟩ = some (.int .i64 da) := ra 6 _ rfl
      have x7 : w.cell? ⟨g, o + k * 11 + 7, none⟩ = some (.int .i64 ti) := ra 7 _ rfl
      have x8 : w.cell? ⟨g, o + k * 11 + 8, none⟩ = some (.int .i64 re) := ra 8 _ rfl
      have x9 : w.cell? ⟨g, o + k * 11 + 9, none⟩ = some (.int .i64 save) := ra 9 _ rfl
      have x10 : w.cell? ⟨g, o + k * 11 + 10, none⟩ = some (.string le) := ra 10 _ rfl
      clear ca ra hxx HR
      have z1 := HW.at_ hg x1
      have z2 := HW.at_ hg x2
      go_wp2_with fail
      go_region_held3 (fun w' => w'.cell? ⟨g, o + k * 11 + 2, none⟩ = some (.int .i64 last)) (first | (with_reducible exact AhW.at_ HW hg x2) | (with_reducible exact AhW.at_ HW.drew hg x2) | (with_reducible exact AhW.at_ (HW.alloc _) hg x2) | (with_reducible exact AhW.at_ (HW.drew.alloc _) hg x2) | (with_reducible exact AhW.at_ (HW.alloc _).drew hg x2) | go_keep)
        (first
          | (go_at_call 53; (with_reducible refine (YR.out _).mono ?_); rintro e9 W9 ⟨rfl, hk⟩
             with_reducible (first | replace HW := AhW.below HW hk | replace HW := AhW.below HW.drew hk | replace HW := AhW.below (HW.alloc _) hk | replace HW := AhW.below (HW.drew.alloc _) hk | replace HW := AhW.below (HW.alloc _).drew hk)
             clear hk)
          | (go_at_call 52; (with_reducible refine (lesserDR _ _ _).mono ?_); rintro e9 W9 ⟨rfl, rfl⟩))
      have hs : IntKind.i64.wrap (Y + 2) = Y + 2 := IntWalk.i64_in _ (by omega)
      rw [hs]
      have NT := Lib.hid (show noneFrom X (fun t => uniT L off t ≤ T) (min last (Y + 2)) from by have := NT.out; rw [HX.out] at this ⊢; exact this)
      obtain ⟨m, hm⟩ : ∃ m, m = min last (Y + 2) := ⟨_, rfl⟩
      rw [← hm] at NT ⊢
      have m1 : -300000 ≤ m := by omega
      have m2 : m ≤ 275762 := by omega
      clear hm hs z1 z2
      go_wp2_with fail
      go_loopw [9, 11] (fun v7 v9 wr => ∃ y : Int, v7 = .bool b.isSome ∧ v9 = .int .i64 y ∧ -300000 ≤ y ∧ y ≤ 275762 ∧ noneFrom X (fun t => uniT L off t ≤ T) y ∧ AhW w [.int .i64 ba, .int .i64 br, .int .i64 bs, .string bl] wr) (fun _ v _ => (intOf v - fr + 1).toNat)
      case atStart => exact ⟨m, rfl, rfl, m1, m2, NT.out, HW⟩
      case round =>
        clear HW NT
        obtain ⟨y, rfl, rfl, y1, y2, hN, HW⟩ := hrel
        have HN5 := Lib.hid hN
        clear hN
        by_cases h5 : fr ≤ y
        · have TC := Lib.hid (fun W => (show Calls Tryz.prog 54 #[.agg #[.string nm, .int .i64 fr, .int .i64 last, .int .i64 mo, .int .i64 ki, .int .i64 wd, .int .i64 da, .int .i64 ti, .int .i64 re, .int .i64 save, .string le], .int .i64 y] W (RetTB W (turnO X y)) from by rw [show (Value.agg #[.string nm, .int .i64 fr, .int .i64 last, .int .i64 mo, .int .i64 ki, .int .i64 wd, .int .i64 da, .int .i64 ti, .int .i64 re, .int .i64 save, .string le]) = X.val from by rw [HX.out]; rfl]; exact TR.out y W))
          by_cases h6 : turnIn X y ∧ uniT L off (turnT X y) ≤ T
          · have LO := Lib.hid (HN.out (some y) (noneFrom_hit HN5.out h6.1 h6.2))
            rw [turnO_some h6.1] at TC
            have h7 := h6.2
            have UN := uni_turn FIT.out off o1 o2 (some ⟨g, o, none⟩) n c w HA.out h6.1
            clear h6 HN HN5 TR
            obtain ⟨t, ht⟩ : ∃ t, t = turnT X y := ⟨_, rfl⟩
            have HT := Lib.hid ht
            rw [← ht] at TC h7 UN
            clear ht
            obtain ⟨ta, tr, ts, tl⟩ := t
            replace UN := Lib.hid (fun W (h : Below w.heap.size w W) => (show Calls Tryz.prog 78 #[.slice (some ⟨g, o, none⟩) n c, .int .i64 off, .agg #[.int .i64 ta, .int .i64 tr, .int .i64 ts, .string tl]] W (RetN W (uniT L off ⟨ta, tr, ts, tl⟩)) from UN W h))
            generalize uniT L off ⟨ta, tr, ts, tl⟩ = uu at *
            have d7 : decide (T < uu) = false := decide_eq_false (by omega)
            replace TC := Lib.hid (fun W => (show Calls Tryz.prog 54 #[.agg #[.string nm, .int .i64 fr, .int .i64 last, .int .i64 mo, .int .i64 ki, .int .i64 wd, .int .i64 da, .int .i64 ti, .int .i64 re, .int .i64 save, .string le], .int .i64 y] W (fun e w' => e = .returned (.tuple #[.agg #[.int .i64 ta, .int .i64 tr, .int .i64 ts, .string tl], .bool true]) ∧ Below W.heap.size W w') from TC.out W))
            have z0 := HW.at_ hg x0
            have z1 := HW.at_ hg x1
            have z2 := HW.at_ hg x2
            have z3 := HW.at_ hg x3
            have z4 := HW.at_ hg x4
            have z5 := HW.at_ hg x5
            have z6 := HW.at_ hg x6
            have z7 := HW.at_ hg x7
            have z8 := HW.at_ hg x8
            have z9 := HW.at_ hg x9
            have z10 := HW.at_ hg x10
            go_upto_region 9 with (go_at_call 54; refine (TC.out _).mono ?_; clear TC; rintro e W9 ⟨rfl, hk⟩; replace HW := HW.below hk; clear hk z0 z1 z2 z3 z4 z5 z6 z7 z8 z9 z10)
            have KT := Blk.new4 W9 (.int .i64 ta) (.int .i64 tr) (.int .i64 ts) (.string tl) 65
            replace HW := HW.alloc (.cells #[.int .i64 ta, .int .i64 tr, .int .i64 ts, .string tl] 65)
            generalize W9.alloc (.cells #[.int .i64 ta, .int .i64 tr, .int .i64 ts, .string tl] 65) = W1 at *
            generalize W9.heap.size = q at *
            obtain ⟨_, q0, q1, q2, q3, _⟩ := KT.four
            obtain ⟨_, b0, b1, b2, b3, e0, e1, e2, e3⟩ := HW.k1.four
            cases b with
            | none =>
              go_wp2_with (go_at_call 78; refine (UN.out _ HW.hb).mono ?_; clear UN; rintro e W8 ⟨rfl, hk⟩; replace HW := HW.below hk; replace KT := KT.below hk; clear hk q0 q1 q2 q3 b0 b1 b2 b3 e0 e1 e2 e3; obtain ⟨_, q0, q1, q2, q3, _⟩ := KT.four; obtain ⟨_, b0, b1, b2, b3, e0, e1, e2, e3⟩ := HW.k1.four)
              try go_wp2
              go_roundw
              case rel => exact ⟨k + 1, some ⟨ta, tr, ts, tl⟩, by omega, rfl, int_eqS (by omega), by rw [HT.out]; exact LO.out, HW.store _ _ _ _⟩
              case measure => simp only [intOf]; omega
            | some bt =>
              by_cases h8 : ba ≤ ta
              · have d8 : decide (ba ≤ ta) = true := decide_eq_true h8
                have L2 := Lib.hid (show Latest (L.take (k + 1)) (fun t => uniT L off t ≤ T) (some ⟨ta, tr, ts, tl⟩) from by
                  rw [HT.out, ← nextO_up (x := X) (y := y) (b := bt) (by rw [← HT.out, show bt = ⟨ba, br, bs, bl⟩ from HQ.out.symm]; exact h8)]
                  exact LO.out)
                go_wp2_with (go_at_call 78; refine (UN.out _ HW.hb).mono ?_; clear UN; rintro e W8 ⟨rfl, hk⟩; replace HW := HW.below hk; replace KT := KT.below hk; clear hk q0 q1 q2 q3 b0 b1 b2 b3 e0 e1 e2 e3; obtain ⟨_, q0, q1, q2, q3, _⟩ := KT.four; obtain ⟨_, b0, b1, b2, b3, e0, e1, e2, e3⟩ := HW.k1.four)
                try go_wp2
                go_roundw
                case rel => exact ⟨k + 1, some ⟨ta, tr, ts, tl⟩, by omega, rfl, int_eqS (by omega), L2.out, HW.store _ _ _ _⟩
                case measure => simp only [intOf]; omega
              · have d8 : decide (ba ≤ ta) = false := decide_eq_false h8
                have L2 := Lib.hid (show Latest (L.take (k + 1)) (fun t => uniT L off t ≤ T) (some bt) from by
                  rw [← nextO_old (x := X) (y := y) (b := bt) (by rw [← HT.out, show bt = ⟨ba, br, bs, bl⟩ from HQ.out.symm]; exact h8)]
                  exact LO.out)
                go_wp2_with (go_at_call 78; refine (UN.out _ HW.hb).mono ?_; clear UN; rintro e W8 ⟨rfl, hk⟩; replace HW := HW.below hk; replace KT := KT.below hk; clear hk q0 q1 q2 q3 b0 b1 b2 b3 e0 e1 e2 e3; obtain ⟨_, q0, q1, q2, q3, _⟩ := KT.four; obtain ⟨_, b0, b1, b2, b3, e0, e1, e2, e3⟩ := HW.k1.four)
                try go_wp2
                go_roundw
                case rel => exact ⟨k + 1, some bt, by omega, rfl, int_eqS (by omega), L2.out, HQ.out ▸ HW⟩
                case measure => simp only [intOf]; omega
          · have N2 := Lib.hid (noneFrom_next HN5.out h6)
            by_cases h8 : turnIn X y
            · rw [turnO_some h8] at TC
              have UN := uni_turn FIT.out off o1 o2 (some ⟨g, o, none⟩) n c w HA.out h8
              have h7 : T < uniT L off (turnT X y) := by
                apply Int.not_le.mp
                exact fun c => h6 ⟨h8, c⟩
              clear h6 h8 HN HN5 TR
              obtain ⟨t, ht⟩ : ∃ t, t = turnT X y := ⟨_, rfl⟩
              rw [← ht] at TC h7 UN
              clear ht
              obtain ⟨ta, tr, ts, tl⟩ := t
              replace UN := Lib.hid (fun W (h : Below w.heap.size w W) => (show Calls Tryz.prog 78 #[.slice (some ⟨g, o, none⟩) n c, .int .i64 off, .agg #[.int .i64 ta, .int .i64 tr, .int .i64 ts, .string tl]] W (RetN W (uniT L off ⟨ta, tr, ts, tl⟩)) from UN W h))
              generalize uniT L off ⟨ta, tr, ts, tl⟩ = uu at *
              have d7 : decide (T < uu) = true := decide_eq_true h7
              replace TC := Lib.hid (fun W => (show Calls Tryz.prog 54 #[.agg #[.string nm, .int .i64 fr, .int .i64 last, .int .i64 mo, .int .i64 ki, .int .i64 wd, .int .i64 da, .int .i64 ti, .int .i64 re, .int .i64 save, .string le], .int .i64 y] W (fun e w' => e = .returned (.tuple #[.agg #[.int .i64 ta, .int .i64 tr, .int .i64 ts, .string tl], .bool true]) ∧ Below W.heap.size W w') from TC.out W))
              have z0 := HW.at_ hg x0
              have z1 := HW.at_ hg x1
              have z2 := HW.at_ hg x2
              have z3 := HW.at_ hg x3
              have z4 := HW.at_ hg x4
              have z5 := HW.at_ hg x5
              have z6 := HW.at_ hg x6
              have z7 := HW.at_ hg x7
              have z8 := HW.at_ hg x8
              have z9 := HW.at_ hg x9
              have z10 := HW.at_ hg x10
              go_upto_region 9 with (go_at_call 54; refine (TC.out _).mono ?_; clear TC; rintro e W9 ⟨rfl, hk⟩; replace HW := HW.below hk; clear hk z0 z1 z2 z3 z4 z5 z6 z7 z8 z9 z10)
              have KT := Blk.new4 W9 (.int .i64 ta) (.int .i64 tr) (.int .i64 ts) (.string tl) 65
              replace HW := HW.alloc (.cells #[.int .i64 ta, .int .i64 tr, .int .i64 ts, .string tl] 65)
              generalize W9.alloc (.cells #[.int .i64 ta, .int .i64 tr, .int .i64 ts, .string tl] 65) = W1 at *
              generalize W9.heap.size = q at *
              obtain ⟨_, q0, q1, q2, q3, _⟩ := KT.four
              obtain ⟨_, b0, b1, b2, b3, e0, e1, e2, e3⟩ := HW.k1.four
              go_wp2_with (go_at_call 78; refine (UN.out _ HW.hb).mono ?_; clear UN; rintro e W8 ⟨rfl, hk⟩; replace HW := HW.below hk; replace KT := KT.below hk; clear hk q0 q1 q2 q3 b0 b1 b2 b3 e0 e1 e2 e3; obtain ⟨_, q0, q1, q2, q3, _⟩ := KT.four; obtain ⟨_, b0, b1, b2, b3, e0, e1, e2, e3⟩ := HW.k1.four)
              try go_wp2
              go_roundw
              case rel => exact ⟨y - 1, rfl, by first | rfl | exact int_eqS (by omega), by omega, by omega, N2.out, HW⟩
              case measure => simp only [intOf]; omega
            · rw [turnO_none h8] at TC
              clear h6 h8 HN HN5 TR
              replace TC := Lib.hid (fun W => (show Calls Tryz.prog 54 #[.agg #[.string nm, .int .i64 fr, .int .i64 last, .int .i64 mo, .int .i64 ki, .int .i64 wd, .int .i64 da, .int .i64 ti, .int .i64 re, .int .i64 save, .string le], .int .i64 y] W (fun e w' => e = .returned (.tuple #[.agg #[.int .i64 0, .int .i64 0, .int .i64 0, .string ⟨#[]⟩], .bool false]) ∧ Below W.heap.size W w') from TC.out W))
              have z0 := HW.at_ hg x0
              have z1 := HW.at_ hg x1
              have z2 := HW.at_ hg x2
              have z3 := HW.at_ hg x3
              have z4 := HW.at_ hg x4
              have z5 := HW.at_ hg x5
              have z6 := HW.at_ hg x6
              have z7 := HW.at_ hg x7
              have z8 := HW.at_ hg x8
              have z9 := HW.at_ hg x9
              have z10 := HW.at_ hg x10
              go_upto_region 9 with (go_at_call 54; refine (TC.out _).mono ?_; clear TC; rintro e W9 ⟨rfl, hk⟩; replace HW := HW.below hk; clear hk z0 z1 z2 z3 z4 z5 z6 z7 z8 z9 z10)
              have KT := Blk.new4 W9 (.int .i64 0) (.int .i64 0) (.int .i64 0) (.string ⟨#[]⟩) 65
              replace HW := HW.alloc (.cells #[.int .i64 0, .int .i64 0, .int .i64 0, .string ⟨#[]⟩] 65)
              generalize W9.alloc (.cells #[.int .i64 0, .int .i64 0, .int .i64 0, .string ⟨#[]⟩] 65) = W1 at *
              generalize W9.heap.size = q at *
              obtain ⟨_, q0, q1, q2, q3, _⟩ := KT.four
              obtain ⟨_, b0, b1, b2, b3, e0, e1, e2, e3⟩ := HW.k1.four
              go_wp2
              go_roundw
              case rel => exact ⟨y - 1, rfl, by first | rfl | exact int_eqS (by omega), by omega, by omega, N2.out, HW⟩
              case measure => simp only [intOf]; omega
        · have LO := Lib.hid (HN.out none (noneFrom_all HN5.out (show y < X.fr by rw [HX.out]; show y < fr; omega)))
          have z1 := HW.at_ hg x1
          clear HN HN5 TR
          go_wp2
          go_roundw
          case rel => exact ⟨k + 1, b, by omega, rfl, int_eqS (by omega), LO.out, HQ.out ▸ HW⟩
          case measure => simp only [intOf]; omega
    · obtain rfl : k = n := by omega
      have E := Lib.hid (show lastO L off T = b from latestO_of (by have := HR.out; rw [← LN.out, List.take_length] at this; exact this))
      clear HR
      obtain ⟨_, b0, b1, b2, b3, _⟩ := HW.k1.four
      obtain ⟨_, r0, r1, r2, r3, f0, f1, f2, f3⟩ := HW.k0.four
      go_wp2
      obtain ⟨_, P0, P1, P2, P3, _⟩ := (HW.k0.self4 (.int .i64 ba) (.int .i64 br) (.int .i64 bs) (.string bl)).four
      have HB := (((HW.hb.setCell (p := ⟨w.heap.size, 0, none⟩) (Nat.le_refl _) (.int .i64 ba)).setCell (p := ⟨w.heap.size, 1, none⟩) (Nat.le_refl _) (.int .i64 br)).setCell (p := ⟨w.heap.size, 2, none⟩) (Nat.le_refl _) (.int .i64 bs)).setCell (p := ⟨w.heap.size, 3, none⟩) (Nat.le_refl _) (.string bl)
      exact bodyPost_ret (v := .tuple #[.agg #[.int .i64 ba, .int .i64 br, .int .i64 bs, .string bl], .bool b.isSome]) (by simp [results, Tryz.results57, go_sem, P0, P1, P2, P3]) rfl ⟨by rw [E.out, ← HQ.out]; rfl, HB⟩
theorem first_step {L : List Rl} {k : Nat} {x : Rl} (hx : L[k]? = some x) (b : Option Tn) : firstGo (L.drop k) b = firstGo (L.drop (k + 1)) (if turnIn x x.fr ∧ x.save = 0 ∧ earlier b (turnT x x.fr).at_ = true then some (turnT x x.fr) else b) := by
  obtain ⟨h, e⟩ := List.getElem?_eq_some_iff.1 hx
  rw [List.drop_eq_getElem_cons h, e]
  rfl
structure FoW (w : World) (q : Nat) (b : List Value) (X : World) : Prop where
  hb : Below w.heap.size w X
  le : w.heap.size ≤ q
  k1 : Blk X q b
theorem FoW.below {w : World} {q : Nat} {b : List Value} {X X' : World} (h : FoW w q b X) (k : Below X.heap.size X X') : FoW w q b X' := ⟨below_thru h.hb k, h.le, h.k1.below k⟩
theorem FoW.alloc {w : World} {q : Nat} {b : List Value} {X : World} (h : FoW w q b X) (o : Obj) : FoW w q b (X.alloc o) := h.below (below_box X o)
theorem FoW.drew {w : World} {q : Nat} {b : List Value} {X : World} (h : FoW w q b X) : FoW w q b X.drew := h.below (Below.refl _ _).drew
theorem FoW.at_ {w : World} {p : Nat} {b : List Value} {X : World} (h : FoW w p b X) {g q : Nat} {v : Value} (hg : g < w.heap.size) (r : w.cell? ⟨g, q, none⟩ = some v) : X.cell? ⟨g, q, none⟩ = some v := (h.hb.cell (p := ⟨g, q, none⟩) hg).trans r
theorem FoW.store {w : World} {q : Nat} {u v x y : Value} {X : World} (h : FoW w q [u, v, x, y] X) (u' v' x' y' : Value) : FoW w q [u', v', x', y'] ((((X.setCell ⟨q, 0, none⟩ u').setCell ⟨q, 1, none⟩ v').setCell ⟨q, 2, none⟩ x').setCell ⟨q, 3, none⟩ y') :=
  ⟨(((h.hb.setCell (p := ⟨q, 0, none⟩) h.le u').setCell (p := ⟨q, 1, none⟩) h.le v').setCell (p := ⟨q, 2, none⟩) h.le x').setCell (p := ⟨q, 3, none⟩) h.le y', h.le, h.k1.self4 u' v' x' y'⟩
theorem FoW.far {w : World} {q r : Nat} {b : List Value} {X : World} (h : FoW w q b X) (ne : r ≠ q) (le : w.heap.size ≤ r) (u' v' x' y' : Value) : FoW w q b ((((X.setCell ⟨r, 0, none⟩ u').setCell ⟨r, 1, none⟩ v').setCell ⟨r, 2, none⟩ x').setCell ⟨r, 3, none⟩ y') :=
  ⟨(((h.hb.setCell (p := ⟨r, 0, none⟩) le u').setCell (p := ⟨r, 1, none⟩) le v').setCell (p := ⟨r, 2, none⟩) le x').setCell (p := ⟨r, 3, none⟩) le y', h.le, (((h.k1.far ne 0 u').far ne 1 v').far ne 2 x').far ne 3 y'⟩
def FoC (w : World) (q : Nat) (b : List Value) (t : List Value) (f : Bool) (v13 v14 : Value) (X : World) : Prop := ∃ r, v13 = .pointer (some ⟨r, 0, none⟩) ∧ v14 = .bool f ∧ FoW w q b X ∧ r ≠ q ∧ Blk X r t
theorem fo_yes (A : Option Addr) (n c : Nat) (off T ta tr ts : Int) (tl : ByteArray) (w : World) (LA : Hid (∀ W, Below w.heap.size w W → Calls Tryz.prog 57 #[.slice A n c, .int .i64 off, .int .i64 T] W (fun e w' => e = .returned (.tuple #[.agg #[.int .i64 ta, .int .i64 tr, .int .i64 ts, .string tl], .bool true]) ∧ Below W.heap.size W w'))) : Calls Tryz.prog 33 #[.slice A n c, .int .i64 off, .int .i64 T] w (RetIS w (ts, tl)) := by
  go_enter Tryz.func33, Tryz.ntmps33
  go_upto_region 2 with (go_at_call 57; refine (LA.out _ (Below.refl _ _)).mono ?_; clear LA; rintro e W9 ⟨rfl, hk⟩)
  have KX := Blk.new4 W9 (.int .i64 ta) (.int .i64 tr) (.int .i64 ts) (.string tl) 65
  have hb := below_thru hk (below_box W9 (.cells #[.int .i64 ta, .int .i64 tr, .int .i64 ts, .string tl] 65))
  generalize W9.alloc (.cells #[.int .i64 ta, .int .i64 tr, .int .i64 ts, .string tl] 65) = W at *
  generalize W9.heap.size = p at *
  clear hk
  obtain ⟨_, x0, x1, x2, x3, _⟩ := KX.four
  go_wp2_with fail
  go_quiet (fail)
  rename_i nq
  go_wp2
  exact bodyPost_ret (v := .tuple #[.int .i64 ts, .string tl]) (by simp [results, Tryz.results33, go_sem]) rfl ⟨rfl, below_drewN hb _⟩
theorem fo_no {L : List Rl} (A : Option Addr) (n c : Nat) (off T : Int) (w : World) (hm : RulV w A n c L) (s : ByteArray) (hs : s = ((firstGo L none).getD Tn.zero).letter) (LA : Hid (∀ W, Below w.heap.size w W → Calls Tryz.prog 57 #[.slice A n c, .int .i64 off, .int .i64 T] W (fun e w' => e = .returned (.tuple #[.agg #[.int .i64 0, .int .i64 0, .int .i64 0, .string ⟨#[]⟩], .bool false]) ∧ Below W.heap.size W w'))) : Calls Tryz.prog 33 #[.slice A n c, .int .i64 off, .int .i64 T] w (RetIS w (0, s)) := by
  have mx : n ≤ 9223372036854775807 := Nat.le_trans hm.cap hm.max
  have LN := Lib.hid (show L.length = n by have := hm.len; simpa using this)
  have HA := Lib.hid hm
  have HS := Lib.hid hs
  clear hm hs
  go_enter Tryz.func33, Tryz.ntmps33
  go_upto_region 2 with (go_at_call 57; refine (LA.out _ (Below.refl _ _)).mono ?_; clear LA; rintro e W9 ⟨rfl, hk⟩)
  have KX := Blk.new4 W9 (.int .i64 0) (.int .i64 0) (.int .i64 0) (.string ⟨#[]⟩) 65
  have hb := below_thru hk (below_box W9 (.cells #[.int .i64 0, .int .i64 0, .int .i64 0, .string ⟨#[]⟩] 65))
  generalize W9.alloc (.cells #[.int .i64 0, .int .i64 0, .int .i64 0, .string ⟨#[]⟩] 65) = W at *
  generalize W9.heap.size = p at *
  clear hk
  obtain ⟨_, x0, x1, x2, x3, _⟩ := KX.four
  clear KX
  go_upto_region 5 with (fail)
  have HW : FoW w W.heap.size [.int .i64 0, .int .i64 0, .int .i64 0, .string ⟨#[]⟩] (W.alloc (.cells #[.int .i64 0, .int .i64 0, .int .i64 0, .string ⟨#[]⟩] 65)) := ⟨below_thru hb (below_box W (.cells #[.int .i64 0, .int .i64 0, .int .i64 0, .string ⟨#[]⟩] 65)), hb.size, Blk.new4 W (.int .i64 0) (.int .i64 0) (.int .i64 0) (.string ⟨#[]⟩) 65⟩
  generalize W.alloc (.cells #[.int .i64 0, .int .i64 0, .int .i64 0, .string ⟨#[]⟩] 65) = W0 at *
  generalize W.heap.size = q at *
  clear x0 x1 x2 x3 hb
  go_wp2_with fail
  go_loopw [11, 12] (fun v11 v12 wr => ∃ (k : Nat) (b : Option Tn), k ≤ n ∧ v11 = .bool b.isSome ∧ v12 = .int .i64 k ∧ firstGo L none = firstGo (L.drop k) b ∧ FoW w q (b.getD Tn.zero).vals wr) (fun _ v _ => n - (intOf v).toNat)
  case atStart => exact ⟨0, none, by omega, rfl, rfl, rfl, HW⟩
  case round =>
    clear HW
    obtain ⟨k, b, hk, rfl, rfl, hR, HW⟩ := hrel
    have HR := Lib.hid hR
    clear hR
    obtain ⟨⟨ba, br, bs, bl⟩, hq⟩ : ∃ q, q = b.getD Tn.zero := ⟨_, rfl⟩
    have HQ := Lib.hid hq
    rw [← hq] at HW
    replace HW : FoW w q [.int .i64 ba, .int .i64 br, .int .i64 bs, .string bl] wr := HW
    clear hq
    by_cases h4 : k < n
    · obtain ⟨x, hxx⟩ : ∃ x, L[k]? = some x := ⟨_, List.getElem?_eq_getElem (by rw [LN.out]; exact h4)⟩
      obtain ⟨g, o, ea0, hg, ca⟩ := HA.out.cells (by omega)
      subst ea0
      have ra := row_at ca (show (L.map Rl.vals)[k]? = some (Rl.vals x) by rw [List.getElem?_map, hxx]; rfl)
      have HN := Lib.hid (HR.out.trans (first_step hxx b))
      have TR := Lib.hid (fun y W => turnDR x y W)
      obtain ⟨X, hX⟩ : ∃ X, X = x := ⟨_, rfl⟩
      rw [← hX] at HN TR
      have HX := Lib.hid hX
      clear hX
      obtain ⟨nm, fr, last, ⟨mo, ki, wd, da, ti, re⟩, save, le⟩ := x
      have x0 : w.cell? ⟨g, o + k * 11, none⟩ = some (.string nm) := ra 0 _ rfl
      have x1 : w.cell? ⟨g, o + k * 11 + 1, none⟩ = some (.int .i64 fr) := ra 1 _ rfl
      have x2 : w.cell? ⟨g, o + k * 11 + 2, none⟩ = some (.int .i64 last) := ra 2 _ rfl
      have x3 : w.cell? ⟨g, o + k * 11 + 3, none⟩ = some (.int .i64 mo) := ra 3 _ rfl
      have x4 : w.cell? ⟨g, o + k * 11 + 4, none⟩ = some (.int .i64 ki) := ra 4 _ rfl
      have x5 : w.cell? ⟨g, o + k * 11 + 5, none⟩ = some (.int .i64 wd) := ra 5 _ rfl
      have x6 : w.cell? ⟨g, o + k * 11 + 6, none⟩ = some (.int .i64 da) := ra 6 _ rfl
      have x7 : w.cell? ⟨g, o + k * 11 + 7, none⟩ = some (.int .i64 ti) := ra 7 _ rfl
      have x8 : w.cell? ⟨g, o + k * 11 + 8, none⟩ = some (.int .i64 re) := ra 8 _ rfl
      have x9 : w.cell? ⟨g, o + k * 11 + 9, none⟩ = some (.int .i64 save) := ra 9 _ rfl
      have x10 : w.cell? ⟨g, o + k * 11 + 10, none⟩ = some (.string le) := ra 10 _ rfl
      clear ca ra hxx
      have EF := Lib.hid (show X.fr = fr by rw [HX.out])
      have ES := Lib.hid (show X.save = save by rw [HX.out])
      have TC := Lib.hid (fun W => (show Calls Tryz.prog 54 #[.agg #[.string nm, .int .i64 fr, .int .i64 last, .int .i64 mo, .int .i64 ki, .int .i64 wd, .int .i64 da, .int .i64 ti, .int .i64 re, .int .i64 save, .string le], .int .i64 fr] W (RetTB W (turnO X X.fr)) from by rw [show (Value.agg #[.string nm, .int .i64 fr, .int .i64 last, .int .i64 mo, .int .i64 ki, .int .i64 wd, .int .i64 da, .int .i64 ti, .int .i64 re, .int .i64 save, .string le]) = X.val from by rw [HX.out]; rfl, ← EF.out]; exact TR.out X.fr W))
      by_cases h6 : turnIn X X.fr
      · skip
        rw [turnO_some h6] at TC
        obtain ⟨t, ht⟩ : ∃ t, t = turnT X X.fr := ⟨_, rfl⟩
        have HT := Lib.hid ht
        rw [← ht] at TC
        clear ht
        obtain ⟨ta, tr, ts, tl⟩ := t
        by_cases h7 : save = 0
        · have d7 : (save == 0) = true := by simp [h7]
          have h7' : X.save = 0 := by rw [ES.out]; exact h7
          clear h7
          cases b with
          | none =>
            have N2 := Lib.hid (show firstGo L none = firstGo (L.drop (k + 1)) (some ⟨ta, tr, ts, tl⟩) from by have := HN.out; rw [if_pos ⟨h6, h7', rfl⟩] at this; rw [HT.out]; exact this)
            clear HN h6 h7'
            replace TC := Lib.hid (fun W => (show Calls Tryz.prog 54 #[.agg #[.string nm, .int .i64 fr, .int .i64 last, .int .i64 mo, .int .i64 ki, .int .i64 wd, .int .i64 da, .int .i64 ti, .int .i64 re, .int .i64 save, .string le], .int .i64 fr] W (fun e w' => e = .returned (.tuple #[.agg #[.int .i64 ta, .int .i64 tr, .int .i64 ts, .string tl], .bool true]) ∧ Below W.heap.size W w') from TC.out W))
            go_wp2_with fail
            have qlt := HW.k1.lt
            have wle := HW.hb.size
            go_cut [13, 14] (fun v13 v14 wx => FoC w q [.int .i64 ba, .int .i64 br, .int .i64 bs, .string bl] [.int .i64 ta, .int .i64 tr, .int .i64 ts, .string tl] true v13 v14 wx)
            case first =>
              go_region_held3 (fun w' => w'.cell? ⟨g, o + k * 11, none⟩ = some (.string nm) ∧ w'.cell? ⟨g, o + k * 11 + 1, none⟩ = some (.int .i64 fr) ∧ w'.cell? ⟨g, o + k * 11 + 2, none⟩ = some (.int .i64 last) ∧ w'.cell? ⟨g, o + k * 11 + 3, none⟩ = some (.int .i64 mo) ∧ w'.cell? ⟨g, o + k * 11 + 4, none⟩ = some (.int .i64 ki) ∧ w'.cell? ⟨g, o + k * 11 + 5, none⟩ = some (.int .i64 wd) ∧ w'.cell? ⟨g, o + k * 11 + 6, none⟩ = some (.int .i64 da) ∧ w'.cell? ⟨g, o + k * 11 + 7, none⟩ = some (.int .i64 ti) ∧ w'.cell? ⟨g, o + k * 11 + 8, none⟩ = some (.int .i64 re) ∧ w'.cell? ⟨g, o + k * 11 + 9, none⟩ = some (.int .i64 save) ∧ w'.cell? ⟨g, o + k * 11 + 10, none⟩ = some (.string le)) (first | (with_reducible exact ⟨HW.at_ hg x0, HW.at_ hg x1, HW.at_ hg x2, HW.at_ hg x3, HW.at_ hg x4, HW.at_ hg x5, HW.at_ hg x6, HW.at_ hg x7, HW.at_ hg x8, HW.at_ hg x9, HW.at_ hg x10⟩) | (with_reducible exact ⟨HW.drew.at_ hg x0, HW.drew.at_ hg x1, HW.drew.at_ hg x2, HW.drew.at_ hg x3, HW.drew.at_ hg x4, HW.drew.at_ hg x5, HW.drew.at_ hg x6, HW.drew.at_ hg x7, HW.drew.at_ hg x8, HW.drew.at_ hg x9, HW.drew.at_ hg x10⟩) | (with_reducible exact ⟨(HW.alloc _).at_ hg x0, (HW.alloc _).at_ hg x1, (HW.alloc _).at_ hg x2, (HW.alloc _).at_ hg x3, (HW.alloc _).at_ hg x4, (HW.alloc _).at_ hg x5, (HW.alloc _).at_ hg x6, (HW.alloc _).at_ hg x7, (HW.alloc _).at_ hg x8, (HW.alloc _).at_ hg x9, (HW.alloc _).at_ hg x10⟩) | (with_reducible exact ⟨(HW.drew.alloc _).at_ hg x0, (HW.drew.alloc _).at_ hg x1, (HW.drew.alloc _).at_ hg x2, (HW.drew.alloc _).at_ hg x3, (HW.drew.alloc _).at_ hg x4, (HW.drew.alloc _).at_ hg x5, (HW.drew.alloc _).at_ hg x6, (HW.drew.alloc _).at_ hg x7, (HW.drew.alloc _).at_ hg x8, (HW.drew.alloc _).at_ hg x9, (HW.drew.alloc _).at_ hg x10⟩) | (with_reducible exact ⟨(HW.alloc _).drew.at_ hg x0, (HW.alloc _).drew.at_ hg x1, (HW.alloc _).drew.at_ hg x2, (HW.alloc _).drew.at_ hg x3, (HW.alloc _).drew.at_ hg x4, (HW.alloc _).drew.at_ hg x5, (HW.alloc _).drew.at_ hg x6, (HW.alloc _).drew.at_ hg x7, (HW.alloc _).drew.at_ hg x8, (HW.alloc _).drew.at_ hg x9, (HW.alloc _).drew.at_ hg x10⟩) | (with_reducible exact ⟨(HW.far (Nat.ne_of_gt qlt) wle _ _ _ _).at_ hg x0, (HW.far (Nat.ne_of_gt qlt) wle _ _ _ _).at_ hg x1, (HW.far (Nat.ne_of_gt qlt) wle _ _ _ _).at_ hg x2, (HW.far (Nat.ne_of_gt qlt) wle _ _ _ _).at_ hg x3, (HW.far (Nat.ne_of_gt qlt) wle _ _ _ _).at_ hg x4, (HW.far (Nat.ne_of_gt qlt) wle _ _ _ _).at_ hg x5, (HW.far (Nat.ne_of_gt qlt) wle _ _ _ _).at_ hg x6, (HW.far (Nat.ne_of_gt qlt) wle _ _ _ _).at_ hg x7, (HW.far (Nat.ne_of_gt qlt) wle _ _ _ _).at_ hg x8, (HW.far (Nat.ne_of_gt qlt) wle _ _ _ _).at_ hg x9, (HW.far (Nat.ne_of_gt qlt) wle _ _ _ _).at_ hg x10⟩) | (with_reducible exact ⟨((HW.alloc _).far (Nat.ne_of_gt HW.k1.lt) HW.hb.size _ _ _ _).at_ hg x0, ((HW.alloc _).far (Nat.ne_of_gt HW.k1.lt) HW.hb.size _ _ _ _).at_ hg x1, ((HW.alloc _).far (Nat.ne_of_gt HW.k1.lt) HW.hb.size _ _ _ _).at_ hg x2, ((HW.alloc _).far (Nat.ne_of_gt HW.k1.lt) HW.hb.size _ _ _ _).at_ hg x3, ((HW.alloc _).far (Nat.ne_of_gt HW.k1.lt) HW.hb.size _ _ _ _).at_ hg x4, ((HW.alloc _).far (Nat.ne_of_gt HW.k1.lt) HW.hb.size _ _ _ _).at_ hg x5, ((HW.alloc _).far (Nat.ne_of_gt HW.k1.lt) HW.hb.size _ _ _ _).at_ hg x6, ((HW.alloc _).far (Nat.ne_of_gt HW.k1.lt) HW.hb.size _ _ _ _).at_ hg x7, ((HW.alloc _).far (Nat.ne_of_gt HW.k1.lt) HW.hb.size _ _ _ _).at_ hg x8, ((HW.alloc _).far (Nat.ne_of_gt HW.k1.lt) HW.hb.size _ _ _ _).at_ hg x9, ((HW.alloc _).far (Nat.ne_of_gt HW.k1.lt) HW.hb.size _ _ _ _).at_ hg x10⟩) | (with_reducible exact ⟨(HW.far (Nat.ne_of_gt qlt) wle _ _ _ _).drew.at_ hg x0, (HW.far (Nat.ne_of_gt qlt) wle _ _ _ _).drew.at_ hg x1, (HW.far (Nat.ne_of_gt qlt) wle _ _ _ _).drew.at_ hg x2, (HW.far (Nat.ne_of_gt qlt) wle _ _ _ _).drew.at_ hg x3, (HW.far (Nat.ne_of_gt qlt) wle _ _ _ _).drew.at_ hg x4, (HW.far (Nat.ne_of_gt qlt) wle _ _ _ _).drew.at_ hg x5, (HW.far (Nat.ne_of_gt qlt) wle _ _ _ _).drew.at_ hg x6, (HW.far (Nat.ne_of_gt qlt) wle _ _ _ _).drew.at_ hg x7, (HW.far (Nat.ne_of_gt qlt) wle _ _ _ _).drew.at_ hg x8, (HW.far (Nat.ne_of_gt qlt) wle _ _ _ _).drew.at_ hg x9, (HW.far (Nat.ne_of_gt qlt) wle _ _ _ _).drew.at_ hg x10⟩) | go_keep)
                (first
                  | (go_at_call 54; (with_reducible refine (TC.out _).mono ?_); rintro e9 W9 ⟨rfl, hk⟩; (with_reducible first | replace HW := FoW.below HW hk | replace HW := FoW.below HW.drew hk | (have KN := (Blk.new4 wr.drew (.int .i64 0) (.int .i64 0) (.int .i64 0) (.string ⟨#[]⟩) 65).below hk; replace HW := FoW.below (HW.drew.alloc _) hk; obtain ⟨_, n0, n1, n2, n3, m0, m1, m2, m3⟩ := KN.four) | (have KN := (Blk.new4 wr (.int .i64 0) (.int .i64 0) (.int .i64 0) (.string ⟨#[]⟩) 65).below hk; replace HW := FoW.below (HW.alloc _) hk; obtain ⟨_, n0, n1, n2, n3, m0, m1, m2, m3⟩ := KN.four) | (have KN := (Blk.new4 wr (.int .i64 0) (.int .i64 0) (.int .i64 0) (.string ⟨#[]⟩) 65).drew.below hk; replace HW := FoW.below (HW.alloc _).drew hk; obtain ⟨_, n0, n1, n2, n3, m0, m1, m2, m3⟩ := KN.four)); clear hk))
              all_goals
                go_wp2_with fail
                go_meet
                refine ⟨_, rfl, rfl, ?_⟩
                with_reducible first
                  | exact ⟨HW.alloc _, Nat.ne_of_gt HW.k1.lt, Blk.new4 _ _ _ _ _ _⟩
                  | exact ⟨HW.far (Nat.ne_of_gt qlt) wle _ _ _ _, Nat.ne_of_gt qlt, KN.self4 _ _ _ _⟩
            case rest =>
              clear HW qlt wle TC
              obtain ⟨r, rfl, rfl, HW, ne, KR⟩ := hcut
              obtain ⟨_, q0, q1, q2, q3, _⟩ := KR.four
              obtain ⟨_, b0, b1, b2, b3, e0, e1, e2, e3⟩ := HW.k1.four
              have z9 := HW.at_ hg x9
              clear x0 x1 x2 x3 x4 x5 x6 x7 x8 x9 x10
              go_wp2
              go_roundw
              case rel => exact ⟨k + 1, some ⟨ta, tr, ts, tl⟩, by omega, rfl, int_eqS (by omega), N2.out, HW.store _ _ _ _⟩
              case measure => simp only [intOf]; omega
          | some bt =>
            have eb : bt = ⟨ba, br, bs, bl⟩ := HQ.out.symm
            by_cases h8 : ta < ba
            · have d8 : decide (ta < ba) = true := decide_eq_true h8
              have N2 := Lib.hid (show firstGo L none = firstGo (L.drop (k + 1)) (some ⟨ta, tr, ts, tl⟩) from by have := HN.out; rw [if_pos ⟨h6, h7', by rw [← HT.out, eb]; exact d8⟩] at this; rw [HT.out]; exact this)
              clear HN h6 h7' eb
              replace TC := Lib.hid (fun W => (show Calls Tryz.prog 54 #[.agg #[.string nm, .int .i64 fr, .int .i64 last, .int .i64 mo, .int .i64 ki, .int .i64 wd, .int .i64 da, .int .i64 ti, .int .i64 re, .int .i64 save, .string le], .int .i64 fr] W (fun e w' => e = .returned (.tuple #[.agg #[.int .i64 ta, .int .i64 tr, .int .i64 ts, .string tl], .bool true]) ∧ Below W.heap.size W w') from TC.out W))
              go_wp2_with fail
              have qlt := HW.k1.lt
              have wle := HW.hb.size
              go_cut [13, 14] (fun v13 v14 wx => FoC w q [.int .i64 ba, .int .i64 br, .int .i64 bs, .string bl] [.int .i64 ta, .int .i64 tr, .int .i64 ts, .string tl] true v13 v14 wx)
              case first =>
                go_region_held3 (fun w' => w'.cell? ⟨g, o + k * 11, none⟩ = some (.string nm) ∧ w'.cell? ⟨g, o + k * 11 + 1, none⟩ = some (.int .i64 fr) ∧ w'.cell? ⟨g, o + k * 11 + 2, none⟩ = some (.int .i64 last) ∧ w'.cell? ⟨g, o + k * 11 + 3, none⟩ = some (.int .i64 mo) ∧ w'.cell? ⟨g, o + k * 11 + 4, none⟩ = some (.int .i64 ki) ∧ w'.cell? ⟨g, o + k * 11 + 5, none⟩ = some (.int .i64 wd) ∧ w'.cell? ⟨g, o + k * 11 + 6, none⟩ = some (.int .i64 da) ∧ w'.cell? ⟨g, o + k * 11 + 7, none⟩ = some (.int .i64 ti) ∧ w'.cell? ⟨g, o + k * 11 + 8, none⟩ = some (.int .i64 re) ∧ w'.cell? ⟨g, o + k * 11 + 9, none⟩ = some (.int .i64 save) ∧ w'.cell? ⟨g, o + k * 11 + 10, none⟩ = some (.string le)) (first | (with_reducible exact ⟨HW.at_ hg x0, HW.at_ hg x1, HW.at_ hg x2, HW.at_ hg x3, HW.at_ hg x4, HW.at_ hg x5, HW.at_ hg x6, HW.at_ hg x7, HW.at_ hg x8, HW.at_ hg x9, HW.at_ hg x10⟩) | (with_reducible exact ⟨HW.drew.at_ hg x0, HW.drew.at_ hg x1, HW.drew.at_ hg x2, HW.drew.at_ hg x3, HW.drew.at_ hg x4, HW.drew.at_ hg x5, HW.drew.at_ hg x6, HW.drew.at_ hg x7, HW.drew.at_ hg x8, HW.drew.at_ hg x9, HW.drew.at_ hg x10⟩) | (with_reducible exact ⟨(HW.alloc _).at_ hg x0, (HW.alloc _).at_ hg x1, (HW.alloc _).at_ hg x2, (HW.alloc _).at_ hg x3, (HW.alloc _).at_ hg x4, (HW.alloc _).at_ hg x5, (HW.alloc _).at_ hg x6, (HW.alloc _).at_ hg x7, (HW.alloc _).at_ hg x8, (HW.alloc _).at_ hg x9, (HW.alloc _).at_ hg x10⟩) | (with_reducible exact ⟨(HW.drew.alloc _).at_ hg x0, (HW.drew.alloc _).at_ hg x1, (HW.drew.alloc _).at_ hg x2, (HW.drew.alloc _).at_ hg x3, (HW.drew.alloc _).at_ hg x4, (HW.drew.alloc _).at_ hg x5, (HW.drew.alloc _).at_ hg x6, (HW.drew.alloc _).at_ hg x7, (HW.drew.alloc _).at_ hg x8, (HW.drew.alloc _).at_ hg x9, (HW.drew.alloc _).at_ hg x10⟩) | (with_reducible exact ⟨(HW.alloc _).drew.at_ hg x0, (HW.alloc _).drew.at_ hg x1, (HW.alloc _).drew.at_ hg x2, (HW.alloc _).drew.at_ hg x3, (HW.alloc _).drew.at_ hg x4, (HW.alloc _).drew.at_ hg x5, (HW.alloc _).drew.at_ hg x6, (HW.alloc _).drew.at_ hg x7, (HW.alloc _).drew.at_ hg x8, (HW.alloc _).drew.at_ hg x9, (HW.alloc _).drew.at_ hg x10⟩) | (with_reducible exact ⟨(HW.far (Nat.ne_of_gt qlt) wle _ _ _ _).at_ hg x0, (HW.far (Nat.ne_of_gt qlt) wle _ _ _ _).at_ hg x1, (HW.far (Nat.ne_of_gt qlt) wle _ _ _ _).at_ hg x2, (HW.far (Nat.ne_of_gt qlt) wle _ _ _ _).at_ hg x3, (HW.far (Nat.ne_of_gt qlt) wle _ _ _ _).at_ hg x4, (HW.far (Nat.ne_of_gt qlt) wle _ _ _ _).at_ hg x5, (HW.far (Nat.ne_of_gt qlt) wle _ _ _ _).at_ hg x6, (HW.far (Nat.ne_of_gt qlt) wle _ _ _ _).at_ hg x7, (HW.far (Nat.ne_of_gt qlt) wle _ _ _ _).at_ hg x8, (HW.far (Nat.ne_of_gt qlt) wle _ _ _ _).at_ hg x9, (HW.far (Nat.ne_of_gt qlt) wle _ _ _ _).at_ hg x10⟩) | (with_reducible exact ⟨((HW.alloc _).far (Nat.ne_of_gt HW.k1.lt) HW.hb.size _ _ _ _).at_ hg x0, ((HW.alloc _).far (Nat.ne_of_gt HW.k1.lt) HW.hb.size _ _ _ _).at_ hg x1, ((HW.alloc _).far (Nat.ne_of_gt HW.k1.lt) HW.hb.size _ _ _ _).at_ hg x2, ((HW.alloc _).far (Nat.ne_of_gt HW.k1.lt) HW.hb.size _ _ _ _).at_ hg x3, ((HW.alloc _).far (Nat.ne_of_gt HW.k1.lt) HW.hb.size _ _ _ _).at_ hg x4, ((HW.alloc _).far (Nat.ne_of_gt HW.k1.lt) HW.hb.size _ _ _ _).at_ hg x5, ((HW.alloc _).far (Nat.ne_of_gt HW.k1.lt) HW.hb.size _ _ _ _).at_ hg x6, ((HW.alloc _).far (Nat.ne_of_gt HW.k1.lt) HW.hb.size _ _ _ _).at_ hg x7, ((HW.alloc _).far (Nat.ne_of_gt HW.k1.lt) HW.hb.size _ _ _ _).at_ hg x8, ((HW.alloc _).far (Nat.ne_of_gt HW.k1.lt) HW.hb.size _ _ _ _).at_ hg x9, ((HW.alloc _).far (Nat.ne_of_gt HW.k1.lt) HW.hb.size _ _ _ _).at_ hg x10⟩) | (with_reducible exact ⟨(HW.far (Nat.ne_of_gt qlt) wle _ _ _ _).drew.at_ hg x0, (HW.far (Nat.ne_of_gt qlt) wle _ _ _ _).drew.at_ hg x1, (HW.far (Nat.ne_of_gt qlt) wle _ _ _ _).drew.at_ hg x2, (HW.far (Nat.ne_of_gt qlt) wle _ _ _ _).drew.at_ hg x3, (HW.far (Nat.ne_of_gt qlt) wle _ _ _ _).drew.at_ hg x4, (HW.far (Nat.ne_of_gt qlt) wle _ _ _ _).drew.at_ hg x5, (HW.far (Nat.ne_of_gt qlt) wle _ _ _ _).drew.at_ hg x6, (HW.far (Nat.ne_of_gt qlt) wle _ _ _ _).drew.at_ hg x7, (HW.far (Nat.ne_of_gt qlt) wle _ _ _ _).drew.at_ hg x8, (HW.far (Nat.ne_of_gt qlt) wle _ _ _ _).drew.at_ hg x9, (HW.far (Nat.ne_of_gt qlt) wle _ _ _ _).drew.at_ hg x10⟩) | go_keep)
                  (first
                    | (go_at_call 54; (with_reducible refine (TC.out _).mono ?_); rintro e9 W9 ⟨rfl, hk⟩; (with_reducible first | replace HW := FoW.below HW hk | replace HW := FoW.below HW.drew hk | (have KN := (Blk.new4 wr.drew (.int .i64 0) (.int .i64 0) (.int .i64 0) (.string ⟨#[]⟩) 65).below hk; replace HW := FoW.below (HW.drew.alloc _) hk; obtain ⟨_, n0, n1, n2, n3, m0, m1, m2, m3⟩ := KN.four) | (have KN := (Blk.new4 wr (.int .i64 0) (.int .i64 0) (.int .i64 0) (.string ⟨#[]⟩) 65).below hk; replace HW := FoW.below (HW.alloc _) hk; obtain ⟨_, n0, n1, n2, n3, m0, m1, m2, m3⟩ := KN.four) | (have KN := (Blk.new4 wr (.int .i64 0) (.int .i64 0) (.int .i64 0) (.string ⟨#[]⟩) 65).drew.below hk; replace HW := FoW.below (HW.alloc _).drew hk; obtain ⟨_, n0, n1, n2, n3, m0, m1, m2, m3⟩ := KN.four)); clear hk))
                all_goals
                  go_wp2_with fail
                  go_meet
                  refine ⟨_, rfl, rfl, ?_⟩
                  with_reducible first
                    | exact ⟨HW.alloc _, Nat.ne_of_gt HW.k1.lt, Blk.new4 _ _ _ _ _ _⟩
                    | exact ⟨HW.far (Nat.ne_of_gt qlt) wle _ _ _ _, Nat.ne_of_gt qlt, KN.self4 _ _ _ _⟩
              case rest =>
                clear HW qlt wle TC
                obtain ⟨r, rfl, rfl, HW, ne, KR⟩ := hcut
                obtain ⟨_, q0, q1, q2, q3, _⟩ := KR.four
                obtain ⟨_, b0, b1, b2, b3, e0, e1, e2, e3⟩ := HW.k1.four
                have z9 := HW.at_ hg x9
                clear x0 x1 x2 x3 x4 x5 x6 x7 x8 x9 x10
                go_wp2
                go_roundw
                case rel => exact ⟨k + 1, some ⟨ta, tr, ts, tl⟩, by omega, rfl, int_eqS (by omega), N2.out, HW.store _ _ _ _⟩
                case measure => simp only [intOf]; omega
            · have d8 : decide (ta < ba) = false := decide_eq_false h8
              have N2 := Lib.hid (show firstGo L none = firstGo (L.drop (k + 1)) (some bt) from by have := HN.out; rw [if_neg (fun c => by have c2 := c.2.2; rw [← HT.out, eb] at c2; exact h8 (of_decide_eq_true c2))] at this; exact this)
              clear HN h6 h7' eb
              replace TC := Lib.hid (fun W => (show Calls Tryz.prog 54 #[.agg #[.string nm, .int .i64 fr, .int .i64 last, .int .i64 mo, .int .i64 ki, .int .i64 wd, .int .i64 da, .int .i64 ti, .int .i64 re, .int .i64 save, .string le], .int .i64 fr] W (fun e w' => e = .returned (.tuple #[.agg #[.int .i64 ta, .int .i64 tr, .int .i64 ts, .string tl], .bool true]) ∧ Below W.heap.size W w') from TC.out W))
              go_wp2_with fail
              have qlt := HW.k1.lt
              have wle := HW.hb.size
              go_cut [13, 14] (fun v13 v14 wx => FoC w q [.int .i64 ba, .int .i64 br, .int .i64 bs, .string bl] [.int .i64 ta, .int .i64 tr, .int .i64 ts, .string tl] true v13 v14 wx)
              case first =>
                go_region_held3 (fun w' => w'.cell? ⟨g, o + k * 11, none⟩ = some (.string nm) ∧ w'.cell? ⟨g, o + k * 11 + 1, none⟩ = some (.int .i64 fr) ∧ w'.cell? ⟨g, o + k * 11 + 2, none⟩ = some (.int .i64 last) ∧ w'.cell? ⟨g, o + k * 11 + 3, none⟩ = some (.int .i64 mo) ∧ w'.cell? ⟨g, o + k * 11 + 4, none⟩ = some (.int .i64 ki) ∧ w'.cell? ⟨g, o + k * 11 + 5, none⟩ = some (.int .i64 wd) ∧ w'.cell? ⟨g, o + k * 11 + 6, none⟩ = some (.int .i64 da) ∧ w'.cell? ⟨g, o + k * 11 + 7, none⟩ = some (.int .i64 ti) ∧ w'.cell? ⟨g, o + k * 11 + 8, none⟩ = some (.int .i64 re) ∧ w'.cell? ⟨g, o + k * 11 + 9, none⟩ = some (.int .i64 save) ∧ w'.cell? ⟨g, o + k * 11 + 10, none⟩ = some (.string le)) (first | (with_reducible exact ⟨HW.at_ hg x0, HW.at_ hg x1, HW.at_ hg x2, HW.at_ hg x3, HW.at_ hg x4, HW.at_ hg x5, HW.at_ hg x6, HW.at_ hg x7, HW.at_ hg x8, HW.at_ hg x9, HW.at_ hg x10⟩) | (with_reducible exact ⟨HW.drew.at_ hg x0, HW.drew.at_ hg x1, HW.drew.at_ hg x2, HW.drew.at_ hg x3, HW.drew.at_ hg x4, HW.drew.at_ hg x5, HW.drew.at_ hg x6, HW.drew.at_ hg x7, HW.drew.at_ hg x8, HW.drew.at_ hg x9, HW.drew.at_ hg x10⟩) | (with_reducible exact ⟨(HW.alloc _).at_ hg x0, (HW.alloc _).at_ hg x1, (HW.alloc _).at_ hg x2, (HW.alloc _).at_ hg x3, (HW.alloc _).at_ hg x4, (HW.alloc _).at_ hg x5, (HW.alloc _).at_ hg x6, (HW.alloc _).at_ hg x7, (HW.alloc _).at_ hg x8, (HW.alloc _).at_ hg x9, (HW.alloc _).at_ hg x10⟩) | (with_reducible exact ⟨(HW.drew.alloc _).at_ hg x0, (HW.drew.alloc _).at_ hg x1, (HW.drew.alloc _).at_ hg x2, (HW.drew.alloc _).at_ hg x3, (HW.drew.alloc _).at_ hg x4, (HW.drew.alloc _).at_ hg x5, (HW.drew.alloc _).at_ hg x6, (HW.drew.alloc _).at_ hg x7, (HW.drew.alloc _).at_ hg x8, (HW.drew.alloc _).at_ hg x9, (HW.drew.alloc _).at_ hg x10⟩) | (with_reducible exact ⟨(HW.alloc _).drew.at_ hg x0, (HW.alloc _).drew.at_ hg x1, (HW.alloc _).drew.at_ hg x2, (HW.alloc _).drew.at_ hg x3, (HW.alloc _).drew.at_ hg x4, (HW.alloc _).drew.at_ hg x5, (HW.alloc _).drew.at_ hg x6, (HW.alloc _).drew.at_ hg x7, (HW.alloc _).drew.at_ hg x8, (HW.alloc _).drew.at_ hg x9, (HW.alloc _).drew.at_ hg x10⟩) | (with_reducible exact ⟨(HW.far (Nat.ne_of_gt qlt) wle _ _ _ _).at_ hg x0, (HW.far (Nat.ne_of_gt qlt) wle _ _ _ _).at_ hg x1, (HW.far (Nat.ne_of_gt qlt) wle _ _ _ _).at_ hg x2, (HW.far (Nat.ne_of_gt qlt) wle _ _ _ _).at_ hg x3, (HW.far (Nat.ne_of_gt qlt) wle _ _ _ _).at_ hg x4, (HW.far (Nat.ne_of_gt qlt) wle _ _ _ _).at_ hg x5, (HW.far (Nat.ne_of_gt qlt) wle _ _ _ _).at_ hg x6, (HW.far (Nat.ne_of_gt qlt) wle _ _ _ _).at_ hg x7, (HW.far (Nat.ne_of_gt qlt) wle _ _ _ _).at_ hg x8, (HW.far (Nat.ne_of_gt qlt) wle _ _ _ _).at_ hg x9, (HW.far (Nat.ne_of_gt qlt) wle _ _ _ _).at_ hg x10⟩) | (with_reducible exact ⟨((HW.alloc _).far (Nat.ne_of_gt HW.k1.lt) HW.hb.size _ _ _ _).at_ hg x0, ((HW.alloc _).far (Nat.ne_of_gt HW.k1.lt) HW.hb.size _ _ _ _).at_ hg x1, ((HW.alloc _).far (Nat.ne_of_gt HW.k1.lt) HW.hb.size _ _ _ _).at_ hg x2, ((HW.alloc _).far (Nat.ne_of_gt HW.k1.lt) HW.hb.size _ _ _ _).at_ hg x3, ((HW.alloc _).far (Nat.ne_of_gt HW.k1.lt) HW.hb.size _ _ _ _).at_ hg x4, ((HW.alloc _).far (Nat.ne_of_gt HW.k1.lt) HW.hb.size _ _ _ _).at_ hg x5, ((HW.alloc _).far (Nat.ne_of_gt HW.k1.lt) HW.hb.size _ _ _ _).at_ hg x6, ((HW.alloc _).far (Nat.ne_of_gt HW.k1.lt) HW.hb.size _ _ _ _).at_ hg x7, ((HW.alloc _).far (Nat.ne_of_gt HW.k1.lt) HW.hb.size _ _ _ _).at_ hg x8, ((HW.alloc _).far (Nat.ne_of_gt HW.k1.lt) HW.hb.size _ _ _ _).at_ hg x9, ((HW.alloc _).far (Nat.ne_of_gt HW.k1.lt) HW.hb.size _ _ _ _).at_ hg x10⟩) | (with_reducible exact ⟨(HW.far (Nat.ne_of_gt qlt) wle _ _ _ _).drew.at_ hg x0, (HW.far (Nat.ne_of_gt qlt) wle _ _ _ _).drew.at_ hg x1, (HW.far (Nat.ne_of_gt qlt) wle _ _ _ _).drew.at_ hg x2, (HW.far (Nat.ne_of_gt qlt) wle _ _ _ _).drew.at_ hg x3, (HW.far (Nat.ne_of_gt qlt) wle _ _ _ _).drew.at_ hg x4, (HW.far (Nat.ne_of_gt qlt) wle _ _ _ _).drew.at_ hg x5, (HW.far (Nat.ne_of_gt qlt) wle _ _ _ _).drew.at_ hg x6, (HW.far (Nat.ne_of_gt qlt) wle _ _ _ _).drew.at_ hg x7, (HW.far (Nat.ne_of_gt qlt) wle _ _ _ _).drew.at_ hg x8, (HW.far (Nat.ne_of_gt qlt) wle _ _ _ _).drew.at_ hg x9, (HW.far (Nat.ne_of_gt qlt) wle _ _ _ _).drew.at_ hg x10⟩) | go_keep)
                  (first
                    | (go_at_call 54; (with_reducible refine (TC.out _).mono ?_); rintro e9 W9 ⟨rfl, hk⟩; (with_reducible first | replace HW := FoW.below HW hk | replace HW := FoW.below HW.drew hk | (have KN := (Blk.new4 wr.drew (.int .i64 0) (.int .i64 0) (.int .i64 0) (.string ⟨#[]⟩) 65).below hk; replace HW := FoW.below (HW.drew.alloc _) hk; obtain ⟨_, n0, n1, n2, n3, m0, m1, m2, m3⟩ := KN.four) | (have KN := (Blk.new4 wr (.int .i64 0) (.int .i64 0) (.int .i64 0) (.string ⟨#[]⟩) 65).below hk; replace HW := FoW.below (HW.alloc _) hk; obtain ⟨_, n0, n1, n2, n3, m0, m1, m2, m3⟩ := KN.four) | (have KN := (Blk.new4 wr (.int .i64 0) (.int .i64 0) (.int .i64 0) (.string ⟨#[]⟩) 65).drew.below hk; replace HW := FoW.below (HW.alloc _).drew hk; obtain ⟨_, n0, n1, n2, n3, m0, m1, m2, m3⟩ := KN.four)); clear hk))
                all_goals
                  go_wp2_with fail
                  go_meet
                  refine ⟨_, rfl, rfl, ?_⟩
                  with_reducible first
                    | exact ⟨HW.alloc _, Nat.ne_of_gt HW.k1.lt, Blk.new4 _ _ _ _ _ _⟩
                    | exact ⟨HW.far (Nat.ne_of_gt qlt) wle _ _ _ _, Nat.ne_of_gt qlt, KN.self4 _ _ _ _⟩
              case rest =>
                clear HW qlt wle TC
                obtain ⟨r, rfl, rfl, HW, ne, KR⟩ := hcut
                obtain ⟨_, q0, q1, q2, q3, _⟩ := KR.four
                obtain ⟨_, b0, b1, b2, b3, e0, e1, e2, e3⟩ := HW.k1.four
                have z9 := HW.at_ hg x9
                clear x0 x1 x2 x3 x4 x5 x6 x7 x8 x9 x10
                go_wp2
                go_roundw
                case rel => exact ⟨k + 1, some bt, by omega, rfl, int_eqS (by omega), N2.out, HQ.out ▸ HW⟩
                case measure => simp only [intOf]; omega
        · have d7 : (save == 0) = false := by simp [h7]
          have N2 := Lib.hid (show firstGo L none = firstGo (L.drop (k + 1)) b from by have := HN.out; rw [if_neg (fun c => h7 (by rw [← ES.out]; exact c.2.1))] at this; exact this)
          clear HN h6 h7
          replace TC := Lib.hid (fun W => (show Calls Tryz.prog 54 #[.agg #[.string nm, .int .i64 fr, .int .i64 last, .int .i64 mo, .int .i64 ki, .int .i64 wd, .int .i64 da, .int .i64 ti, .int .i64 re, .int .i64 save, .string le], .int .i64 fr] W (fun e w' => e = .returned (.tuple #[.agg #[.int .i64 ta, .int .i64 tr, .int .i64 ts, .string tl], .bool true]) ∧ Below W.heap.size W w') from TC.out W))
          go_wp2_with fail
          have qlt := HW.k1.lt
          have wle := HW.hb.size
          go_cut [13, 14] (fun v13 v14 wx => FoC w q [.int .i64 ba, .int .i64 br, .int .i64 bs, .string bl] [.int .i64 ta, .int .i64 tr, .int .i64 ts, .string tl] true v13 v14 wx)
          case first =>
            go_region_held3 (fun w' => w'.cell? ⟨g, o + k * 11, none⟩ = some (.string nm) ∧ w'.cell? ⟨g, o + k * 11 + 1, none⟩ = some (.int .i64 fr) ∧ w'.cell? ⟨g, o + k * 11 + 2, none⟩ = some (.int .i64 last) ∧ w'.cell? ⟨g, o + k * 11 + 3, none⟩ = some (.int .i64 mo) ∧ w'.cell? ⟨g, o + k * 11 + 4, none⟩ = some (.int .i64 ki) ∧ w'.cell? ⟨g, o + k * 11 + 5, none⟩ = some (.int .i64 wd) ∧ w'.cell? ⟨g, o + k * 11 + 6, none⟩ = some (.int .i64 da) ∧ w'.cell? ⟨g, o + k * 11 + 7, none⟩ = some (.int .i64 ti) ∧ w'.cell? ⟨g, o + k * 11 + 8, none⟩ = some (.int .i64 re) ∧ w'.cell? ⟨g, o + k * 11 + 9, none⟩ = some (.int .i64 save) ∧ w'.cell? ⟨g, o + k * 11 + 10, none⟩ = some (.string le)) (first | (with_reducible exact ⟨HW.at_ hg x0, HW.at_ hg x1, HW.at_ hg x2, HW.at_ hg x3, HW.at_ hg x4, HW.at_ hg x5, HW.at_ hg x6, HW.at_ hg x7, HW.at_ hg x8, HW.at_ hg x9, HW.at_ hg x10⟩) | (with_reducible exact ⟨HW.drew.at_ hg x0, HW.drew.at_ hg x1, HW.drew.at_ hg x2, HW.drew.at_ hg x3, HW.drew.at_ hg x4, HW.drew.at_ hg x5, HW.drew.at_ hg x6, HW.drew.at_ hg x7, HW.drew.at_ hg x8, HW.drew.at_ hg x9, HW.drew.at_ hg x10⟩) | (with_reducible exact ⟨(HW.alloc _).at_ hg x0, (HW.alloc _).at_ hg x1, (HW.alloc _).at_ hg x2, (HW.alloc _).at_ hg x3, (HW.alloc _).at_ hg x4, (HW.alloc _).at_ hg x5, (HW.alloc _).at_ hg x6, (HW.alloc _).at_ hg x7, (HW.alloc _).at_ hg x8, (HW.alloc _).at_ hg x9, (HW.alloc _).at_ hg x10⟩) | (with_reducible exact ⟨(HW.drew.alloc _).at_ hg x0, (HW.drew.alloc _).at_ hg x1, (HW.drew.alloc _).at_ hg x2, (HW.drew.alloc _).at_ hg x3, (HW.drew.alloc _).at_ hg x4, (HW.drew.alloc _).at_ hg x5, (HW.drew.alloc _).at_ hg x6, (HW.drew.alloc _).at_ hg x7, (HW.drew.alloc _).at_ hg x8, (HW.drew.alloc _).at_ hg x9, (HW.drew.alloc _).at_ hg x10⟩) | (with_reducible exact ⟨(HW.alloc _).drew.at_ hg x0, (HW.alloc _).drew.at_ hg x1, (HW.alloc _).drew.at_ hg x2, (HW.alloc _).drew.at_ hg x3, (HW.alloc _).drew.at_ hg x4, (HW.alloc _).drew.at_ hg x5, (HW.alloc _).drew.at_ hg x6, (HW.alloc _).drew.at_ hg x7, (HW.alloc _).drew.at_ hg x8, (HW.alloc _).drew.at_ hg x9, (HW.alloc _).drew.at_ hg x10⟩) | (with_reducible exact ⟨(HW.far (Nat.ne_of_gt qlt) wle _ _ _ _).at_ hg x0, (HW.far (Nat.ne_of_gt qlt) wle _ _ _ _).at_ hg x1, (HW.far (Nat.ne_of_gt qlt) wle _ _ _ _).at_ hg x2, (HW.far (Nat.ne_of_gt qlt) wle _ _ _ _).at_ hg x3, (HW.far (Nat.ne_of_gt qlt) wle _ _ _ _).at_ hg x4, (HW.far (Nat.ne_of_gt qlt) wle _ _ _ _).at_ hg x5, (HW.far (Nat.ne_of_gt qlt) wle _ _ _ _).at_ hg x6, (HW.far (Nat.ne_of_gt qlt) wle _ _ _ _).at_ hg x7, (HW.far (Nat.ne_of_gt qlt) wle _ _ _ _).at_ hg x8, (HW.far (Nat.ne_of_gt qlt) wle _ _ _ _).at_ hg x9, (HW.far (Nat.ne_of_gt qlt) wle _ _ _ _).at_ hg x10⟩) | (with_reducible exact ⟨((HW.alloc _).far (Nat.ne_of_gt HW.k1.lt) HW.hb.size _ _ _ _).at_ hg x0, ((HW.alloc _).far (Nat.ne_of_gt HW.k1.lt) HW.hb.size _ _ _ _).at_ hg x1, ((HW.alloc _).far (Nat.ne_of_gt HW.k1.lt) HW.hb.size _ _ _ _).at_ hg x2, ((HW.alloc _).far (Nat.ne_of_gt HW.k1.lt) HW.hb.size _ _ _ _).at_ hg x3, ((HW.alloc _).far (Nat.ne_of_gt HW.k1.lt) HW.hb.size _ _ _ _).at_ hg x4, ((HW.alloc _).far (Nat.ne_of_gt HW.k1.lt) HW.hb.size _ _ _ _).at_ hg x5, ((HW.alloc _).far (Nat.ne_of_gt HW.k1.lt) HW.hb.size _ _ _ _).at_ hg x6, ((HW.alloc _).far (Nat.ne_of_gt HW.k1.lt) HW.hb.size _ _ _ _).at_ hg x7, ((HW.alloc _).far (Nat.ne_of_gt HW.k1.lt) HW.hb.size _ _ _ _).at_ hg x8, ((HW.alloc _).far (Nat.ne_of_gt HW.k1.lt) HW.hb.size _ _ _ _).at_ hg x9, ((HW.alloc _).far (Nat.ne_of_gt HW.k1.lt) HW.hb.size _ _ _ _).at_ hg x10⟩) | (with_reducible exact ⟨(HW.far (Nat.ne_of_gt qlt) wle _ _ _ _).drew.at_ hg x0, (HW.far (Nat.ne_of_gt qlt) wle _ _ _ _).drew.at_ hg x1, (HW.far (Nat.ne_of_gt qlt) wle _ _ _ _).drew.at_ hg x2, (HW.far (Nat.ne_of_gt qlt) wle _ _ _ _).drew.at_ hg x3, (HW.far (Nat.ne_of_gt qlt) wle _ _ _ _).drew.at_ hg x4, (HW.far (Nat.ne_of_gt qlt) wle _ _ _ _).drew.at_ hg x5, (HW.far (Nat.ne_of_gt qlt) wle _ _ _ _).drew.at_ hg x6, (HW.far (Nat.ne_of_gt qlt) wle _ _ _ _).drew.at_ hg x7, (HW.far (Nat.ne_of_gt qlt) wle _ _ _ _).drew.at_ hg x8, (HW.far (Nat.ne_of_gt qlt) wle _ _ _ _).drew.at_ hg x9, (HW.far (Nat.ne_of_gt qlt) wle _ _ _ _).drew.at_ hg x10⟩) | go_keep)
              (first
                | (go_at_call 54; (with_reducible refine (TC.out _).mono ?_); rintro e9 W9 ⟨rfl, hk⟩; (with_reducible first | replace HW := FoW.below HW hk | replace HW := FoW.below HW.drew hk | (have KN := (Blk.new4 wr.drew (.int .i64 0) (.int .i64 0) (.int .i64 0) (.string ⟨#[]⟩) 65).below hk; replace HW := FoW.below (HW.drew.alloc _) hk; obtain ⟨_, n0, n1, n2, n3, m0, m1, m2, m3⟩ := KN.four) | (have KN := (Blk.new4 wr (.int .i64 0) (.int .i64 0) (.int .i64 0) (.string ⟨#[]⟩) 65).below hk; replace HW := FoW.below (HW.alloc _) hk; obtain ⟨_, n0, n1, n2, n3, m0, m1, m2, m3⟩ := KN.four) | (have KN := (Blk.new4 wr (.int .i64 0) (.int .i64 0) (.int .i64 0) (.string ⟨#[]⟩) 65).drew.below hk; replace HW := FoW.below (HW.alloc _).drew hk; obtain ⟨_, n0, n1, n2, n3, m0, m1, m2, m3⟩ := KN.four)); clear hk))
            all_goals
              go_wp2_with fail
              go_meet
              refine ⟨_, rfl, rfl, ?_⟩
              with_reducible first
                | exact ⟨HW.alloc _, Nat.ne_of_gt HW.k1.lt, Blk.new4 _ _ _ _ _ _⟩
                | exact ⟨HW.far (Nat.ne_of_gt qlt) wle _ _ _ _, Nat.ne_of_gt qlt, KN.self4 _ _ _ _⟩
          case rest =>
            clear HW qlt wle TC
            obtain ⟨r, rfl, rfl, HW, ne, KR⟩ := hcut
            obtain ⟨_, q0, q1, q2, q3, _⟩ := KR.four
            obtain ⟨_, b0, b1, b2, b3, e0, e1, e2, e3⟩ := HW.k1.four
            have z9 := HW.at_ hg x9
            clear x0 x1 x2 x3 x4 x5 x6 x7 x8 x9 x10
            go_wp2
            go_roundw
            case rel => exact ⟨k + 1, b, by omega, rfl, int_eqS (by omega), N2.out, HQ.out ▸ HW⟩
            case measure => simp only [intOf]; omega
      · rw [turnO_none h6] at TC
        have N2 := Lib.hid (show firstGo L none = firstGo (L.drop (k + 1)) b from by have := HN.out; rw [if_neg (fun c => h6 c.1)] at this; exact this)
        replace TC := Lib.hid (fun W => (show Calls Tryz.prog 54 #[.agg #[.string nm, .int .i64 fr, .int .i64 last, .int .i64 mo, .int .i64 ki, .int .i64 wd, .int .i64 da, .int .i64 ti, .int .i64 re, .int .i64 save, .string le], .int .i64 fr] W (fun e w' => e = .returned (.tuple #[.agg #[.int .i64 0, .int .i64 0, .int .i64 0, .string ⟨#[]⟩], .bool false]) ∧ Below W.heap.size W w') from TC.out W))
        go_wp2_with fail
        have qlt := HW.k1.lt
        have wle := HW.hb.size
        go_cut [13, 14] (fun v13 v14 wx => FoC w q [.int .i64 ba, .int .i64 br, .int .i64 bs, .string bl] [.int .i64 0, .int .i64 0, .int .i64 0, .string ⟨#[]⟩] false v13 v14 wx)
        case first =>
          go_region_held3 (fun w' => w'.cell? ⟨g, o + k * 11, none⟩ = some (.string nm) ∧ w'.cell? ⟨g, o + k * 11 + 1, none⟩ = some (.int .i64 fr) ∧ w'.cell? ⟨g, o + k * 11 + 2, none⟩ = some (.int .i64 last) ∧ w'.cell? ⟨g, o + k * 11 + 3, none⟩ = some (.int .i64 mo) ∧ w'.cell? ⟨g, o + k * 11 + 4, none⟩ = some (.int .i64 ki) ∧ w'.cell? ⟨g, o + k * 11 + 5, none⟩ = some (.int .i64 wd) ∧ w'.cell? ⟨g, o + k * 11 + 6, none⟩ = some (.int .i64 da) ∧ w'.cell? ⟨g, o + k * 11 + 7, none⟩ = some (.int .i64 ti) ∧ w'.cell? ⟨g, o + k * 11 + 8, none⟩ = some (.int .i64 re) ∧ w'.cell? ⟨g, o + k * 11 + 9, none⟩ = some (.int .i64 save) ∧ w'.cell? ⟨g, o + k * 11 + 10, none⟩ = some (.string le)) (first | (with_reducible exact ⟨HW.at_ hg x0, HW.at_ hg x1, HW.at_ hg x2, HW.at_ hg x3, HW.at_ hg x4, HW.at_ hg x5, HW.at_ hg x6, HW.at_ hg x7, HW.at_ hg x8, HW.at_ hg x9, HW.at_ hg x10⟩) | (with_reducible exact ⟨HW.drew.at_ hg x0, HW.drew.at_ hg x1, HW.drew.at_ hg x2, HW.drew.at_ hg x3, HW.drew.at_ hg x4, HW.drew.at_ hg x5, HW.drew.at_ hg x6, HW.drew.at_ hg x7, HW.drew.at_ hg x8, HW.drew.at_ hg x9, HW.drew.at_ hg x10⟩) | (with_reducible exact ⟨(HW.alloc _).at_ hg x0, (HW.alloc _).at_ hg x1, (HW.alloc _).at_ hg x2, (HW.alloc _).at_ hg x3, (HW.alloc _).at_ hg x4, (HW.alloc _).at_ hg x5, (HW.alloc _).at_ hg x6, (HW.alloc _).at_ hg x7, (HW.alloc _).at_ hg x8, (HW.alloc _).at_ hg x9, (HW.alloc _).at_ hg x10⟩) | (with_reducible exact ⟨(HW.drew.alloc _).at_ hg x0, (HW.drew.alloc _).at_ hg x1, (HW.drew.alloc _).at_ hg x2, (HW.drew.alloc _).at_ hg x3, (HW.drew.alloc _).at_ hg x4, (HW.drew.alloc _).at_ hg x5, (HW.drew.alloc _).at_ hg x6, (HW.drew.alloc _).at_ hg x7, (HW.drew.alloc _).at_ hg x8, (HW.drew.alloc _).at_ hg x9, (HW.drew.alloc _).at_ hg x10⟩) | (with_reducible exact ⟨(HW.alloc _).drew.at_ hg x0, (HW.alloc _).drew.at_ hg x1, (HW.alloc _).drew.at_ hg x2, (HW.alloc _).drew.at_ hg x3, (HW.alloc _).drew.at_ hg x4, (HW.alloc _).drew.at_ hg x5, (HW.alloc _).drew.at_ hg x6, (HW.alloc _).drew.at_ hg x7, (HW.alloc _).drew.at_ hg x8, (HW.alloc _).drew.at_ hg x9, (HW.alloc _).drew.at_ hg x10⟩) | (with_reducible exact ⟨(HW.far (Nat.ne_of_gt qlt) wle _ _ _ _).at_ hg x0, (HW.far (Nat.ne_of_gt qlt) wle _ _ _ _).at_ hg x1, (HW.far (Nat.ne_of_gt qlt) wle _ _ _ _).at_ hg x2, (HW.far (Nat.ne_of_gt qlt) wle _ _ _ _).at_ hg x3, (HW.far (Nat.ne_of_gt qlt) wle _ _ _ _).at_ hg x4, (HW.far (Nat.ne_of_gt qlt) wle _ _ _ _).at_ hg x5, (HW.far (Nat.ne_of_gt qlt) wle _ _ _ _).at_ hg x6, (HW.far (Nat.ne_of_gt qlt) wle _ _ _ _).at_ hg x7, (HW.far (Nat.ne_of_gt qlt) wle _ _ _ _).at_ hg x8, (HW.far (Nat.ne_of_gt qlt) wle _ _ _ _).at_ hg x9, (HW.far (Nat.ne_of_gt qlt) wle _ _ _ _).at_ hg x10⟩) | (with_reducible exact ⟨((HW.alloc _).far (Nat.ne_of_gt HW.k1.lt) HW.hb.size _ _ _ _).at_ hg x0, ((HW.alloc _).far (Nat.ne_of_gt HW.k1.lt) HW.hb.size _ _ _ _).at_ hg x1, ((HW.alloc _).far (Nat.ne_of_gt HW.k1.lt) HW.hb.size _ _ _ _).at_ hg x2, ((HW.alloc _).far (Nat.ne_of_gt HW.k1.lt) HW.hb.size _ _ _ _).at_ hg x3, ((HW.alloc _).far (Nat.ne_of_gt HW.k1.lt) HW.hb.size _ _ _ _).at_ hg x4, ((HW.alloc _).far (Nat.ne_of_gt HW.k1.lt) HW.hb.size _ _ _ _).at_ hg x5, ((HW.alloc _).far (Nat.ne_of_gt HW.k1.lt) HW.hb.size _ _ _ _).at_ hg x6, ((HW.alloc _).far (Nat.ne_of_gt HW.k1.lt) HW.hb.size _ _ _ _).at_ hg x7, ((HW.alloc _).far (Nat.ne_of_gt HW.k1.lt) HW.hb.size _ _ _ _).at_ hg x8, ((HW.alloc _).far (Nat.ne_of_gt HW.k1.lt) HW.hb.size _ _ _ _).at_ hg x9, ((HW.alloc _).far (Nat.ne_of_gt HW.k1.lt) HW.hb.size _ _ _ _).at_ hg x10⟩) | (with_reducible exact ⟨(HW.far (Nat.ne_of_gt qlt) wle _ _ _ _).drew.at_ hg x0, (HW.far (Nat.ne_of_gt qlt) wle _ _ _ _).drew.at_ hg x1, (HW.far (Nat.ne_of_gt qlt) wle _ _ _ _).drew.at_ hg x2, (HW.far (Nat.ne_of_gt qlt) wle _ _ _ _).drew.at_ hg x3, (HW.far (Nat.ne_of_gt qlt) wle _ _ _ _).drew.at_ hg x4, (HW.far (Nat.ne_of_gt qlt) wle _ _ _ _).drew.at_ hg x5, (HW.far (Nat.ne_of_gt qlt) wle _ _ _ _).drew.at_ hg x6, (HW.far (Nat.ne_of_gt qlt) wle _ _ _ _).drew.at_ hg x7, (HW.far (Nat.ne_of_gt qlt) wle _ _ _ _).drew.at_ hg x8, (HW.far (Nat.ne_of_gt qlt) wle _ _ _ _).drew.at_ hg x9, (HW.far (Nat.ne_of_gt qlt) wle _ _ _ _).drew.at_ hg x10⟩) | go_keep)
            (first
              | (go_at_call 54; (with_reducible refine (TC.out _).mono ?_); rintro e9 W9 ⟨rfl, hk⟩; (with_reducible first | replace HW := FoW.below HW hk | replace HW := FoW.below HW.drew hk | (have KN := (Blk.new4 wr.drew (.int .i64 0) (.int .i64 0) (.int .i64 0) (.string ⟨#[]⟩) 65).below hk; replace HW := FoW.below (HW.drew.alloc _) hk; obtain ⟨_, n0, n1, n2, n3, m0, m1, m2, m3⟩ := KN.four) | (have KN := (Blk.new4 wr (.int .i64 0) (.int .i64 0) (.int .i64 0) (.string ⟨#[]⟩) 65).below hk; replace HW := FoW.below (HW.alloc _) hk; obtain ⟨_, n0, n1, n2, n3, m0, m1, m2, m3⟩ := KN.four) | (have KN := (Blk.new4 wr (.int .i64 0) (.int .i64 0) (.int .i64 0) (.string ⟨#[]⟩) 65).drew.below hk; replace HW := FoW.below (HW.alloc _).drew hk; obtain ⟨_, n0, n1, n2, n3, m0, m1, m2, m3⟩ := KN.four)); clear hk))
          all_goals
            go_wp2_with fail
            go_meet
            refine ⟨_, rfl, rfl, ?_⟩
            with_reducible first
              | exact ⟨HW.alloc _, Nat.ne_of_gt HW.k1.lt, Blk.new4 _ _ _ _ _ _⟩
              | exact ⟨HW.far (Nat.ne_of_gt qlt) wle _ _ _ _, Nat.ne_of_gt qlt, KN.self4 _ _ _ _⟩
        case rest =>
          clear HW qlt wle TC
          obtain ⟨r, rfl, rfl, HW, ne, KR⟩ := hcut
          obtain ⟨_, q0, q1, q2, q3, _⟩ := KR.four
          obtain ⟨_, b0, b1, b2, b3, e0, e1, e2, e3⟩ := HW.k1.four
          have z9 := HW.at_ hg x9
          clear x0 x1 x2 x3 x4 x5 x6 x7 x8 x9 x10
          go_wp2
          go_roundw
          case rel => exact ⟨k + 1, b, by omega, rfl, int_eqS (by omega), N2.out, HQ.out ▸ HW⟩
          case measure => simp only [intOf]; omega
    · obtain rfl : k = n := by omega
      have E := Lib.hid (show s = bl from by have h := HR.out; rw [← LN.out, List.drop_length] at h; rw [HS.out, h]; show (b.getD Tn.zero).letter = bl; rw [← HQ.out])
      clear HR HS
      obtain ⟨_, b0, b1, b2, b3, e0, e1, e2, e3⟩ := HW.k1.four
      have hbel := HW.hb
      go_wp2_with fail
      go_quiet (fail)
      rename_i nq
      go_wp2
      exact bodyPost_ret (v := .tuple #[.int .i64 0, .string bl]) (by simp [results, Tryz.results33, go_sem]) rfl ⟨by rw [E.out], below_drewN hbel _⟩
theorem forceDR {L : List Rl} (hL : fitL L) (off T : Int) (o1 : -86400 < off) (o2 : off < 86400) (A : Option Addr) (n c : Nat) (w : World) (hm : RulV w A n c L) : Calls Tryz.prog 33 #[.slice A n c, .int .i64 off, .int .i64 T] w (RetIS w (forceR L off T)) := by
  have LA := fun W (h : Below w.heap.size w W) => lastDR hL off T o1 o2 A n c W (hm.below h)
  unfold RetTB at LA
  unfold forceR
  cases h : lastO L off T with
  | some t =>
    rw [h] at LA
    exact fo_yes A n c off T t.at_ t.re t.save t.letter w (Lib.hid LA)
  | none =>
    rw [h] at LA
    exact fo_no A n c off T w hm _ (by cases firstGo L none <;> rfl) (Lib.hid LA)
end Go.Proofs.YtallclimljiplaaGreatDoor
