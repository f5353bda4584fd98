import Derived.Test.YtmhpnmlgfdomkaaGreatDoorZGea
import Derived.Test.YtmhpnmlgfdomkaaGreatDoorZMem
import Derived.Deep.RegionHeld3
import Derived.Test.YtmhpnmlgfdomkaaGreatDoorZGc
import Derived.BigQuiet
import Derived.Lib.SlicesS
import Derived.Laws.AppendOwnNone
set_option maxRecDepth 100000
set_option maxHeartbeats 64000000
namespace Go.Proofs.YtmhpnmlgfdomkaaGreatDoor
open Go.RowKit
def turnO (x : Rl) (y : Int) : Option Tn := if turnIn x y then some (turnT x y) else none
theorem td_a (nm le : ByteArray) (fr last mo ki wd da ti re save y : Int) (h1 : decide (y < fr) = true) (w : World) :
    Calls Tryz.prog 96 #[.agg #[.string nm, .int .i64 fr, .int .i64 last, .int .i64 mo, .int .i64 ki, .int .i64 wd, .int .i64 da, .int .i64 ti, .int .i64 re, .int .i64 save, .string le], .int .i64 y] w fun e w' => e = .returned (.tuple #[.agg #[.int .i64 0, .int .i64 0, .int .i64 0, .string ⟨#[]⟩], .bool false]) ∧ Below w.heap.size w w' := by
  go_enter Tryz.func96, Tryz.ntmps96
  go_upto_region 1 with (fail)
  have k1 := below_box w (.cells #[.string nm, .int .i64 fr, .int .i64 last, .int .i64 mo, .int .i64 ki, .int .i64 wd, .int .i64 da, .int .i64 ti, .int .i64 re, .int .i64 save, .string le] 36)
  have kb := blk_lit w 36 [.string nm, .int .i64 fr, .int .i64 last, .int .i64 mo, .int .i64 ki, .int .i64 wd, .int .i64 da, .int .i64 ti, .int .i64 re, .int .i64 save, .string le]
  have k2 := below_box (w.alloc (.cells #[.string nm, .int .i64 fr, .int .i64 last, .int .i64 mo, .int .i64 ki, .int .i64 wd, .int .i64 da, .int .i64 ti, .int .i64 re, .int .i64 save, .string le] 36)) (.cells #[.int .i64 0, .int .i64 0, .int .i64 0, .string ⟨#[]⟩] 95)
  have kr := Blk.new4 (w.alloc (.cells #[.string nm, .int .i64 fr, .int .i64 last, .int .i64 mo, .int .i64 ki, .int .i64 wd, .int .i64 da, .int .i64 ti, .int .i64 re, .int .i64 save, .string le] 36)) (.int .i64 0) (.int .i64 0) (.int .i64 0) (.string ⟨#[]⟩) 95
  simp only [World.size_alloc] at kr
  have KB := kb.below k2
  have hb := below_thru k1 k2
  generalize ((w.alloc (.cells #[.string nm, .int .i64 fr, .int .i64 last, .int .i64 mo, .int .i64 ki, .int .i64 wd, .int .i64 da, .int .i64 ti, .int .i64 re, .int .i64 save, .string le] 36)).alloc (.cells #[.int .i64 0, .int .i64 0, .int .i64 0, .string ⟨#[]⟩] 95)) = W at *
  clear k1 k2 kb
  obtain ⟨x0, x1, x2, x3, x4, x5, x6, x7, x8, x9, x10⟩ := KB.elevenC
  obtain ⟨_, r0, r1, r2, r3, f0, f1, f2, f3⟩ := kr.four
  have i5 : w.heap.size + 1 ≠ w.heap.size := by omega
  have i6 := Ne.symm i5
  go_wp2
  obtain ⟨_, P0, P1, P2, P3, _⟩ := (kr.self4 (.int .i64 0) (.int .i64 0) (.int .i64 0) (.string ⟨#[]⟩)).four
  have HB := (((hb.setCell (p := ⟨w.heap.size + 1, 0, none⟩) (by show _ ≤ w.heap.size + 1; omega) (.int .i64 0)).setCell (p := ⟨w.heap.size + 1, 1, none⟩) (by show _ ≤ w.heap.size + 1; omega) (.int .i64 0)).setCell (p := ⟨w.heap.size + 1, 2, none⟩) (by show _ ≤ w.heap.size + 1; omega) (.int .i64 0)).setCell (p := ⟨w.heap.size + 1, 3, none⟩) (by show _ ≤ w.heap.size + 1; omega) (.string ⟨#[]⟩)
  exact bodyPost_ret (v := .tuple #[.agg #[.int .i64 0, .int .i64 0, .int .i64 0, .string ⟨#[]⟩], .bool false]) (by simp [results, Tryz.results96, go_sem, P0, P1, P2, P3]) rfl ⟨rfl, HB⟩
theorem td_b (nm le : ByteArray) (fr last mo ki wd da ti re save y : Int) (h1 : decide (y < fr) = false) (h2 : decide (last < y) = true) (w : World) :
    Calls Tryz.prog 96 #[.agg #[.string nm, .int .i64 fr, .int .i64 last, .int .i64 mo, .int .i64 ki, .int .i64 wd, .int .i64 da, .int .i64 ti, .int .i64 re, .int .i64 save, .string le], .int .i64 y] w fun e w' => e = .returned (.tuple #[.agg #[.int .i64 0, .int .i64 0, .int .i64 0, .string ⟨#[]⟩], .bool false]) ∧ Below w.heap.size w w' := by
  go_enter Tryz.func96, Tryz.ntmps96
  go_upto_region 1 with (fail)
  have k1 := below_box w (.cells #[.string nm, .int .i64 fr, .int .i64 last, .int .i64 mo, .int .i64 ki, .int .i64 wd, .int .i64 da, .int .i64 ti, .int .i64 re, .int .i64 save, .string le] 36)
  have kb := blk_lit w 36 [.string nm, .int .i64 fr, .int .i64 last, .int .i64 mo, .int .i64 ki, .int .i64 wd, .int .i64 da, .int .i64 ti, .int .i64 re, .int .i64 save, .string le]
  have k2 := below_box (w.alloc (.cells #[.string nm, .int .i64 fr, .int .i64 last, .int .i64 mo, .int .i64 ki, .int .i64 wd, .int .i64 da, .int .i64 ti, .int .i64 re, .int .i64 save, .string le] 36)) (.cells #[.int .i64 0, .int .i64 0, .int .i64 0, .string ⟨#[]⟩] 95)
  have kr := Blk.new4 (w.alloc (.cells #[.string nm, .int .i64 fr, .int .i64 last, .int .i64 mo, .int .i64 ki, .int .i64 wd, .int .i64 da, .int .i64 ti, .int .i64 re, .int .i64 save, .string le] 36)) (.int .i64 0) (.int .i64 0) (.int .i64 0) (.string ⟨#[]⟩) 95
  simp only [World.size_alloc] at kr
  have KB := kb.below k2
  have hb := below_thru k1 k2
  generalize ((w.alloc (.cells #[.string nm, .int .i64 fr, .int .i64 last, .int .i64 mo, .int .i64 ki, .int .i64 wd, .int .i64 da, .int .i64 ti, .int .i64 re, .int .i64 save, .string le] 36)).alloc (.cells #[.int .i64 0, .int .i64 0, .int .i64 0, .string ⟨#[]⟩] 95)) = W at *
  clear k1 k2 kb
  obtain ⟨x0, x1, x2, x3, x4, x5, x6, x7, x8, x9, x10⟩ := KB.elevenC
  obtain ⟨_, r0, r1, r2, r3, f0, f1, f2, f3⟩ := kr.four
  have i5 : w.heap.size + 1 ≠ w.heap.size := by omega
  have i6 := Ne.symm i5
  go_wp2
  obtain ⟨_, P0, P1, P2, P3, _⟩ := (kr.self4 (.int .i64 0) (.int .i64 0) (.int .i64 0) (.string ⟨#[]⟩)).four
  have HB := (((hb.setCell (p := ⟨w.heap.size + 1, 0, none⟩) (by show _ ≤ w.heap.size + 1; omega) (.int .i64 0)).setCell (p := ⟨w.heap.size + 1, 1, none⟩) (by show _ ≤ w.heap.size + 1; omega) (.int .i64 0)).setCell (p := ⟨w.heap.size + 1, 2, none⟩) (by show _ ≤ w.heap.size + 1; omega) (.int .i64 0)).setCell (p := ⟨w.heap.size + 1, 3, none⟩) (by show _ ≤ w.heap.size + 1; omega) (.string ⟨#[]⟩)
  exact bodyPost_ret (v := .tuple #[.agg #[.int .i64 0, .int .i64 0, .int .i64 0, .string ⟨#[]⟩], .bool false]) (by simp [results, Tryz.results96, go_sem, P0, P1, P2, P3]) rfl ⟨rfl, HB⟩
theorem td_c (nm le : ByteArray) (fr last mo ki wd da ti re save y : Int) (h1 : decide (y < fr) = false) (h2 : decide (last < y) = false) (a : Int) (LO : Hid (∀ W, Calls Tryz.prog 67 #[.agg #[.int .i64 mo, .int .i64 ki, .int .i64 wd, .int .i64 da, .int .i64 ti, .int .i64 re], .int .i64 y] W (RetNumB W a false))) (w : World) :
    Calls Tryz.prog 96 #[.agg #[.string nm, .int .i64 fr, .int .i64 last, .int .i64 mo, .int .i64 ki, .int .i64 wd, .int .i64 da, .int .i64 ti, .int .i64 re, .int .i64 save, .string le], .int .i64 y] w fun e w' => e = .returned (.tuple #[.agg #[.int .i64 0, .int .i64 0, .int .i64 0, .string ⟨#[]⟩], .bool false]) ∧ Below w.heap.size w w' := by
  go_enter Tryz.func96, Tryz.ntmps96
  go_upto_region 1 with (fail)
  have k1 := below_box w (.cells #[.string nm, .int .i64 fr, .int .i64 last, .int .i64 mo, .int .i64 ki, .int .i64 wd, .int .i64 da, .int .i64 ti, .int .i64 re, .int .i64 save, .string le] 36)
  have kb := blk_lit w 36 [.string nm, .int .i64 fr, .int .i64 last, .int .i64 mo, .int .i64 ki, .int .i64 wd, .int .i64 da, .int .i64 ti, .int .i64 re, .int .i64 save, .string le]
  have k2 := below_box (w.alloc (.cells #[.string nm, .int .i64 fr, .int .i64 last, .int .i64 mo, .int .i64 ki, .int .i64 wd, .int .i64 da, .int .i64 ti, .int .i64 re, .int .i64 save, .string le] 36)) (.cells #[.int .i64 0, .int .i64 0, .int .i64 0, .string ⟨#[]⟩] 95)
  have kr := Blk.new4 (w.alloc (.cells #[.string nm, .int .i64 fr, .int .i64 last, .int .i64 mo, .int .i64 ki, .int .i64 wd, .int .i64 da, .int .i64 ti, .int .i64 re, .int .i64 save, .string le] 36)) (.int .i64 0) (.int .i64 0) (.int .i64 0) (.string ⟨#[]⟩) 95
  simp only [World.size_alloc] at kr
  have KB := kb.below k2
  have hb := below_thru k1 k2
  generalize ((w.alloc (.cells #[.string nm, .int .i64 fr, .int .i64 last, .int .i64 mo, .int .i64 ki, .int .i64 wd, .int .i64 da, .int .i64 ti, .int .i64 re, .int .i64 save, .string le] 36)).alloc (.cells #[.int .i64 0, .int .i64 0, .int .i64 0, .string ⟨#[]⟩] 95)) = W at *
  clear k1 k2 kb
  obtain ⟨x0, x1, x2, x3, x4, x5, x6, x7, x8, x9, x10⟩ := KB.elevenC
  obtain ⟨_, r0, r1, r2, r3, f0, f1, f2, f3⟩ := kr.four
  have i5 : w.heap.size + 1 ≠ w.heap.size := by omega
  have i6 := Ne.symm i5
  go_wp2_with (go_at_call 67; refine (LO.out _).mono ?_; clear LO; rintro e W9 ⟨rfl, hk⟩; replace KB := KB.below hk; replace kr := kr.below hk; replace hb := below_thru hb hk; clear hk x0 x1 x2 x3 x4 x5 x6 x7 x8 x9 x10 r0 r1 r2 r3 f0 f1 f2 f3; obtain ⟨x0, x1, x2, x3, x4, x5, x6, x7, x8, x9, x10⟩ := KB.elevenC; obtain ⟨_, r0, r1, r2, r3, f0, f1, f2, f3⟩ := kr.four)
  go_wp2
  obtain ⟨_, P0, P1, P2, P3, _⟩ := (kr.self4 (.int .i64 0) (.int .i64 0) (.int .i64 0) (.string ⟨#[]⟩)).four
  have HB := (((hb.setCell (p := ⟨w.heap.size + 1, 0, none⟩) (by show _ ≤ w.heap.size + 1; omega) (.int .i64 0)).setCell (p := ⟨w.heap.size + 1, 1, none⟩) (by show _ ≤ w.heap.size + 1; omega) (.int .i64 0)).setCell (p := ⟨w.heap.size + 1, 2, none⟩) (by show _ ≤ w.heap.size + 1; omega) (.int .i64 0)).setCell (p := ⟨w.heap.size + 1, 3, none⟩) (by show _ ≤ w.heap.size + 1; omega) (.string ⟨#[]⟩)
  exact bodyPost_ret (v := .tuple #[.agg #[.int .i64 0, .int .i64 0, .int .i64 0, .string ⟨#[]⟩], .bool false]) (by simp [results, Tryz.results96, go_sem, P0, P1, P2, P3]) rfl ⟨rfl, HB⟩
theorem td_d (nm le : ByteArray) (fr last mo ki wd da ti re save y : Int) (h1 : decide (y < fr) = false) (h2 : decide (last < y) = false) (a : Int) (LO : Hid (∀ W, Calls Tryz.prog 67 #[.agg #[.int .i64 mo, .int .i64 ki, .int .i64 wd, .int .i64 da, .int .i64 ti, .int .i64 re], .int .i64 y] W (RetNumB W a true))) (w : World) :
    Calls Tryz.prog 96 #[.agg #[.string nm, .int .i64 fr, .int .i64 last, .int .i64 mo, .int .i64 ki, .int .i64 wd, .int .i64 da, .int .i64 ti, .int .i64 re, .int .i64 save, .string le], .int .i64 y] w fun e w' => e = .returned (.tuple #[.agg #[.int .i64 a, .int .i64 re, .int .i64 save, .string le], .bool true]) ∧ Below w.heap.size w w' := by
  go_enter Tryz.func96, Tryz.ntmps96
  go_upto_region 1 with (fail)
  have k1 := below_box w (.cells #[.string nm, .int .i64 fr, .int .i64 last, .int .i64 mo, .int .i64 ki, .int .i64 wd, .int .i64 da, .int .i64 ti, .int .i64 re, .int .i64 save, .string le] 36)
  have kb := blk_lit w 36 [.string nm, .int .i64 fr, .int .i64 last, .int .i64 mo, .int .i64 ki, .int .i64 wd, .int .i64 da, .int .i64 ti, .int .i64 re, .int .i64 save, .string le]
  have k2 := below_box (w.alloc (.cells #[.string nm, .int .i64 fr, .int .i64 last, .int .i64 mo, .int .i64 ki, .int .i64 wd, .int .i64 da, .int .i64 ti, .int .i64 re, .int .i64 save, .string le] 36)) (.cells #[.int .i64 0, .int .i64 0, .int .i64 0, .string ⟨#[]⟩] 95)
  have kr := Blk.new4 (w.alloc (.cells #[.string nm, .int .i64 fr, .int .i64 last, .int .i64 mo, .int .i64 ki, .int .i64 wd, .int .i64 da, .int .i64 ti, .int .i64 re, .int .i64 save, .string le] 36)) (.int .i64 0) (.int .i64 0) (.int .i64 0) (.string ⟨#[]⟩) 95
  simp only [World.size_alloc] at kr
  have KB := kb.below k2
  have hb := below_thru k1 k2
  generalize ((w.alloc (.cells #[.string nm, .int .i64 fr, .int .i64 last, .int .i64 mo, .int .i64 ki, .int .i64 wd, .int .i64 da, .int .i64 ti, .int .i64 re, .int .i64 save, .string le] 36)).alloc (.cells #[.int .i64 0, .int .i64 0, .int .i64 0, .string ⟨#[]⟩] 95)) = W at *
  clear k1 k2 kb
  obtain ⟨x0, x1, x2, x3, x4, x5, x6, x7, x8, x9, x10⟩ := KB.elevenC
  obtain ⟨_, r0, r1, r2, r3, f0, f1, f2, f3⟩ := kr.four
  have i5 : w.heap.size + 1 ≠ w.heap.size := by omega
  have i6 := Ne.symm i5
  go_wp2_with (go_at_call 67; refine (LO.out _).mono ?_; clear LO; rintro e W9 ⟨rfl, hk⟩; replace KB := KB.below hk; replace kr := kr.below hk; replace hb := below_thru hb hk; clear hk x0 x1 x2 x3 x4 x5 x6 x7 x8 x9 x10 r0 r1 r2 r3 f0 f1 f2 f3; obtain ⟨x0, x1, x2, x3, x4, x5, x6, x7, x8, x9, x10⟩ := KB.elevenC; obtain ⟨_, r0, r1, r2, r3, f0, f1, f2, f3⟩ := kr.four)
  go_wp2
  obtain ⟨_, P0, P1, P2, P3, _⟩ := (kr.self4 (.int .i64 a) (.int .i64 re) (.int .i64 save) (.string le)).four
  have HB := (((hb.setCell (p := ⟨w.heap.size + 1, 0, none⟩) (by show _ ≤ w.heap.size + 1; omega) (.int .i64 a)).setCell (p := ⟨w.heap.size + 1, 1, none⟩) (by show _ ≤ w.heap.size + 1; omega) (.int .i64 re)).setCell (p := ⟨w.heap.size + 1, 2, none⟩) (by show _ ≤ w.heap.size + 1; omega) (.int .i64 save)).setCell (p := ⟨w.heap.size + 1, 3, none⟩) (by show _ ≤ w.heap.size + 1; omega) (.string le)
  exact bodyPost_ret (v := .tuple #[.agg #[.int .i64 a, .int .i64 re, .int .i64 save, .string le], .bool true]) (by simp [results, Tryz.results96, go_sem, P0, P1, P2, P3]) rfl ⟨rfl, HB⟩
theorem turnO_none {x : Rl} {y : Int} (h : ¬ turnIn x y) : turnO x y = none := if_neg h
theorem turnO_some {x : Rl} {y : Int} (h : turnIn x y) : turnO x y = some (turnT x y) := if_pos h
theorem turnDR (x : Rl) (y : Int) (w : World) : Calls Tryz.prog 96 #[x.val, .int .i64 y] w (RetTB w (turnO x y)) := by
  have lo := fun W => localR x.sp y W
  obtain ⟨nm, fr, last, ⟨mo, ki, wd, da, ti, re⟩, save, le⟩ := x
  by_cases h1 : y < fr
  · rw [turnO_none (fun c => by have := c.1.1; simp only at this; omega)]
    exact td_a _ _ _ _ _ _ _ _ _ _ _ _ (decide_eq_true h1) w
  by_cases h2 : last < y
  · rw [turnO_none (fun c => by have := c.1.2; simp only at this; omega)]
    exact td_b _ _ _ _ _ _ _ _ _ _ _ _ (decide_eq_false h1) (decide_eq_true h2) w
  by_cases h3 : onOk ⟨mo, ki, wd, da, ti, re⟩ y
  · rw [turnO_some ⟨⟨Int.not_lt.mp h1, Int.not_lt.mp h2⟩, h3⟩]
    rw [decide_eq_true h3] at lo
    exact td_d _ _ _ _ _ _ _ _ _ _ _ _ (decide_eq_false h1) (decide_eq_false h2) _ (Lib.hid lo) w
  · rw [turnO_none (fun c => h3 c.2)]
    rw [decide_eq_false h3] at lo
    exact td_c _ _ _ _ _ _ _ _ _ _ _ _ (decide_eq_false h1) (decide_eq_false h2) _ (Lib.hid lo) w
theorem lesserDR (a b : Int) (w : World) : Calls Tryz.prog 98 #[.int .i64 a, .int .i64 b] w (fun e w1 => e = .returned (.int .i64 (min a b)) ∧ w = w1) := by
  by_cases h : a < b
  · have d : decide (a < b) = true := decide_eq_true h
    have E := Lib.hid (show min a b = a by omega)
    go_enter Tryz.func98, Tryz.ntmps98
    go_wp2
    go_ret
    exact ⟨by rw [E.out]; rfl, rfl⟩
  · have d : decide (a < b) = false := decide_eq_false h
    have E := Lib.hid (show min a b = b by omega)
    go_enter Tryz.func98, Tryz.ntmps98
    go_wp2
    go_ret
    exact ⟨by rw [E.out]; rfl, rfl⟩
theorem tdiv_neg_day {T : Int} (h : T < 0) : T.tdiv 86400 = -((-T) / 86400) ∧ T.tmod 86400 = -((-T) % 86400) := by
  have a := Int.neg_tdiv (a := -T) (b := 86400)
  have b := Int.neg_tmod (-T) 86400
  rw [Int.neg_neg] at a b
  rw [Int.tdiv_eq_ediv_of_nonneg (show 0 ≤ -T by omega)] at a
  rw [Int.tmod_eq_emod_of_nonneg (show 0 ≤ -T by omega)] at b
  exact ⟨a, b⟩
theorem yrD_a (T : Int) (h : T < -9000000000000) (w : World) : Calls Tryz.prog 99 #[.int .i64 T] w (RetN w (-271821)) := by
  go_enter Tryz.func99, Tryz.ntmps99
  go_wp2
  go_ret
  exact ⟨rfl, Below.refl _ _⟩
theorem yrD_b (T : Int) (h1 : ¬ T < -9000000000000) (h2 : 8640000000000 < T) (w : World) : Calls Tryz.prog 99 #[.int .i64 T] w (RetN w (275760)) := by
  go_enter Tryz.func99, Tryz.ntmps99
  go_wp2
  go_ret
  exact ⟨rfl, Below.refl _ _⟩
theorem yrD_c (T : Int) (h1 : 0 ≤ T) (h2 : T ≤ 8640000000000) (y m d : Int) (OFR : Hid (∀ W, Calls Tryz.prog 122 #[.int .i64 (T / 86400)] W (RetDateB W y m d true))) (w : World) : Calls Tryz.prog 99 #[.int .i64 T] w (RetN w (y)) := by
  go_enter Tryz.func99, Tryz.ntmps99
  go_wp2_with (go_at_call 122; refine (OFR.out _).mono ?_; clear OFR; rintro e W9 ⟨rfl, hk⟩)
  go_ret
  exact ⟨rfl, below_thru hk (below_box _ _)⟩
theorem yrD_d (T : Int) (h1 : -9000000000000 ≤ T) (h2 : T < 0) (q1 : -104166667 ≤ T.tdiv 86400) (q2 : T.tdiv 86400 ≤ 0) (r2 : T.tmod 86400 < 0) (q3 : -100000001 ≤ T.tdiv 86400 - 1) (y m d : Int) (OFR : Hid (∀ W, Calls Tryz.prog 122 #[.int .i64 (T.tdiv 86400 - 1)] W (RetDateB W y m d true))) (w : World) : Calls Tryz.prog 99 #[.int .i64 T] w (RetN w (y)) := by
  go_enter Tryz.func99, Tryz.ntmps99
  go_wp2_with (go_at_call 122; refine (OFR.out _).mono ?_; clear OFR; rintro e W9 ⟨rfl, hk⟩)
  go_ret
  exact ⟨rfl, below_thru hk (below_box _ _)⟩
theorem yrD_e (T : Int) (h1 : -9000000000000 ≤ T) (h2 : T < 0) (q1 : -104166667 ≤ T.tdiv 86400) (q2 : T.tdiv 86400 ≤ 0) (r2 : ¬ T.tmod 86400 < 0) (q3 : -100000001 ≤ T.tdiv 86400) (y m d : Int) (OFR : Hid (∀ W, Calls Tryz.prog 122 #[.int .i64 (T.tdiv 86400)] W (RetDateB W y m d true))) (w : World) : Calls Tryz.prog 99 #[.int .i64 T] w (RetN w (y)) := by
  go_enter Tryz.func99, Tryz.ntmps99
  go_wp2_with (go_at_call 122; refine (OFR.out _).mono ?_; clear OFR; rintro e W9 ⟨rfl, hk⟩)
  go_ret
  exact ⟨rfl, below_thru hk (below_box _ _)⟩
theorem yrD_f (T : Int) (h1 : -9000000000000 ≤ T) (h2 : T < 0) (q1 : -104166667 ≤ T.tdiv 86400) (q2 : T.tdiv 86400 ≤ 0) (r2 : T.tmod 86400 < 0) (q3 : T.tdiv 86400 - 1 < -100000001) (w : World) : Calls Tryz.prog 99 #[.int .i64 T] w (RetN w (-271821)) := by
  go_enter Tryz.func99, Tryz.ntmps99
  go_wp2
  go_ret
  exact ⟨rfl, Below.refl _ _⟩
theorem yrD_g (T : Int) (h1 : -9000000000000 ≤ T) (h2 : T < 0) (q1 : -104166667 ≤ T.tdiv 86400) (q2 : T.tdiv 86400 ≤ 0) (r2 : ¬ T.tmod 86400 < 0) (q3 : T.tdiv 86400 < -100000001) (w : World) : Calls Tryz.prog 99 #[.int .i64 T] w (RetN w (-271821)) := by
  go_enter Tryz.func99, Tryz.ntmps99
  go_wp2
  go_ret
  exact ⟨rfl, Below.refl _ _⟩
theorem of_year (n : Int) (h1 : -100000001 ≤ n) (h2 : n ≤ 100000000) : ∃ y m d : Int, (jan y ≤ n ∧ n < jan (y + 1)) ∧ ∀ W, Calls Tryz.prog 122 #[.int .i64 n] W (RetDateB W y m d true) := by
  obtain ⟨y, m, d, k, e⟩ := day_of n
  have := num_year k
  refine ⟨y, m, d, ⟨by omega, by omega⟩, fun W => ofR_yes n y m d ⟨k, by omega, by omega⟩ e W⟩
theorem yearDR (T : Int) : ∃ Y, yearDoc T Y ∧ ∀ w, Calls Tryz.prog 99 #[.int .i64 T] w (RetN w Y) := by
  unfold yearDoc
  by_cases h1 : T < -9000000000000
  · exact ⟨-271821, by rw [if_pos h1], fun w => yrD_a T h1 w⟩
  simp only [if_neg h1]
  by_cases h2 : 8640000000000 < T
  · exact ⟨275760, by rw [if_pos h2], fun w => yrD_b T h1 h2 w⟩
  simp only [if_neg h2]
  by_cases h3 : T / 86400 < -100000001
  · simp only [if_pos h3]
    refine ⟨-271821, rfl, fun w => ?_⟩
    obtain ⟨a, b⟩ := tdiv_neg_day (T := T) (by omega)
    by_cases c : T.tmod 86400 < 0
    · exact yrD_f T (by omega) (by omega) (by omega) (by omega) c (by omega) w
    · exact yrD_g T (by omega) (by omega) (by omega) (by omega) c (by omega) w
  simp only [if_neg h3]
  obtain ⟨y, m, d, k, o⟩ := of_year (T / 86400) (by omega) (by omega)
  refine ⟨y, k, fun w => ?_⟩
  by_cases s : 0 ≤ T
  · exact yrD_c T s (by omega) y m d (Lib.hid o) w
  obtain ⟨a, b⟩ := tdiv_neg_day (T := T) (by omega)
  by_cases c : T.tmod 86400 < 0
  · exact yrD_d T (by omega) (by omega) (by omega) (by omega) c (by omega) y m d (Lib.hid (by rw [show T.tdiv 86400 - 1 = T / 86400 by omega]; exact o)) w
  · exact yrD_e T (by omega) (by omega) (by omega) (by omega) c (by omega) y m d (Lib.hid (by rw [show T.tdiv 86400 = T / 86400 by omega]; exact o)) w
theorem fit_no {L : List Rl} {k : Nat} {x : Rl} (h : L[k]? = some x) (b : ¬ x.fit) : fitB L = false := by
  rw [← Bool.not_eq_true, fit_yes]
  exact fun c => b (c x (List.mem_of_getElem? h))
theorem most_step {L : List Rl} {M : List Rl} {k : Nat} {x : Rl} (hx : L[k]? = some x) (m : Nat) : mostGo M (L.drop k) m = mostGo M (L.drop (k + 1)) (if m < atRule M x then atRule M x else m) := by
  obtain ⟨h, e⟩ := List.getElem?_eq_some_iff.1 hx
  rw [List.drop_eq_getElem_cons h, e]
  rfl
def cntK (L : List Rl) (x : Rl) (k : Nat) : Nat := if x.fr ≤ x.last then countY (L.take k) x.fr else 0
theorem cnt_zero (L : List Rl) (x : Rl) : cntK L x 0 = 0 := by unfold cntK countY; split <;> simp
theorem cnt_all (L : List Rl) (x : Rl) : cntK L x L.length = atRule L x := by unfold cntK atRule; rw [List.take_length]
theorem cnt_up {L : List Rl} {x z : Rl} {k : Nat} (hz : L[k]? = some z) (h1 : z.fr ≤ x.fr) (h2 : x.fr ≤ z.last) (h3 : x.fr ≤ x.last) : cntK L x (k + 1) = cntK L x k + 1 := by
  unfold cntK countY
  rw [if_pos h3, if_pos h3, List.take_add_one, hz, List.countP_append]
  simp [h1, h2]
theorem cnt_same {L : List Rl} {x z : Rl} {k : Nat} (hz : L[k]? = some z) (h : ¬ ((z.fr ≤ x.fr ∧ x.fr ≤ z.last) ∧ x.fr ≤ x.last)) : cntK L x (k + 1) = cntK L x k := by
  unfold cntK countY
  by_cases h3 : x.fr ≤ x.last
  · rw [if_pos h3, if_pos h3, List.take_add_one, hz, List.countP_append]
    have : ¬ (z.fr ≤ x.fr ∧ x.fr ≤ z.last) := fun c => h ⟨c, h3⟩
    simp [this]
  · rw [if_neg h3, if_neg h3]
theorem cnt_le (L : List Rl) (x : Rl) (k : Nat) : cntK L x k ≤ k := by
  unfold cntK countY
  split
  · exact Nat.le_trans List.countP_le_length (by rw [List.length_take]; omega)
  · omega
theorem mostDR (L : List Rl) (A : Option Addr) (n c : Nat) (w : World) (hm : RulV w A n c L) : Calls Tryz.prog 38 #[.slice A n c] w (RetN w (mostN L)) := by
  have mx : n ≤ 9223372036854775807 := Nat.le_trans hm.cap hm.max
  have mn : n ≤ maxLen := Nat.le_trans hm.cap hm.max
  have LN := Lib.hid (show L.length = n by have := hm.len; simpa using this)
  have HA := Lib.hid hm
  clear hm
  unfold maxLen at mn
  go_enter Tryz.func38, Tryz.ntmps38
  go_wp2_with fail
  go_loopw [3, 4] (fun v3 v4 wr => ∃ i m : Nat, i ≤ n ∧ m ≤ n ∧ v3 = .int .i64 m ∧ v4 = .int .i64 i ∧ mostN L = mostGo L (L.drop i) m ∧ Below w.heap.size w wr) (fun _ v _ => n - (intOf v).toNat)
  case atStart => exact ⟨0, 0, by omega, by omega, rfl, rfl, rfl, Below.refl _ _⟩
  case round =>
    obtain ⟨i, m, hi, hm, rfl, rfl, hR, hbel⟩ := hrel
    have HR := Lib.hid hR
    clear hR
    by_cases h4 : i < n
    · obtain ⟨x, hxx⟩ : ∃ x, L[i]? = some x := ⟨_, List.getElem?_eq_getElem (by rw [LN.out]; exact h4)⟩
      obtain ⟨g, o, ea0, hg, ca⟩ := HA.out.cells (by omega)
      subst ea0
      have ra := row_at ca (show (L.map Rl.vals)[i]? = some (Rl.vals x) by rw [List.getElem?_map, hxx]; rfl)
      have x1 : w.cell? ⟨g, o + i * 11 + 1, none⟩ = some (.int .i64 x.fr) := ra 1 _ rfl
      have x2 : w.cell? ⟨g, o + i * 11 + 2, none⟩ = some (.int .i64 x.last) := ra 2 _ rfl
      clear ra
      have HN := Lib.hid (HR.out.trans (most_step hxx m))
      clear HR hxx
      go_wp2_with fail
      go_loopw [5, 6] (fun v5 v6 wr => ∃ k : Nat, k ≤ n ∧ v5 = .int .i64 (cntK L x k) ∧ v6 = .int .i64 k ∧ Below w.heap.size w wr) (fun _ v _ => n - (intOf v).toNat)
      case atStart => exact ⟨0, by omega, by rw [cnt_zero]; rfl, rfl, hbel⟩
      case round =>
        clear hbel
        obtain ⟨k, hk, rfl, rfl, hb⟩ := hrel
        have cle := cnt_le L x k
        by_cases h5 : k < n
        · obtain ⟨z, hz⟩ : ∃ z, L[k]? = some z := ⟨_, List.getElem?_eq_getElem (by rw [LN.out]; exact h5)⟩
          have ra := row_at ca (show (L.map Rl.vals)[k]? = some (Rl.vals z) by rw [List.getElem?_map, hz]; rfl)
          have y1 : wr.cell? ⟨g, o + k * 11 + 1, none⟩ = some (.int .i64 z.fr) := (hb.cell (p := ⟨g, o + k * 11 + 1, none⟩) hg).trans (ra 1 _ rfl)
          have y2 : wr.cell? ⟨g, o + k * 11 + 2, none⟩ = some (.int .i64 z.last) := (hb.cell (p := ⟨g, o + k * 11 + 2, none⟩) hg).trans (ra 2 _ rfl)
          have z1 : wr.cell? ⟨g, o + i * 11 + 1, none⟩ = some (.int .i64 x.fr) := (hb.cell (p := ⟨g, o + i * 11 + 1, none⟩) hg).trans x1
          have z2 : wr.cell? ⟨g, o + i * 11 + 2, none⟩ = some (.int .i64 x.last) := (hb.cell (p := ⟨g, o + i * 11 + 2, none⟩) hg).trans x2
          clear ra
          have b0 : (0 : Int) ≤ (k : Int) := by omega
          have b1 : (k : Int) < (n : Int) := by omega
          have b2 : (0 : Int) ≤ (i : Int) := by omega
          have b3 : (i : Int) < (n : Int) := by omega
          by_cases c1 : z.fr ≤ x.fr
          · have d1 : decide (z.fr ≤ x.fr) = true := decide_eq_true c1
            by_cases c2 : x.fr ≤ z.last
            · have d2 : decide (x.fr ≤ z.last) = true := decide_eq_true c2
              by_cases c3 : x.fr ≤ x.last
              · have d3 : decide (x.fr ≤ x.last) = true := decide_eq_true c3
                have ST := Lib.hid (show cntK L x (k + 1) = cntK L x k + 1 from cnt_up hz c1 c2 c3)
                generalize cntK L x k = c0 at *
                go_wp2_with fail
                go_quiet (fail)
                rename_i nq
                go_wp2
                go_roundw
                case rel => exact ⟨k + 1, by omega, by rw [ST.out]; exact int_eqS (by omega), int_eqS (by omega), below_drewN hb _⟩
                case measure => simp only [intOf]; omega
              · have d3 : decide (x.fr ≤ x.last) = false := decide_eq_false c3
                have ST := Lib.hid (show cntK L x (k + 1) = cntK L x k from cnt_same hz (fun c => c3 c.2))
                generalize cntK L x k = c0 at *
                go_wp2_with fail
                go_quiet (fail)
                rename_i nq
                go_wp2
                go_roundw
                case rel => exact ⟨k + 1, by omega, by rw [ST.out], int_eqS (by omega), below_drewN hb _⟩
                case measure => simp only [intOf]; omega
            · have d2 : decide (x.fr ≤ z.last) = false := decide_eq_false c2
              have ST := Lib.hid (show cntK L x (k + 1) = cntK L x k from cnt_same hz (fun c => c2 c.1.2))
              generalize cntK L x k = c0 at *
              go_wp2_with fail
              go_quiet (fail)
              rename_i nq
              go_wp2
              go_roundw
              case rel => exact ⟨k + 1, by omega, by rw [ST.out], int_eqS (by omega), below_drewN hb _⟩
              case measure => simp only [intOf]; omega
          · have d1 : decide (z.fr ≤ x.fr) = false := decide_eq_false c1
            have ST := Lib.hid (show cntK L x (k + 1) = cntK L x k from cnt_same hz (fun c => c1 c.1.1))
            generalize cntK L x k = c0 at *
            go_wp2_with fail
            go_quiet (fail)
            rename_i nq
            go_wp2
            go_roundw
            case rel => exact ⟨k + 1, by omega, by rw [ST.out], int_eqS (by omega), below_drewN hb _⟩
            case measure => simp only [intOf]; omega
        · obtain rfl : k = n := by omega
          have HK := Lib.hid (show cntK L x k = atRule L x by rw [← LN.out]; exact cnt_all L x)
          rw [HK.out] at cle ⊢
          generalize atRule L x = a at *
          by_cases c1 : m < a
          · have d1 : decide ((m : Int) < (a : Int)) = true := decide_eq_true (by omega)
            have N2 := Lib.hid (show mostN L = mostGo L (L.drop (i + 1)) a from by have := HN.out; rw [if_pos c1] at this; exact this)
            go_wp2
            go_roundw
            case rel => exact ⟨i + 1, a, by omega, by omega, rfl, int_eqS (by omega), N2.out, hb⟩
            case measure => simp only [intOf]; omega
          · have d1 : decide ((m : Int) < (a : Int)) = false := decide_eq_false (by omega)
            have N2 := Lib.hid (show mostN L = mostGo L (L.drop (i + 1)) m from by have := HN.out; rw [if_neg c1] at this; exact this)
            go_wp2
            go_roundw
            case rel => exact ⟨i + 1, m, by omega, by omega, rfl, int_eqS (by omega), N2.out, hb⟩
            case measure => simp only [intOf]; omega
    · obtain rfl : i = n := by omega
      have Y := Lib.hid (show mostN L = m from by have h := HR.out; rw [← LN.out, List.drop_length] at h; exact h)
      go_wp2
      go_ret
      exact ⟨by rw [Y.out]; rfl, hbel⟩
theorem yearDoc_in {T Y : Int} (h : yearDoc T Y) : -271821 ≤ Y ∧ Y ≤ 275760 := by
  unfold yearDoc at h
  split at h
  · omega
  split at h
  · omega
  split at h
  · omega
  have c2 : 100000000 < jan 275761 := by decide
  constructor
  · apply Classical.byContradiction
    intro k
    have := jan_le (show Y + 1 ≤ -271821 by omega)
    have c3 : jan (-271821) < -100000001 := by decide
    omega
  · apply Classical.byContradiction
    intro k
    have := jan_le (show 275761 ≤ Y by omega)
    omega
def nextO (x : Rl) (b : Option Tn) : Option Int → Option Tn
  | none => b
  | some y => match b with
    | none => some (turnT x y)
    | some t => if t.at_ ≤ (turnT x y).at_ then some (turnT x y) else some t
theorem nextO_up {x : Rl} {b : Tn} {y : Int} (h : b.at_ ≤ (turnT x y).at_) : nextO x (some b) (some y) = some (turnT x y) := if_pos h
theorem nextO_old {x : Rl} {b : Tn} {y : Int} (h : ¬ b.at_ ≤ (turnT x y).at_) : nextO x (some b) (some y) = some b := if_neg h
theorem latest_next {L : List Rl} {P : Tn → Prop} {k : Nat} {x : Rl} (hx : L[k]? = some x) {b : Option Tn} (h : Latest (L.take k) P b) (r : Option Int) (hr : LatestOf x P r) : Latest (L.take (k + 1)) P (nextO x b r) := by
  have := h.next hx hr
  cases r <;> cases b <;> exact this
structure AhW (w : World) (b : List Value) (X : World) : Prop where
  hb : Below w.heap.size w X
  k0 : Blk X w.heap.size Tn.zero.vals
  k1 : Blk X (w.heap.size + 1) b
theorem AhW.below {w : World} {b : List Value} {X X' : World} (h : AhW w b X) (k : Below X.heap.size X X') : AhW w b X' := ⟨below_thru h.hb k, h.k0.below k, h.k1.below k⟩
theorem AhW.alloc {w : World} {b : List Value} {X : World} (h : AhW w b X) (o : Obj) : AhW w b (X.alloc o) := h.below (below_box X o)
theorem AhW.drew {w : World} {b : List Value} {X : World} (h : AhW w b X) : AhW w b X.drew := h.below (Below.refl _ _).drew
theorem AhW.at_ {w : World} {b : List Value} {X : World} (h : AhW w b X) {g q : Nat} {v : Value} (hg : g < w.heap.size) (r : w.cell? ⟨g, q, none⟩ = some v) : X.cell? ⟨g, q, none⟩ = some v := (h.hb.cell (p := ⟨g, q, none⟩) hg).trans r
theorem AhW.store {w : World} {u v x y : Value} {X : World} (h : AhW w [u, v, x, y] X) (u' v' x' y' : Value) : AhW w [u', v', x', y'] ((((X.setCell ⟨w.heap.size + 1, 0, none⟩ u').setCell ⟨w.heap.size + 1, 1, none⟩ v').setCell ⟨w.heap.size + 1, 2, none⟩ x').setCell ⟨w.heap.size + 1, 3, none⟩ y') :=
  ⟨(((h.hb.setCell (p := ⟨w.heap.size + 1, 0, none⟩) (by show _ ≤ w.heap.size + 1; omega) u').setCell (p := ⟨w.heap.size + 1, 1, none⟩) (by show _ ≤ w.heap.size + 1; omega) v').setCell (p := ⟨w.heap.size + 1, 2, none⟩) (by show _ ≤ w.heap.size + 1; omega) x').setCell (p := ⟨w.heap.size + 1, 3, none⟩) (by show _ ≤ w.heap.size + 1; omega) y',
    (((h.k0.far (by omega) 0 u').far (by omega) 1 v').far (by omega) 2 x').far (by omega) 3 y', h.k1.self4 u' v' x' y'⟩
theorem aheadDR {L : List Rl} (hL : fitL L) (at_ : Int) (A : Option Addr) (n c : Nat) (w : World) (hm : RulV w A n c L) : Calls Tryz.prog 68 #[.slice A n c, .int .i64 at_] w (RetTB w (aheadO L at_)) := by
  have mx : n ≤ 9223372036854775807 := Nat.le_trans hm.cap hm.max
  have LN := Lib.hid (show L.length = n by have := hm.len; simpa using this)
  obtain ⟨Y, hY, YR⟩ := yearDR at_
  have YO := Lib.hid (yearDoc_ok hY)
  obtain ⟨yb1, yb2⟩ := yearDoc_in hY
  have YR := Lib.hid YR
  have HA := Lib.hid hm
  have FIT := Lib.hid hL
  clear hm hL hY
  go_enter Tryz.func68, Tryz.ntmps68
  go_upto_region 2 with (fail)
  have HW : AhW w [.int .i64 0, .int .i64 0, .int .i64 0, .string ⟨#[]⟩] ((w.alloc (.cells #[.int .i64 0, .int .i64 0, .int .i64 0, .string ⟨#[]⟩] 95)).alloc (.cells #[.int .i64 0, .int .i64 0, .int .i64 0, .string ⟨#[]⟩] 95)) := by
    have k1 := below_box w (.cells #[.int .i64 0, .int .i64 0, .int .i64 0, .string ⟨#[]⟩] 95)
    have k2 := below_box (w.alloc (.cells #[.int .i64 0, .int .i64 0, .int .i64 0, .string ⟨#[]⟩] 95)) (.cells #[.int .i64 0, .int .i64 0, .int .i64 0, .string ⟨#[]⟩] 95)
    have b1 := Blk.new4 (w.alloc (.cells #[.int .i64 0, .int .i64 0, .int .i64 0, .string ⟨#[]⟩] 95)) (.int .i64 0) (.int .i64 0) (.int .i64 0) (.string ⟨#[]⟩) 95
    simp only [World.size_alloc] at b1
    exact ⟨below_thru k1 k2, (Blk.new4 w (.int .i64 0) (.int .i64 0) (.int .i64 0) (.string ⟨#[]⟩) 95).below k2, b1⟩
  generalize ((w.alloc (.cells #[.int .i64 0, .int .i64 0, .int .i64 0, .string ⟨#[]⟩] 95)).alloc (.cells #[.int .i64 0, .int .i64 0, .int .i64 0, .string ⟨#[]⟩] 95)) = W0 at *
  go_wp2_with fail
  go_loopw [7, 8] (fun v7 v8 wr => ∃ (k : Nat) (b : Option Tn), k ≤ n ∧ v7 = .bool b.isSome ∧ v8 = .int .i64 k ∧ Latest (L.take k) (fun t => t.at_ < at_) b ∧ AhW w (b.getD Tn.zero).vals wr) (fun _ v _ => n - (intOf v).toNat)
  case atStart => exact ⟨0, none, by omega, rfl, rfl, Latest.zero L _, HW⟩
  case round =>
    clear HW
    obtain ⟨k, b, hk, rfl, rfl, hR, HW⟩ := hrel
    have HR := Lib.hid hR
    clear hR
    obtain ⟨⟨ba, br, bs, bl⟩, hq⟩ : ∃ q, q = b.getD Tn.zero := ⟨_, rfl⟩
    have HQ := Lib.hid hq
    rw [← hq] at HW
    clear hq
    by_cases h4 : k < n
    · obtain ⟨x, hxx⟩ : ∃ x, L[k]? = some x := ⟨_, List.getElem?_eq_getElem (by rw [LN.out]; exact h4)⟩
      obtain ⟨g, o, ea0, hg, ca⟩ := HA.out.cells (by omega)
      subst ea0
      have ra := row_at ca (show (L.map Rl.vals)[k]? = some (Rl.vals x) by rw [List.getElem?_map, hxx]; rfl)
      have fx := FIT.out x (List.mem_of_getElem? hxx)
      have HN := Lib.hid (show ∀ r, LatestOf x (fun t => t.at_ < at_) r → Latest (L.take (k + 1)) (fun t => t.at_ < at_) (nextO x b r) from latest_next hxx HR.out)
      have TR := Lib.hid (fun y W => turnDR x y W)
      have NT := Lib.hid (noneFrom_top (x := x) YO.out (P := fun t => t.at_ < at_) (fun t h => by have : t.at_ < at_ := h; omega))
      obtain ⟨⟨f1, f2⟩, ⟨f3, f4⟩, _, _⟩ := fx
      obtain ⟨X, hX⟩ : ∃ X, X = x := ⟨_, rfl⟩
      rw [← hX] at HN TR NT
      have HX := Lib.hid hX
      clear hX
      obtain ⟨nm, fr, last, ⟨mo, ki, wd, da, ti, re⟩, save, le⟩ := x
      simp only at f1 f2 f3 f4
      have x0 : w.cell? ⟨g, o + k * 11, none⟩ = some (.string nm) := ra 0 _ rfl
      have x1 : w.cell? ⟨g, o + k * 11 + 1, none⟩ = some (.int .i64 fr) := ra 1 _ rfl
      have x2 : w.cell? ⟨g, o + k * 11 + 2, none⟩ = some (.int .i64 last) := ra 2 _ rfl
      have x3 : w.cell? ⟨g, o + k * 11 + 3, none⟩ = some (.int .i64 mo) := ra 3 _ rfl
      have x4 : w.cell? ⟨g, o + k * 11 + 4, none⟩ = some (.int .i64 ki) := ra 4 _ rfl
      have x5 : w.cell? ⟨g, o + k * 11 + 5, none⟩ = some (.int .i64 wd) := ra 5 _ rfl
      have x6 : w.cell? ⟨g, o + k * 11 + 6, none⟩ = some (.int .i64 da) := ra 6 _ rfl
      have x7 : w.cell? ⟨g, o + k * 11 + 7, none⟩ = some (.int .i64 ti) := ra 7 _ rfl
      have x8 : w.cell? ⟨g, o + k * 11 + 8, none⟩ = some (.int .i64 re) := ra 8 _ rfl
      have x9 : w.cell? ⟨g, o + k * 11 + 9, none⟩ = some (.int .i64 save) := ra 9 _ rfl
      have x10 : w.cell? ⟨g, o + k * 11 + 10, none⟩ = some (.string le) := ra 10 _ rfl
      clear ca ra hxx HR
      have z1 := HW.at_ hg x1
      have z2 := HW.at_ hg x2
      go_wp2_with fail
      go_region_held3 (fun w' => w'.cell? ⟨g, o + k * 11 + 2, none⟩ = some (.int .i64 last)) (first | (with_reducible exact AhW.at_ HW hg x2) | (with_reducible exact AhW.at_ HW.drew hg x2) | (with_reducible exact AhW.at_ (HW.alloc _) hg x2) | (with_reducible exact AhW.at_ (HW.drew.alloc _) hg x2) | (with_reducible exact AhW.at_ (HW.alloc _).drew hg x2) | go_keep)
        (first
          | (go_at_call 99; (with_reducible refine (YR.out _).mono ?_); rintro e9 W9 ⟨rfl, hk⟩
             with_reducible (first | replace HW := AhW.below HW hk | replace HW := AhW.below HW.drew hk | replace HW := AhW.below (HW.alloc _) hk | replace HW := AhW.below (HW.drew.alloc _) hk | replace HW := AhW.below (HW.alloc _).drew hk)
             clear hk)
          | (go_at_call 98; (with_reducible refine (lesserDR _ _ _).mono ?_); rintro e9 W9 ⟨rfl, rfl⟩))
      have hs : IntKind.i64.wrap (Y + 2) = Y + 2 := IntWalk.i64_in _ (by omega)
      rw [hs]
      have NT := Lib.hid (show noneFrom X (fun t => t.at_ < at_) (min last (Y + 2)) from by have := NT.out; rw [HX.out] at this ⊢; exact this)
      obtain ⟨m, hm⟩ : ∃ m, m = min last (Y + 2) := ⟨_, rfl⟩
      rw [← hm] at NT ⊢
      have m1 : -300000 ≤ m := by omega
      have m2 : m ≤ 275762 := by omega
      clear hm hs z1 z2
      go_wp2_with fail
      go_loopw [7, 9] (fun v7 v9 wr => ∃ y : Int, v7 = .bool b.isSome ∧ v9 = .int .i64 y ∧ -300000 ≤ y ∧ y ≤ 275762 ∧ noneFrom X (fun t => t.at_ < at_) y ∧ AhW w [.int .i64 ba, .int .i64 br, .int .i64 bs, .string bl] wr) (fun _ v _ => (intOf v - fr + 1).toNat)
      case atStart => exact ⟨m, rfl, rfl, m1, m2, NT.out, HW⟩
      case round =>
        clear HW NT
        obtain ⟨y, rfl, rfl, y1, y2, hN, HW⟩ := hrel
        have HN5 := Lib.hid hN
        clear hN
        by_cases h5 : fr ≤ y
        · have TC := Lib.hid (fun W => (show Calls Tryz.prog 96 #[.agg #[.string nm, .int .i64 fr, .int .i64 last, .int .i64 mo, .int .i64 ki, .int .i64 wd, .int .i64 da, .int .i64 ti, .int .i64 re, .int .i64 save, .string le], .int .i64 y] W (RetTB W (turnO X y)) from by rw [show (Value.agg #[.string nm, .int .i64 fr, .int .i64 last, .int .i64 mo, .int .i64 ki, .int .i64 wd, .int .i64 da, .int .i64 ti, .int .i64 re, .int .i64 save, .string le]) = X.val from by rw [HX.out]; rfl]; exact TR.out y W))
          by_cases h6 : turnIn X y ∧ (turnT X y).at_ < at_
          · have LO := Lib.hid (HN.out (some y) (noneFrom_hit HN5.out h6.1 h6.2))
            rw [turnO_some h6.1] at TC
            have h7 := h6.2
            clear h6 HN HN5 TR
            obtain ⟨t, ht⟩ : ∃ t, t = turnT X y := ⟨_, rfl⟩
            have HT := Lib.hid ht
            rw [← ht] at TC h7
            clear ht
            obtain ⟨ta, tr, ts, tl⟩ := t
            have d7 : decide (at_ ≤ ta) = false := decide_eq_false (by simpa using h7)
            replace TC := Lib.hid (fun W => (show Calls Tryz.prog 96 #[.agg #[.string nm, .int .i64 fr, .int .i64 last, .int .i64 mo, .int .i64 ki, .int .i64 wd, .int .i64 da, .int .i64 ti, .int .i64 re, .int .i64 save, .string le], .int .i64 y] W (fun e w' => e = .returned (.tuple #[.agg #[.int .i64 ta, .int .i64 tr, .int .i64 ts, .string tl], .bool true]) ∧ Below W.heap.size W w') from TC.out W))
            have z0 := HW.at_ hg x0
            have z1 := HW.at_ hg x1
            have z2 := HW.at_ hg x2
            have z3 := HW.at_ hg x3
            have z4 := HW.at_ hg x4
            have z5 := HW.at_ hg x5
            have z6 := HW.at_ hg x6
            have z7 := HW.at_ hg x7
            have z8 := HW.at_ hg x8
            have z9 := HW.at_ hg x9
            have z10 := HW.at_ hg x10
            go_upto_region 9 with (go_at_call 96; refine (TC.out _).mono ?_; clear TC; rintro e W9 ⟨rfl, hk⟩; replace HW := HW.below hk; clear hk z0 z1 z2 z3 z4 z5 z6 z7 z8 z9 z10)
            have KT := Blk.new4 W9 (.int .i64 ta) (.int .i64 tr) (.int .i64 ts) (.string tl) 95
            replace HW := HW.alloc (.cells #[.int .i64 ta, .int .i64 tr, .int .i64 ts, .string tl] 95)
            generalize W9.alloc (.cells #[.int .i64 ta, .int .i64 tr, .int .i64 ts, .string tl] 95) = W1 at *
            generalize W9.heap.size = q at *
            obtain ⟨_, q0, q1, q2, q3, _⟩ := KT.four
            obtain ⟨_, b0, b1, b2, b3, e0, e1, e2, e3⟩ := HW.k1.four
            cases b with
            | none =>
              go_wp2
              go_roundw
              case rel => exact ⟨k + 1, some ⟨ta, tr, ts, tl⟩, by omega, rfl, int_eqS (by omega), by rw [HT.out]; exact LO.out, HW.store _ _ _ _⟩
              case measure => simp only [intOf]; omega
            | some bt =>
              by_cases h8 : ba ≤ ta
              · have d8 : decide (ba ≤ ta) = true := decide_eq_true h8
                have L2 := Lib.hid (show Latest (L.take (k + 1)) (fun t => t.at_ < at_) (some ⟨ta, tr, ts, tl⟩) from by
                  rw [HT.out, ← nextO_up (x := X) (y := y) (b := bt) (by rw [← HT.out, show bt = ⟨ba, br, bs, bl⟩ from HQ.out.symm]; exact h8)]
                  exact LO.out)
                go_wp2
                go_roundw
                case rel => exact ⟨k + 1, some ⟨ta, tr, ts, tl⟩, by omega, rfl, int_eqS (by omega), L2.out, HW.store _ _ _ _⟩
                case measure => simp only [intOf]; omega
              · have d8 : decide (ba ≤ ta) = false := decide_eq_false h8
                have L2 := Lib.hid (show Latest (L.take (k + 1)) (fun t => t.at_ < at_) (some bt) from by
                  rw [← nextO_old (x := X) (y := y) (b := bt) (by rw [← HT.out, show bt = ⟨ba, br, bs, bl⟩ from HQ.out.symm]; exact h8)]
                  exact LO.out)
                go_wp2
                go_roundw
                case rel => exact ⟨k + 1, some bt, by omega, rfl, int_eqS (by omega), L2.out, HQ.out ▸ HW⟩
                case measure => simp only [intOf]; omega
          · have N2 := Lib.hid (noneFrom_next HN5.out h6)
            by_cases h8 : turnIn X y
            · rw [turnO_some h8] at TC
              have h7 : at_ ≤ (turnT X y).at_ := by
                apply Int.not_lt.mp
                exact fun c => h6 ⟨h8, c⟩
              clear h6 h8 HN HN5 TR
              obtain ⟨t, ht⟩ : ∃ t, t = turnT X y := ⟨_, rfl⟩
              rw [← ht] at TC h7
              clear ht
              obtain ⟨ta, tr, ts, tl⟩ := t
              have d7 : decide (at_ ≤ ta) = true := decide_eq_true h7
              replace TC := Lib.hid (fun W => (show Calls Tryz.prog 96 #[.agg #[.string nm, .int .i64 fr, .int .i64 last, .int .i64 mo, .int .i64 ki, .int .i64 wd, .int .i64 da, .int .i64 ti, .int .i64 re, .int .i64 save, .string le], .int .i64 y] W (fun e w' => e = .returned (.tuple #[.agg #[.int .i64 ta, .int .i64 tr, .int .i64 ts, .string tl], .bool true]) ∧ Below W.heap.size W w') from TC.out W))
              have z0 := HW.at_ hg x0
              have z1 := HW.at_ hg x1
              have z2 := HW.at_ hg x2
              have z3 := HW.at_ hg x3
              have z4 := HW.at_ hg x4
              have z5 := HW.at_ hg x5
              have z6 := HW.at_ hg x6
              have z7 := HW.at_ hg x7
              have z8 := HW.at_ hg x8
              have z9 := HW.at_ hg x9
              have z10 := HW.at_ hg x10
              go_upto_region 9 with (go_at_call 96; refine (TC.out _).mono ?_; clear TC; rintro e W9 ⟨rfl, hk⟩; replace HW := HW.below hk; clear hk z0 z1 z2 z3 z4 z5 z6 z7 z8 z9 z10)
              have KT := Blk.new4 W9 (.int .i64 ta) (.int .i64 tr) (.int .i64 ts) (.string tl) 95
              replace HW := HW.alloc (.cells #[.int .i64 ta, .int .i64 tr, .int .i64 ts, .string tl] 95)
              generalize W9.alloc (.cells #[.int .i64 ta, .int .i64 tr, .int .i64 ts, .string tl] 95) = W1 at *
              generalize W9.heap.size = q at *
              obtain ⟨_, q0, q1, q2, q3, _⟩ := KT.four
              obtain ⟨_, b0, b1, b2, b3, e0, e1, e2, e3⟩ := HW.k1.four
              go_wp2
              go_roundw
              case rel => exact ⟨y - 1, rfl, by first | rfl | exact int_eqS (by omega), by omega, by omega, N2.out, HW⟩
              case measure => simp only [intOf]; omega
            · rw [turnO_none h8] at TC
              clear h6 h8 HN HN5 TR
              replace TC := Lib.hid (fun W => (show Calls Tryz.prog 96 #[.agg #[.string nm, .int .i64 fr, .int .i64 last, .int .i64 mo, .int .i64 ki, .int .i64 wd, .int .i64 da, .int .i64 ti, .int .i64 re, .int .i64 save, .string le], .int .i64 y] W (fun e w' => e = .returned (.tuple #[.agg #[.int .i64 0, .int .i64 0, .int .i64 0, .string ⟨#[]⟩], .bool false]) ∧ Below W.heap.size W w') from TC.out W))
              have z0 := HW.at_ hg x0
              have z1 := HW.at_ hg x1
              have z2 := HW.at_ hg x2
              have z3 := HW.at_ hg x3
              have z4 := HW.at_ hg x4
              have z5 := HW.at_ hg x5
              have z6 := HW.at_ hg x6
              have z7 := HW.at_ hg x7
              have z8 := HW.at_ hg x8
              have z9 := HW.at_ hg x9
              have z10 := HW.at_ hg x10
              go_upto_region 9 with (go_at_call 96; refine (TC.out _).mono ?_; clear TC; rintro e W9 ⟨rfl, hk⟩; replace HW := HW.below hk; clear hk z0 z1 z2 z3 z4 z5 z6 z7 z8 z9 z10)
              have KT := Blk.new4 W9 (.int .i64 0) (.int .i64 0) (.int .i64 0) (.string ⟨#[]⟩) 95
              replace HW := HW.alloc (.cells #[.int .i64 0, .int .i64 0, .int .i64 0, .string ⟨#[]⟩] 95)
              generalize W9.alloc (.cells #[.int .i64 0, .int .i64 0, .int .i64 0, .string ⟨#[]⟩] 95) = W1 at *
              generalize W9.heap.size = q at *
              obtain ⟨_, q0, q1, q2, q3, _⟩ := KT.four
              obtain ⟨_, b0, b1, b2, b3, e0, e1, e2, e3⟩ := HW.k1.four
              go_wp2
              go_roundw
              case rel => exact ⟨y - 1, rfl, by first | rfl | exact int_eqS (by omega), by omega, by omega, N2.out, HW⟩
              case measure => simp only [intOf]; omega
        · have LO := Lib.hid (HN.out none (noneFrom_all HN5.out (show y < X.fr by rw [HX.out]; show y < fr; omega)))
          have z1 := HW.at_ hg x1
          clear HN HN5 TR
          go_wp2
          go_roundw
          case rel => exact ⟨k + 1, b, by omega, rfl, int_eqS (by omega), LO.out, HQ.out ▸ HW⟩
          case measure => simp only [intOf]; omega
    · obtain rfl : k = n := by omega
      have E := Lib.hid (show aheadO L at_ = b from latestO_of (by have := HR.out; rw [← LN.out, List.take_length] at this; exact this))
      clear HR
      obtain ⟨_, b0, b1, b2, b3, _⟩ := HW.k1.four
      obtain ⟨_, r0, r1, r2, r3, f0, f1, f2, f3⟩ := HW.k0.four
      go_wp2
      obtain ⟨_, P0, P1, P2, P3, _⟩ := (HW.k0.self4 (.int .i64 ba) (.int .i64 br) (.int .i64 bs) (.string bl)).four
      have HB := (((HW.hb.setCell (p := ⟨w.heap.size, 0, none⟩) (Nat.le_refl _) (.int .i64 ba)).setCell (p := ⟨w.heap.size, 1, none⟩) (Nat.le_refl _) (.int .i64 br)).setCell (p := ⟨w.heap.size, 2, none⟩) (Nat.le_refl _) (.int .i64 bs)).setCell (p := ⟨w.heap.size, 3, none⟩) (Nat.le_refl _) (.string bl)
      exact bodyPost_ret (v := .tuple #[.agg #[.int .i64 ba, .int .i64 br, .int .i64 bs, .string bl], .bool b.isSome]) (by simp [results, Tryz.results68, go_sem, P0, P1, P2, P3]) rfl ⟨by rw [E.out, ← HQ.out]; rfl, HB⟩
theorem aheadSave_is (L : List Rl) (a : Int) : aheadSave L a = ((aheadO L a).getD Tn.zero).save := by
  unfold aheadSave
  cases aheadO L a <;> rfl
instance : DecidableEq Tn := fun a b => if h : a.at_ = b.at_ ∧ a.re = b.re ∧ a.save = b.save ∧ a.letter = b.letter then isTrue (Tn.ext' h.1 h.2.1 h.2.2.1 h.2.2.2) else isFalse (fun c => h (by subst c; exact ⟨rfl, rfl, rfl, rfl⟩))
abbrev TnV (w : World) (A : Option Addr) (n c : Nat) (l : List Tn) : Prop := Rs 4 w A n c (l.map Tn.vals)
abbrev OwnT (w : World) (base : Nat) (v : Value) (l : List Tn) : Prop := w.ownsRow base 95 4 v l.length (l.flatMap Tn.vals)
theorem flat_len (l : List Tn) : (l.flatMap Tn.vals).length = l.length * 4 := by
  induction l with
  | nil => rfl
  | cons t r ih => rw [List.flatMap_cons, List.length_append, ih, List.length_cons]; show 4 + r.length * 4 = _; omega
theorem flat_at : ∀ {l : List Tn} {i : Nat} {t : Tn}, l[i]? = some t → ∀ j, j < 4 → (l.flatMap Tn.vals)[i * 4 + j]? = t.vals[j]?
  | [], i, t, h => by simp at h
  | a :: r, 0, t, h => fun j hj => by
    cases h
    rw [List.flatMap_cons, List.getElem?_append_left (by show 0 * 4 + j < 4; omega), Nat.zero_mul, Nat.zero_add]
  | a :: r, i + 1, t, h => fun j hj => by
    rw [List.flatMap_cons, List.getElem?_append_right (by show 4 ≤ (i + 1) * 4 + j; omega)]
    show (r.flatMap Tn.vals)[(i + 1) * 4 + j - 4]? = _
    rw [show (i + 1) * 4 + j - 4 = i * 4 + j by omega]
    exact flat_at (l := r) (by simpa using h) j hj
theorem OwnT.nil (w : World) (base : Nat) : OwnT w base (.slice none 0 0) [] := World.ownsRow_nil _ _ _ _
theorem OwnT.tnv {w : World} {base : Nat} {v : Value} {l : List Tn} (h : OwnT w base v l) : ∃ A c, v = .slice A l.length c ∧ TnV w A l.length c l ∧ (A = none → l = []) ∧ ∀ a, A = some a → ∃ g, a = ⟨g, 0, none⟩ := by
  have cs := fun g => World.ownsRow.cells (g := g) h
  have lt := World.ownsRow.lt h
  rcases h.2 with ⟨rfl, h0⟩ | ⟨g, cap, cur, rfl, hb, hg, hn, hm, hs, ht⟩
  · obtain rfl : l = [] := List.eq_nil_of_length_eq_zero h0
    exact ⟨none, 0, rfl, Rs.nil 4 w, fun _ => rfl, fun a e => by cases e⟩
  · refine ⟨some ⟨g, 0, none⟩, cap, rfl, ⟨by simp, hn, hm, fun _ => ⟨g, 0, rfl, (lt g rfl).2, fun i hi j u hu => ?_⟩⟩, fun e => (by cases e), fun a e => (by cases e; exact ⟨g, rfl⟩)⟩
    have hi' : i < l.length := by simpa using hi
    rw [List.getElem_map] at hu
    have hj : j < 4 := (List.getElem?_eq_some_iff.1 hu).1
    have := cs g rfl (i * 4 + j) u (by rw [flat_at (List.getElem?_eq_getElem hi') j hj]; exact hu)
    rw [addr_add, Nat.zero_add] at this
    rw [Nat.zero_add]
    exact this
theorem OwnT.kept {w w' : World} {base : Nat} {v : Value} {l : List Tn} (h : OwnT w base v l) (k : Below w.heap.size w w') : OwnT w' base v l :=
  World.ownsRow.kept h (below_own k) (by cases q : v.ownBlock with | none => exact .inl rfl | some k => exact .inr (by intro c; cases c))
theorem OwnT.piece {w : World} {base : Nat} {l : List Tn} {g n c : Nat} (h : OwnT w base (.slice (some ⟨g, 0, none⟩) n c) l) (k : Nat) : ∀ j u, ((l.drop k).flatMap Tn.vals)[j]? = some u → w.cell? ((⟨g, k * 4, none⟩ : Addr).add j) = some u := by
  intro j u hu
  have cs := World.ownsRow.cells (g := g) h rfl (k * 4 + j) u (by
    have e : l.flatMap Tn.vals = (l.take k).flatMap Tn.vals ++ (l.drop k).flatMap Tn.vals := by rw [← List.flatMap_append, List.take_append_drop]
    by_cases hk : k ≤ l.length
    · rw [e, List.getElem?_append_right (by rw [flat_len, List.length_take]; omega), flat_len, List.length_take, Nat.min_eq_left hk, Nat.add_sub_cancel_left]
      exact hu
    · rw [List.drop_eq_nil_of_le (by omega)] at hu
      simp at hu)
  rw [addr_add] at cs ⊢
  rw [Nat.zero_add] at cs
  exact cs
theorem OwnT.front {w : World} {base : Nat} {l : List Tn} {g n c : Nat} (h : OwnT w base (.slice (some ⟨g, 0, none⟩) n c) l) (k : Nat) : ∀ j u, ((l.take k).flatMap Tn.vals)[j]? = some u → w.cell? ((⟨g, 0, none⟩ : Addr).add j) = some u := by
  intro j u hu
  refine World.ownsRow.cells (g := g) h rfl j u ?_
  have e : l.flatMap Tn.vals = (l.take k).flatMap Tn.vals ++ (l.drop k).flatMap Tn.vals := by rw [← List.flatMap_append, List.take_append_drop]
  rw [e, List.getElem?_append_left (List.getElem?_eq_some_iff.1 hu).1]
  exact hu
theorem info_partsT {T : TypeId} {z : Value} {s b : Nat} (h : (Tryz.prog.info? T).map (fun i => (i.zero, i.size, i.bytes)) = some (some z, s, b)) : ∃ i, Tryz.prog.info? T = some i ∧ i.zero = some z ∧ i.size = s ∧ i.bytes = b := by
  cases hi : Tryz.prog.info? T with
  | none => simp [hi] at h
  | some i => simp [hi] at h; exact ⟨i, rfl, h.1, h.2.1, h.2.2⟩
theorem turn_info : (Tryz.prog.info? 95).map (fun i => (i.zero, i.size, i.bytes)) = some (some (.agg #[.int .i64 0, .int .i64 0, .int .i64 0, .string ⟨#[]⟩]), 4, 40) := by kernel_rfl
theorem turns_one_cell (l : List Tn) : ∀ u ∈ l.flatMap Tn.vals, u.oneCell' = true := fun u hu => by
  obtain ⟨t, _, h⟩ := List.mem_flatMap.1 hu
  simp only [Tn.vals, List.mem_cons, List.not_mem_nil, or_false] at h
  rcases h with rfl | rfl | rfl | rfl <;> rfl
theorem wpList_app4 (w : World) {ops : Array Oper} {rest : List Oper} {o : Oper} {a : Act} {Q : Exit → Act → World → Prop} (hgd : o.guard = none) (s x : Operand)
    (ho : o.op = .call { callee := .builtin .append, args := #[s, x], argTypes := #[92, 92] })
    (base : Nat) (v : Value) (l r : List Tn) (hs : a.eval s = v) (hown : OwnT w base v l) (ad : Addr) (m c : Nat) (hx : a.eval x = .slice (some ad) m c) (hm : r.length = m)
    (hnews : ∀ j u, (r.flatMap Tn.vals)[j]? = some u → w.cell? (ad.add j) = some u) (hle : l.length + m ≤ 1000) (hbase : base ≤ w.heap.size)
    (h : ∀ v' w', OwnT w' base v' (l ++ r) → w.grownBy w' v.ownBlock → wpList Tryz.prog ops Q rest (a.put o.dst v') w') : wpList Tryz.prog ops Q (o :: rest) a w := by
  obtain ⟨i, hi, hz, hs1, hb⟩ := info_partsT turn_info
  subst hm
  refine wpList_append_own w hgd s x 92 ho base 95 i _ 4 40 Tryz.underlying92 hi hz hs1 hb rfl (by decide) v l.length (l.flatMap Tn.vals) hs hown ad r.length c (r.flatMap Tn.vals) hx (flat_len r) hnews (turns_one_cell r) (by unfold maxLen; omega) (by omega) hbase fun v' w' h1 h2 _ => ?_
  refine h v' w' ?_ h2
  rw [← List.flatMap_append, ← List.length_append] at h1
  exact h1
theorem turns_step {L : List Rl} {k : Nat} {x : Rl} (hx : L[k]? = some x) (y : Int) (l : List Tn) : turnsGo y (L.drop k) l = turnsGo y (L.drop (k + 1)) (if turnIn x y then insT (turnT x y) l else l) := by
  obtain ⟨h, e⟩ := List.getElem?_eq_some_iff.1 hx
  rw [List.drop_eq_getElem_cons h, e]
  rfl
theorem own_base {w : World} {a b : Nat} {v : Value} {l : List Tn} (h : OwnT w b v l) (le : a ≤ b) : OwnT w a v l :=
  ⟨h.1, h.2.imp id fun ⟨g, cap, cur, e, hb, r⟩ => ⟨g, cap, cur, e, Nat.le_trans le hb, r⟩⟩
theorem cut_up {t u : Tn} {l : List Tn} {k : Nat} (hu : l[k]? = some u) (h : t.at_ < u.at_) : cutK t l (k + 1) = cutK t l k := by
  unfold cutK
  rw [List.getD_eq_getElem?_getD, hu, if_pos (show t.at_ < ((some u).getD Tn.zero).at_ from h)]
  cases k <;> rfl
theorem cut_here {t u : Tn} {l : List Tn} {k : Nat} (hu : l[k]? = some u) (h : ¬ t.at_ < u.at_) : cutK t l (k + 1) = k + 1 := by
  unfold cutK
  rw [List.getD_eq_getElem?_getD, hu, if_neg (show ¬ t.at_ < ((some u).getD Tn.zero).at_ from h)]
theorem insT_len (t : Tn) (l : List Tn) : (insT t l).length = l.length + 1 := (insT_perm t l).length_eq
theorem grown_none {w w' : World} {row : Option Nat} (h : w.grownBy w' row) (e : row = none) : Below w.heap.size w w' := ⟨h.os, h.tape, h.output, h.size, fun k hk => h.block k hk (by rw [e]; intro c; cases c)⟩
structure TuW (w : World) (q : Nat) (t : List Value) (v : Value) (l : List Tn) (X : World) : Prop where
  hb : Below w.heap.size w X
  k1 : Blk X q t
  own : OwnT X w.heap.size v l
theorem TuW.below {w : World} {q : Nat} {t : List Value} {v : Value} {l : List Tn} {X X' : World} (h : TuW w q t v l X) (k : Below X.heap.size X X') : TuW w q t v l X' := ⟨below_thru h.hb k, h.k1.below k, h.own.kept k⟩
theorem TuW.grown {w : World} {q : Nat} {t : List Value} {v : Value} {l : List Tn} {X X' : World} {row : Option Nat} {b : Nat} (h : TuW w q t v l X) (G : X.grownBy X' row) (hr : ∀ r, row = some r → b ≤ r) (hq : q < b) (hw : w.heap.size ≤ b) (hv : ∀ r, v.ownBlock = some r → r < b) : TuW w q t v l X' :=
  ⟨h.hb.grown G h.hb.size (fun k e => Nat.le_trans hw (hr k e)), blk_grown G (fun r e => by have := hr r e; omega) h.k1,
    World.ownsRow.kept h.own G (by
      cases e : v.ownBlock with
      | none => exact .inl rfl
      | some r => exact .inr (fun c => by have := hr r c.symm; have := hv r e; omega))⟩
theorem turnsOR (L : List Rl) (y : Int) (A : Option Addr) (n c : Nat) (w : World) (hm : RulV w A n c L) (small : n ≤ 100) : Calls Tryz.prog 66 #[.slice A n c, .int .i64 y] w (fun e w' => ∃ v, e = .returned v ∧ OwnT w' w.heap.size v (turnsL L y) ∧ Below w.heap.size w w') := by
  have LN := Lib.hid (show L.length = n by have := hm.len; simpa using this)
  have HA := Lib.hid hm
  clear hm
  go_enter Tryz.func66, Tryz.ntmps66
  go_wp2_with fail
  go_loopw [5, 6] (fun v5 v6 wr => ∃ (k : Nat) (v : Value) (l : List Tn), k ≤ n ∧ v5 = v ∧ v6 = .int .i64 k ∧ turnsL L y = turnsGo y (L.drop k) l ∧ l.length ≤ k ∧ OwnT wr w.heap.size v l ∧ Below w.heap.size w wr) (fun _ v _ => n - (intOf v).toNat)
  case atStart => exact ⟨0, _, [], by omega, rfl, rfl, rfl, by simp, OwnT.nil _ _, Below.refl _ _⟩
  case round =>
    obtain ⟨k, v, l, hk, rfl, rfl, hR, hl, HO, hbel⟩ := hrel
    have HR := Lib.hid hR
    clear hR
    by_cases h4 : k < n
    · obtain ⟨x, hxx⟩ : ∃ x, L[k]? = some x := ⟨_, List.getElem?_eq_getElem (by rw [LN.out]; exact h4)⟩
      obtain ⟨g, o, ea0, hg, ca⟩ := (HA.out.below hbel).cells (by omega)
      subst ea0
      have ra := row_at ca (show (L.map Rl.vals)[k]? = some (Rl.vals x) by rw [List.getElem?_map, hxx]; rfl)
      have HN := Lib.hid (HR.out.trans (turns_step hxx y l))
      have TR := Lib.hid (fun W => turnDR x y W)
      obtain ⟨X, hX⟩ : ∃ X, X = x := ⟨_, rfl⟩
      rw [← hX] at HN TR
      have HX := Lib.hid hX
      clear hX
      obtain ⟨nm, fr, last, ⟨mo, ki, wd, da, ti, re⟩, save, le⟩ := x
      have x0 : wr.cell? ⟨g, o + k * 11, none⟩ = some (.string nm) := ra 0 _ rfl
      have x1 : wr.cell? ⟨g, o + k * 11 + 1, none⟩ = some (.int .i64 fr) := ra 1 _ rfl
      have x2 : wr.cell? ⟨g, o + k * 11 + 2, none⟩ = some (.int .i64 last) := ra 2 _ rfl
      have x3 : wr.cell? ⟨g, o + k * 11 + 3, none⟩ = some (.int .i64 mo) := ra 3 _ rfl
      have x4 : wr.cell? ⟨g, o + k * 11 + 4, none⟩ = some (.int .i64 ki) := ra 4 _ rfl
      have x5 : wr.cell? ⟨g, o + k * 11 + 5, none⟩ = some (.int .i64 wd) := ra 5 _ rfl
      have x6 : wr.cell? ⟨g, o + k * 11 + 6, none⟩ = some (.int .i64 da) := ra 6 _ rfl
      have x7 : wr.cell? ⟨g, o + k * 11 + 7, none⟩ = some (.int .i64 ti) := ra 7 _ rfl
      have x8 : wr.cell? ⟨g, o + k * 11 + 8, none⟩ = some (.int .i64 re) := ra 8 _ rfl
      have x9 : wr.cell? ⟨g, o + k * 11 + 9, none⟩ = some (.int .i64 save) := ra 9 _ rfl
      have x10 : wr.cell? ⟨g, o + k * 11 + 10, none⟩ = some (.string le) := ra 10 _ rfl
      clear ca ra hxx
      have TC := Lib.hid (fun W => (show Calls Tryz.prog 96 #[.agg #[.string nm, .int .i64 fr, .int .i64 last, .int .i64 mo, .int .i64 ki, .int .i64 wd, .int .i64 da, .int .i64 ti, .int .i64 re, .int .i64 save, .string le], .int .i64 y] W (RetTB W (turnO X y)) from by rw [show (Value.agg #[.string nm, .int .i64 fr, .int .i64 last, .int .i64 mo, .int .i64 ki, .int .i64 wd, .int .i64 da, .int .i64 ti, .int .i64 re, .int .i64 save, .string le]) = X.val from by rw [HX.out]; rfl]; exact TR.out W))
      by_cases h6 : turnIn X y
      · rw [turnO_some h6] at TC
        obtain ⟨t, ht⟩ : ∃ t, t = turnT X y := ⟨_, rfl⟩
        rw [← ht] at TC
        have N2 := Lib.hid (show turnsL L y = turnsGo y (L.drop (k + 1)) (insT t l) from by have := HN.out; rw [if_pos h6, ← ht] at this; exact this)
        clear ht HN h6
        obtain ⟨ta, tr, ts, tl⟩ := t
        obtain ⟨A', c', e, T, nl, so⟩ := HO.tnv
        subst e
        have lc : l.length ≤ c' := T.cap
        have cm : c' ≤ 9223372036854775807 := T.max
        clear T
        replace TC := Lib.hid (fun W => (show Calls Tryz.prog 96 #[.agg #[.string nm, .int .i64 fr, .int .i64 last, .int .i64 mo, .int .i64 ki, .int .i64 wd, .int .i64 da, .int .i64 ti, .int .i64 re, .int .i64 save, .string le], .int .i64 y] W (fun e w' => e = .returned (.tuple #[.agg #[.int .i64 ta, .int .i64 tr, .int .i64 ts, .string tl], .bool true]) ∧ Below W.heap.size W w') from TC.out W))
        go_upto_region 6 with (go_at_call 96; refine (TC.out _).mono ?_; clear TC; rintro e W9 ⟨rfl, hk⟩; clear x0 x1 x2 x3 x4 x5 x6 x7 x8 x9 x10)
        have KT := Blk.new4 W9 (.int .i64 ta) (.int .i64 tr) (.int .i64 ts) (.string tl) 95
        have hb1 := below_box W9 (.cells #[.int .i64 ta, .int .i64 tr, .int .i64 ts, .string tl] 95)
        replace hbel := below_thru (below_thru hbel hk) hb1
        replace HO := (OwnT.kept HO hk).kept hb1
        generalize W9.alloc (.cells #[.int .i64 ta, .int .i64 tr, .int .i64 ts, .string tl] 95) = W1 at *
        generalize W9.heap.size = q at *
        clear hk hb1
        have HW : TuW w q [.int .i64 ta, .int .i64 tr, .int .i64 ts, .string tl] (.slice A' l.length c') l W1 := ⟨hbel, KT, HO⟩
        clear hbel KT HO
        go_wp2_with fail
        go_loopw [9] (fun v9 wr => ∃ j : Nat, j ≤ l.length ∧ v9 = .int .i64 j ∧ cutK ⟨ta, tr, ts, tl⟩ l l.length = cutK ⟨ta, tr, ts, tl⟩ l j ∧ TuW w q [.int .i64 ta, .int .i64 tr, .int .i64 ts, .string tl] (.slice A' l.length c') l wr) (fun v _ => (intOf v).toNat)
        case atStart => exact ⟨l.length, by omega, rfl, rfl, HW⟩
        case round =>
          clear HW
          obtain ⟨j, hj, rfl, hC, HW⟩ := hrel
          have HC := Lib.hid hC
          clear hC
          cases j with
          | zero =>
            cases A' with
            | none =>
              obtain rfl : l = [] := nl rfl
              obtain ⟨i, hi, _⟩ := info_partsT turn_info
              clear HC
              go_wp2_with fail
              go_quiet (fail)
              rename_i nq
              replace HW := HW.below (below_drewN (Below.refl _ _) nq)
              generalize wr.drewN nq = wr at *
              have hw0 := HW.hb.size
              obtain rfl : c' = 0 := by
                rcases HW.own.2 with ⟨e, _⟩ | ⟨_, _, _, e, _⟩
                · cases e; rfl
                · cases e
              go_upto_region 12 with (at_builtin; refine wpList_append_own_none rfl (.tmp 45) (.tmp 48) 92 rfl wr.heap.size 95 i 4 Tryz.underlying92 hi (.slice none 0 0) 0 [] rfl (World.ownsRow_nil _ _ _ _) rfl ?_)
              obtain ⟨_, q0, q1, q2, q3, _⟩ := HW.k1.four
              have KN := blk_news (Blk.new4 wr (.int .i64 ta) (.int .i64 tr) (.int .i64 ts) (.string tl) 95)
              have bx := below_box wr (.cells #[.int .i64 ta, .int .i64 tr, .int .i64 ts, .string tl] 95)
              go_upto_region 13 with (at_builtin; refine wpList_app4 _ rfl (.tmp 50) (.tmp 52) rfl wr.heap.size (.slice none 0 0) [] [⟨ta, tr, ts, tl⟩] rfl (OwnT.nil _ _) ⟨wr.heap.size, 0, none⟩ 1 1 rfl rfl (fun j u hu => KN j u hu) (by decide) bx.size ?_; intro v2 W2 O2 G2)
              have HW2 := (HW.below bx).below (grown_none G2 rfl)
              clear HW KN bx q0 q1 q2 q3 G2
              go_upto_region 14 with (at_builtin; refine wpList_append_own_none rfl (.tmp 54) (.tmp 57) 92 rfl wr.heap.size 95 i 4 Tryz.underlying92 hi v2 _ _ rfl O2 rfl ?_)
              have O4 : OwnT W2 w.heap.size v2 (insT ⟨ta, tr, ts, tl⟩ []) := own_base O2 hw0
              go_wp2
              go_roundw
              case rel => exact ⟨k + 1, _, _, by omega, rfl, int_eqS (by omega), N2.out, by rw [insT_len]; omega, O4, HW2.hb⟩
              case measure => simp only [intOf]; omega
            | some a0 =>
              obtain ⟨g', e⟩ := so a0 rfl
              subst e
              have EI := Lib.hid (show insT ⟨ta, tr, ts, tl⟩ l = l.take 0 ++ [⟨ta, tr, ts, tl⟩] ++ l.drop 0 from by unfold insT; rw [HC.out]; rfl)
              have jl : 0 ≤ l.length := by omega
              clear HC
              go_wp2_with fail
              go_quiet (fail)
              rename_i nq
              replace HW := HW.below (below_drewN (Below.refl _ _) nq)
              generalize wr.drewN nq = wr at *
              have hw0 := HW.hb.size
              have gl : ∀ r, (Value.slice (some ⟨g', 0, none⟩) l.length c').ownBlock = some r → r < wr.heap.size := fun r e => (World.ownsRow.lt HW.own r e).2
              have ql := HW.k1.lt
              go_upto_region 12 with (at_builtin; refine wpList_app4 _ rfl (.tmp 45) (.tmp 48) rfl wr.heap.size (.slice none 0 0) [] (l.take (0)) rfl (OwnT.nil _ _) ⟨g', 0, none⟩ (0) c' rfl (by rw [List.length_take]; omega) (OwnT.front HW.own (0)) (by show 0 + (0) ≤ 1000; omega) (Nat.le_refl _) ?_; intro v1 W1 O1 G1)
              have HW1 := HW.below (grown_none G1 rfl)
              have s1 := G1.size
              clear HW G1
              obtain ⟨_, q0, q1, q2, q3, _⟩ := HW1.k1.four
              have KN := blk_news (Blk.new4 W1 (.int .i64 ta) (.int .i64 tr) (.int .i64 ts) (.string tl) 95)
              have bx := below_box W1 (.cells #[.int .i64 ta, .int .i64 tr, .int .i64 ts, .string tl] 95)
              have lt1 := fun r e => (World.ownsRow.lt O1 r e).1
              go_upto_region 13 with (at_builtin; refine wpList_app4 _ rfl (.tmp 50) (.tmp 52) rfl wr.heap.size v1 _ [⟨ta, tr, ts, tl⟩] rfl (OwnT.kept O1 bx) ⟨W1.heap.size, 0, none⟩ 1 1 rfl rfl (fun j u hu => KN j u hu) (by rw [List.length_append, List.length_take]; show 0 + _ + 1 ≤ 1000; omega) (Nat.le_trans s1 bx.size) ?_; intro v2 W2 O2 G2)
              have HW2 := (HW1.below bx).grown G2 lt1 ql hw0 gl
              have s2 := Nat.le_trans (Nat.le_trans s1 bx.size) G2.size
              clear HW1 G2 KN bx lt1 q0 q1 q2 q3
              have lt2 := fun r e => (World.ownsRow.lt O2 r e).1
              by_cases hcap : c' = 0
              · subst hcap
                have e1 := Lib.hid (show l.drop (0) = [] from List.drop_eq_nil_of_le (by omega))
                go_upto_region 14 with (at_builtin; refine wpList_app4 _ rfl (.tmp 54) (.tmp 57) rfl wr.heap.size v2 _ (l.drop (0)) rfl O2 ⟨g', 0, none⟩ _ _ rfl (by rw [List.length_drop]; try omega) (fun jj uu hu => by rw [e1.out] at hu; simp at hu) (by rw [List.length_append, List.length_append, List.length_take]; show 0 + _ + 1 + _ ≤ 1000; omega) s2 ?_; intro v3 W3 O3 G3)
                have HW3 := HW2.grown G3 lt2 ql hw0 gl
                have O4 : OwnT W3 w.heap.size v3 (insT ⟨ta, tr, ts, tl⟩ l) := own_base (by rw [EI.out]; exact O3) hw0
                clear O1 O2 O3 HW2 G3
                go_wp2
                go_roundw
                case rel => exact ⟨k + 1, _, _, by omega, rfl, int_eqS (by omega), N2.out, by rw [insT_len]; omega, O4, HW3.hb⟩
                case measure => simp only [intOf]; omega
              · have hc2 : 0 < c' := by omega
                have hc3 : ¬ 0 = c' := by omega
                have hc4 : ¬ c' - (0) = 0 := by omega
                have hc5 : (c' == 0) = false := beq_false_of_ne hcap
                have hc6 : (c' - (0) == 0) = false := beq_false_of_ne hc4
                go_upto_region 14 with (at_builtin; refine wpList_app4 _ rfl (.tmp 54) (.tmp 57) rfl wr.heap.size v2 _ (l.drop (0)) rfl O2 ⟨g', (0) * 4, none⟩ (l.length - (0)) _ rfl (by rw [List.length_drop]) (OwnT.piece HW2.own (0)) (by rw [List.length_append, List.length_append, List.length_take]; show 0 + _ + 1 + _ ≤ 1000; omega) s2 ?_; intro v3 W3 O3 G3)
                have HW3 := HW2.grown G3 lt2 ql hw0 gl
                have O4 : OwnT W3 w.heap.size v3 (insT ⟨ta, tr, ts, tl⟩ l) := own_base (by rw [EI.out]; exact O3) hw0
                clear O1 O2 O3 HW2 G3
                go_wp2
                go_roundw
                case rel => exact ⟨k + 1, _, _, by omega, rfl, int_eqS (by omega), N2.out, by rw [insT_len]; omega, O4, HW3.hb⟩
                case measure => simp only [intOf]; omega
          | succ j =>
            obtain ⟨u, hu⟩ : ∃ u, l[j]? = some u := ⟨_, List.getElem?_eq_getElem (by omega)⟩
            obtain ⟨g', rfl⟩ : ∃ g', A' = some ⟨g', 0, none⟩ := by
              cases A' with
              | none => have := nl rfl; subst this; simp at hu
              | some a => obtain ⟨g', e⟩ := so a rfl; exact ⟨g', by rw [e]⟩
            have z0 : wr.cell? ⟨g', j * 4, none⟩ = some (.int .i64 u.at_) := by
              have := World.ownsRow.cells (g := g') HW.own rfl (j * 4 + 0) (.int .i64 u.at_) (by rw [flat_at hu 0 (by decide)]; rfl)
              rw [addr_add, Nat.zero_add] at this
              exact this
            obtain ⟨_, q0, _⟩ := HW.k1.four
            have hs : IntKind.i64.wrap (((j + 1 : Nat) : Int) - 1) = (j : Int) := by rw [IntWalk.i64_in _ (by omega)]; omega
            have b0 : (0 : Int) ≤ (j : Int) := by omega
            have b1 : (j : Int) < (l.length : Int) := by omega
            by_cases h7 : ta < u.at_
            · have d7 : decide (ta < u.at_) = true := decide_eq_true h7
              have d8 : decide ((0 : Int) < ((j + 1 : Nat) : Int)) = true := decide_eq_true (by omega)
              have C2 := Lib.hid (HC.out.trans (cut_up (t := ⟨ta, tr, ts, tl⟩) hu h7))
              clear HC
              go_wp2_with fail
              go_quiet (fail)
              rename_i nq
              go_wp2
              go_roundw
              case rel => exact ⟨j, by omega, by first | rfl | exact int_eqS (by omega), C2.out, HW.below (below_drewN (Below.refl _ _) _)⟩
              case measure => simp only [intOf]; omega
            · have d7 : decide (ta < u.at_) = false := decide_eq_false h7
              have d8 : decide ((0 : Int) < ((j + 1 : Nat) : Int)) = true := decide_eq_true (by omega)
              have EI := Lib.hid (show insT ⟨ta, tr, ts, tl⟩ l = l.take (j + 1) ++ [⟨ta, tr, ts, tl⟩] ++ l.drop (j + 1) from by unfold insT; rw [HC.out, cut_here (t := ⟨ta, tr, ts, tl⟩) hu h7])
              have jl : j + 1 ≤ l.length := by omega
              clear HC
              go_wp2_with fail
              go_quiet (fail)
              rename_i nq
              replace HW := HW.below (below_drewN (Below.refl _ _) nq)
              generalize wr.drewN nq = wr at *
              have hw0 := HW.hb.size
              have gl : ∀ r, (Value.slice (some ⟨g', 0, none⟩) l.length c').ownBlock = some r → r < wr.heap.size := fun r e => (World.ownsRow.lt HW.own r e).2
              have ql := HW.k1.lt
              go_upto_region 12 with (at_builtin; refine wpList_app4 _ rfl (.tmp 45) (.tmp 48) rfl wr.heap.size (.slice none 0 0) [] (l.take (j + 1)) rfl (OwnT.nil _ _) ⟨g', 0, none⟩ (j + 1) c' rfl (by rw [List.length_take]; omega) (OwnT.front HW.own (j + 1)) (by show 0 + (j + 1) ≤ 1000; omega) (Nat.le_refl _) ?_; intro v1 W1 O1 G1)
              have HW1 := HW.below (grown_none G1 rfl)
              have s1 := G1.size
              clear HW G1
              obtain ⟨_, q0, q1, q2, q3, _⟩ := HW1.k1.four
              have KN := blk_news (Blk.new4 W1 (.int .i64 ta) (.int .i64 tr) (.int .i64 ts) (.string tl) 95)
              have bx := below_box W1 (.cells #[.int .i64 ta, .int .i64 tr, .int .i64 ts, .string tl] 95)
              have lt1 := fun r e => (World.ownsRow.lt O1 r e).1
              go_upto_region 13 with (at_builtin; refine wpList_app4 _ rfl (.tmp 50) (.tmp 52) rfl wr.heap.size v1 _ [⟨ta, tr, ts, tl⟩] rfl (OwnT.kept O1 bx) ⟨W1.heap.size, 0, none⟩ 1 1 rfl rfl (fun j u hu => KN j u hu) (by rw [List.length_append, List.length_take]; show 0 + _ + 1 ≤ 1000; omega) (Nat.le_trans s1 bx.size) ?_; intro v2 W2 O2 G2)
              have HW2 := (HW1.below bx).grown G2 lt1 ql hw0 gl
              have s2 := Nat.le_trans (Nat.le_trans s1 bx.size) G2.size
              clear HW1 G2 KN bx lt1 q0 q1 q2 q3
              have lt2 := fun r e => (World.ownsRow.lt O2 r e).1
              by_cases hcap : c' = j + 1
              · subst hcap
                have e1 := Lib.hid (show l.drop (j + 1) = [] from List.drop_eq_nil_of_le (by omega))
                go_upto_region 14 with (at_builtin; refine wpList_app4 _ rfl (.tmp 54) (.tmp 57) rfl wr.heap.size v2 _ (l.drop (j + 1)) rfl O2 ⟨g', 0, none⟩ _ _ rfl (by rw [List.length_drop]; try omega) (fun jj uu hu => by rw [e1.out] at hu; simp at hu) (by rw [List.length_append, List.length_append, List.length_take]; show 0 + _ + 1 + _ ≤ 1000; omega) s2 ?_; intro v3 W3 O3 G3)
                have HW3 := HW2.grown G3 lt2 ql hw0 gl
                have O4 : OwnT W3 w.heap.size v3 (insT ⟨ta, tr, ts, tl⟩ l) := own_base (by rw [EI.out]; exact O3) hw0
                clear O1 O2 O3 HW2 G3
                go_wp2
                go_roundw
                case rel => exact ⟨k + 1, _, _, by omega, rfl, int_eqS (by omega), N2.out, by rw [insT_len]; omega, O4, HW3.hb⟩
                case measure => simp only [intOf]; omega
              · have hc2 : j + 1 < c' := by omega
                have hc3 : ¬ j + 1 = c' := by omega
                have hc4 : ¬ c' - (j + 1) = 0 := by omega
                have hc5 : (c' == j + 1) = false := beq_false_of_ne hcap
                have hc6 : (c' - (j + 1) == 0) = false := beq_false_of_ne hc4
                go_upto_region 14 with (at_builtin; refine wpList_app4 _ rfl (.tmp 54) (.tmp 57) rfl wr.heap.size v2 _ (l.drop (j + 1)) rfl O2 ⟨g', (j + 1) * 4, none⟩ (l.length - (j + 1)) _ rfl (by rw [List.length_drop]) (OwnT.piece HW2.own (j + 1)) (by rw [List.length_append, List.length_append, List.length_take]; show 0 + _ + 1 + _ ≤ 1000; omega) s2 ?_; intro v3 W3 O3 G3)
                have HW3 := HW2.grown G3 lt2 ql hw0 gl
                have O4 : OwnT W3 w.heap.size v3 (insT ⟨ta, tr, ts, tl⟩ l) := own_base (by rw [EI.out]; exact O3) hw0
                clear O1 O2 O3 HW2 G3
                go_wp2
                go_roundw
                case rel => exact ⟨k + 1, _, _, by omega, rfl, int_eqS (by omega), N2.out, by rw [insT_len]; omega, O4, HW3.hb⟩
                case measure => simp only [intOf]; omega
      · rw [turnO_none h6] at TC
        have N2 := Lib.hid (show turnsL L y = turnsGo y (L.drop (k + 1)) l from by have := HN.out; rw [if_neg h6] at this; exact this)
        replace TC := Lib.hid (fun W => (show Calls Tryz.prog 96 #[.agg #[.string nm, .int .i64 fr, .int .i64 last, .int .i64 mo, .int .i64 ki, .int .i64 wd, .int .i64 da, .int .i64 ti, .int .i64 re, .int .i64 save, .string le], .int .i64 y] W (fun e w' => e = .returned (.tuple #[.agg #[.int .i64 0, .int .i64 0, .int .i64 0, .string ⟨#[]⟩], .bool false]) ∧ Below W.heap.size W w') from TC.out W))
        go_upto_region 6 with (go_at_call 96; refine (TC.out _).mono ?_; clear TC; rintro e W9 ⟨rfl, hk⟩; clear x0 x1 x2 x3 x4 x5 x6 x7 x8 x9 x10)
        have KT := Blk.new4 W9 (.int .i64 0) (.int .i64 0) (.int .i64 0) (.string ⟨#[]⟩) 95
        have hb1 := below_box W9 (.cells #[.int .i64 0, .int .i64 0, .int .i64 0, .string ⟨#[]⟩] 95)
        replace hbel := below_thru (below_thru hbel hk) hb1
        replace HO := (OwnT.kept HO hk).kept hb1
        generalize W9.alloc (.cells #[.int .i64 0, .int .i64 0, .int .i64 0, .string ⟨#[]⟩] 95) = W1 at *
        generalize W9.heap.size = q at *
        clear hk hb1
        clear KT
        go_wp2
        go_roundw
        case rel => exact ⟨k + 1, _, l, by omega, rfl, int_eqS (by omega), N2.out, by omega, HO, hbel⟩
        case measure => simp only [intOf]; omega
    · obtain rfl : k = n := by omega
      have Y := Lib.hid (show turnsL L y = l from by have h := HR.out; rw [← LN.out, List.drop_length] at h; exact h)
      obtain ⟨A', c', e, _⟩ := HO.tnv
      subst e
      go_wp2
      go_ret
      exact ⟨_, rfl, by rw [Y.out]; exact HO, hbel⟩
theorem wpList_appO (w : World) {ops : Array Oper} {rest : List Oper} {o : Oper} {a : Act} {Q : Exit → Act → World → Prop} (hgd : o.guard = none) (s x : Operand)
    (ho : o.op = .call { callee := .builtin .append, args := #[s, x], argTypes := #[92, 92] })
    (base b2 : Nat) (v u : Value) (l r : List Tn) (hs : a.eval s = v) (hown : OwnT w base v l) (hx : a.eval x = u) (hxo : OwnT w b2 u r) (hle : l.length + r.length ≤ 1000) (hbase : base ≤ w.heap.size)
    (h : ∀ v' w', OwnT w' base v' (l ++ r) → w.grownBy w' v.ownBlock → wpList Tryz.prog ops Q rest (a.put o.dst v') w') : wpList Tryz.prog ops Q (o :: rest) a w := by
  obtain ⟨i, hi, hz, hs1, hb⟩ := info_partsT turn_info
  rcases hxo.2 with ⟨e, h0⟩ | ⟨g, cap, cur, e, _⟩
  · obtain rfl : r = [] := List.eq_nil_of_length_eq_zero h0
    rw [e] at hx
    refine wpList_append_own_none hgd s x 92 ho base 95 i 4 Tryz.underlying92 hi v l.length _ hs hown hx ?_
    exact h v w (by rw [List.append_nil]; exact hown) ⟨rfl, rfl, rfl, Nat.le_refl _, fun _ _ _ => rfl⟩
  · rw [e] at hx
    exact wpList_app4 w hgd s x ho base v l r hs hown ⟨g, 0, none⟩ r.length cap hx rfl (fun j u hu => World.ownsRow.cells (g := g) hxo (by rw [e]; rfl) j u hu) hle hbase h
theorem own_empty (W : World) {b : Nat} (hb : b ≤ W.heap.size) : OwnT (W.alloc (.cells #[] 95)) b (.slice (some ⟨W.heap.size, 0, none⟩) 0 0) [] :=
  ⟨rfl, .inr ⟨W.heap.size, 0, #[], rfl, hb, by unfold World.alloc; simp, Nat.le_refl _, by unfold maxLen; omega, rfl, rfl⟩⟩
theorem own_other {W W' : World} {b B : Nat} {u : Value} {l : List Tn} {row : Option Nat} (h : OwnT W b u l) (lt : ∀ k, u.ownBlock = some k → k < B) (G : W.grownBy W' row) (hr : ∀ k, row = some k → B ≤ k) : OwnT W' b u l :=
  World.ownsRow.kept h G (by
    cases e : u.ownBlock with
    | none => exact .inl rfl
    | some r => exact .inr (fun c => by have := hr r c.symm; have := lt r e; omega))
theorem lo_step {L : List Rl} {k : Nat} {x : Rl} (hx : L[k]? = some x) (m : Int) : loGo (L.drop k) m = loGo (L.drop (k + 1)) (if x.fr < m then x.fr else m) := by
  obtain ⟨h, e⟩ := List.getElem?_eq_some_iff.1 hx
  rw [List.drop_eq_getElem_cons h, e]
  rfl
theorem hi_step {L : List Rl} {k : Nat} {x : Rl} (hx : L[k]? = some x) (m : Int) : hiGo (L.drop k) m = hiGo (L.drop (k + 1)) (hiStep x m) := by
  obtain ⟨h, e⟩ := List.getElem?_eq_some_iff.1 hx
  rw [List.drop_eq_getElem_cons h, e]
  rfl
theorem own_small {L : List Rl} {y : Int} {t : Tn} (h : t ∈ turnsL L y) : -100000000000 ≤ t.at_ ∧ t.at_ ≤ 10000000000000 := by
  obtain ⟨j, x, hx, tx, rfl⟩ := turnsL_mem.1 h
  have t := turn_year tx
  have y1 := onOk_year tx.2
  have j1 := jan_le y1.1
  have j2 := jan_le (show y + 1 ≤ 275761 by omega)
  have c1 : jan 1 = -719162 := by decide
  have c2 : jan 275761 ≤ 100010000 := by decide
  omega
theorem usT_rows9 {w : World} {A : Option Addr} {n c : Nat} {l : List Tn} {t : Tn} (h : Rs 4 w A n c (l.map Tn.vals)) {i : Nat} (ht : l[i]? = some t) : ∃ g o, A = some ⟨g, o, none⟩ ∧ g < w.heap.size ∧ l.length = n ∧ w.cell? ⟨g, o + i * 4, none⟩ = some (.int .i64 t.at_) ∧ True := by
  have hl : l.length = n := by have := h.len; simpa using this
  have hi := (List.getElem?_eq_some_iff.1 ht).1
  obtain ⟨g, o, e, hg, ca⟩ := h.cells (by omega)
  have ra := row_at ca (show (l.map Tn.vals)[i]? = some (Tn.vals t) by rw [List.getElem?_map, ht]; rfl)
  exact ⟨g, o, e, hg, hl, ra 0 _ rfl, trivial⟩
theorem turnsL_len (L : List Rl) (y : Int) : (turnsL L y).length ≤ L.length := by
  rw [(turnsL_perm L y).length_eq]
  unfold baseT
  rw [List.length_map]
  exact List.length_filter_le _ _
theorem nearDR (L : List Rl) (hL : fitL L) (A : Option Addr) (n c : Nat) (w : World) (hm : RulV w A n c L) (small : n ≤ 100) {b : Bool} (hbn : b = true ↔ nearP L) : Calls Tryz.prog 39 #[.slice A n c] w (RetV w (.bool b)) := by
  have LN := Lib.hid (show L.length = n by have := hm.len; simpa using this)
  have HA := Lib.hid hm
  have FIT := Lib.hid hL
  have DOC := Lib.hid (near_doc hL (loGo_le L 10000).2 (hi_years hL))
  have HB := Lib.hid hbn
  have EA := Lib.hid (show ∀ y, y < loGo L 10000 → turnsL L y = [] from fun y h => turns_early (loGo_le L 10000).2 h)
  clear hm hL hbn
  go_enter Tryz.func39, Tryz.ntmps39
  go_wp2_with fail
  go_loopw [3, 4, 5] (fun v3 v4 v5 wr => ∃ (k : Nat) (lo hi : Int), k ≤ n ∧ v3 = .int .i64 lo ∧ v4 = .int .i64 hi ∧ v5 = .int .i64 k ∧ loGo L 10000 = loGo (L.drop k) lo ∧ hiGo L 0 = hiGo (L.drop k) hi ∧ 1 ≤ lo ∧ lo ≤ 10000 ∧ 0 ≤ hi ∧ hi ≤ 9999 ∧ Below w.heap.size w wr) (fun _ _ v _ => n - (intOf v).toNat)
  case atStart => exact ⟨0, 10000, 0, by omega, rfl, rfl, rfl, rfl, rfl, by decide, by decide, by decide, by decide, Below.refl _ _⟩
  case round =>
    obtain ⟨k, lo, hi, hk, rfl, rfl, rfl, hl, hh, lo1, lo2, hi1, hi2, hbel⟩ := hrel
    have HL := Lib.hid hl
    have HH := Lib.hid hh
    clear hl hh
    by_cases h4 : k < n
    · obtain ⟨x, hxx⟩ : ∃ x, L[k]? = some x := ⟨_, List.getElem?_eq_getElem (by rw [LN.out]; exact h4)⟩
      obtain ⟨g, o, ea0, hg, ca⟩ := (HA.out.below hbel).cells (by omega)
      subst ea0
      have ra := row_at ca (show (L.map Rl.vals)[k]? = some (Rl.vals x) by rw [List.getElem?_map, hxx]; rfl)
      have fx := FIT.out x (List.mem_of_getElem? hxx)
      replace HL := Lib.hid (HL.out.trans (lo_step hxx lo))
      replace HH := Lib.hid (HH.out.trans (hi_step hxx hi))
      have f1 := fx.1.1
      have f2 := fx.1.2
      have f3 := fx.2.1.1
      have f4 := fx.2.1.2
      obtain ⟨nm, fr, last, ⟨mo, ki, wd, da, ti, re⟩, save, le⟩ := x
      simp only at f1 f2 f3 f4
      replace HL := Lib.hid (show loGo L 10000 = loGo (L.drop (k + 1)) (if fr < lo then fr else lo) from HL.out)
      have x1 : wr.cell? ⟨g, o + k * 11 + 1, none⟩ = some (.int .i64 fr) := ra 1 _ rfl
      have x2 : wr.cell? ⟨g, o + k * 11 + 2, none⟩ = some (.int .i64 last) := ra 2 _ rfl
      clear ca ra hxx fx
      have b0 : (0 : Int) ≤ (k : Int) := by omega
      have b1 : (k : Int) < (n : Int) := by omega
      by_cases c1 : fr < lo
      · have d1 : decide (fr < lo) = true := decide_eq_true c1
        have LS : (if fr < lo then fr else lo) = fr := if_pos c1
        by_cases c2 : hi < fr
        · have d2 : decide (hi < fr) = true := decide_eq_true c2
          have HV : (if hi < fr then fr else hi) = fr := if_pos c2
          by_cases c3 : last = 1000000
          · have d3 : (last != 1000000) = false := by simp [c3]
            have HS : hiStep ⟨nm, fr, last, ⟨mo, ki, wd, da, ti, re⟩, save, le⟩ hi = fr := by unfold hiStep; simp only; rw [if_neg (fun c => c.1 c3)]; exact HV
            clear HV
            have L1 := Lib.hid (show loGo L 10000 = loGo (L.drop (k + 1)) (fr) from by have := HL.out; rw [LS] at this; exact this)
            have H1 := Lib.hid (show hiGo L 0 = hiGo (L.drop (k + 1)) (fr) from by have := HH.out; rw [HS] at this; exact this)
            clear HL HH LS HS
            go_wp2
            go_roundw
            case rel => exact ⟨k + 1, fr, fr, by omega, rfl, rfl, int_eqS (by omega), L1.out, H1.out, by omega, by omega, by omega, by omega, hbel⟩
            case measure => simp only [intOf]; omega
          · have d3 : (last != 1000000) = true := by simp [c3]
            by_cases c4 : fr < last
            · have d4 : decide (fr < last) = true := decide_eq_true c4
              have HS : hiStep ⟨nm, fr, last, ⟨mo, ki, wd, da, ti, re⟩, save, le⟩ hi = last := by unfold hiStep; simp only; rw [if_pos ⟨c3, by rw [HV]; exact c4⟩]
              clear HV
              have L1 := Lib.hid (show loGo L 10000 = loGo (L.drop (k + 1)) (fr) from by have := HL.out; rw [LS] at this; exact this)
              have H1 := Lib.hid (show hiGo L 0 = hiGo (L.drop (k + 1)) (last) from by have := HH.out; rw [HS] at this; exact this)
              clear HL HH LS HS
              go_wp2
              go_roundw
              case rel => exact ⟨k + 1, fr, last, by omega, rfl, rfl, int_eqS (by omega), L1.out, H1.out, by omega, by omega, by omega, by omega, hbel⟩
              case measure => simp only [intOf]; omega
            · have d4 : decide (fr < last) = false := decide_eq_false c4
              have HS : hiStep ⟨nm, fr, last, ⟨mo, ki, wd, da, ti, re⟩, save, le⟩ hi = fr := by unfold hiStep; simp only; rw [if_neg (fun c => c4 (by have := c.2; rw [HV] at this; exact this))]; exact HV
              clear HV
              have L1 := Lib.hid (show loGo L 10000 = loGo (L.drop (k + 1)) (fr) from by have := HL.out; rw [LS] at this; exact this)
              have H1 := Lib.hid (show hiGo L 0 = hiGo (L.drop (k + 1)) (fr) from by have := HH.out; rw [HS] at this; exact this)
              clear HL HH LS HS
              go_wp2
              go_roundw
              case rel => exact ⟨k + 1, fr, fr, by omega, rfl, rfl, int_eqS (by omega), L1.out, H1.out, by omega, by omega, by omega, by omega, hbel⟩
              case measure => simp only [intOf]; omega
        · have d2 : decide (hi < fr) = false := decide_eq_false c2
          have HV : (if hi < fr then fr else hi) = hi := if_neg c2
          by_cases c3 : last = 1000000
          · have d3 : (last != 1000000) = false := by simp [c3]
            have HS : hiStep ⟨nm, fr, last, ⟨mo, ki, wd, da, ti, re⟩, save, le⟩ hi = hi := by unfold hiStep; simp only; rw [if_neg (fun c => c.1 c3)]; exact HV
            clear HV
            have L1 := Lib.hid (show loGo L 10000 = loGo (L.drop (k + 1)) (fr) from by have := HL.out; rw [LS] at this; exact this)
            have H1 := Lib.hid (show hiGo L 0 = hiGo (L.drop (k + 1)) (hi) from by have := HH.out; rw [HS] at this; exact this)
            clear HL HH LS HS
            go_wp2
            go_roundw
            case rel => exact ⟨k + 1, fr, hi, by omega, rfl, rfl, int_eqS (by omega), L1.out, H1.out, by omega, by omega, by omega, by omega, hbel⟩
            case measure => simp only [intOf]; omega
          · have d3 : (last != 1000000) = true := by simp [c3]
            by_cases c4 : hi < last
            · have d4 : decide (hi < last) = true := decide_eq_true c4
              have HS : hiStep ⟨nm, fr, last, ⟨mo, ki, wd, da, ti, re⟩, save, le⟩ hi = last := by unfold hiStep; simp only; rw [if_pos ⟨c3, by rw [HV]; exact c4⟩]
              clear HV
              have L1 := Lib.hid (show loGo L 10000 = loGo (L.drop (k + 1)) (fr) from by have := HL.out; rw [LS] at this; exact this)
              have H1 := Lib.hid (show hiGo L 0 = hiGo (L.drop (k + 1)) (last) from by have := HH.out; rw [HS] at this; exact this)
              clear HL HH LS HS
              go_wp2
              go_roundw
              case rel => exact ⟨k + 1, fr, last, by omega, rfl, rfl, int_eqS (by omega), L1.out, H1.out, by omega, by omega, by omega, by omega, hbel⟩
              case measure => simp only [intOf]; omega
            · have d4 : decide (hi < last) = false := decide_eq_false c4
              have HS : hiStep ⟨nm, fr, last, ⟨mo, ki, wd, da, ti, re⟩, save, le⟩ hi = hi := by unfold hiStep; simp only; rw [if_neg (fun c => c4 (by have := c.2; rw [HV] at this; exact this))]; exact HV
              clear HV
              have L1 := Lib.hid (show loGo L 10000 = loGo (L.drop (k + 1)) (fr) from by have := HL.out; rw [LS] at this; exact this)
              have H1 := Lib.hid (show hiGo L 0 = hiGo (L.drop (k + 1)) (hi) from by have := HH.out; rw [HS] at this; exact this)
              clear HL HH LS HS
              go_wp2
              go_roundw
              case rel => exact ⟨k + 1, fr, hi, by omega, rfl, rfl, int_eqS (by omega), L1.out, H1.out, by omega, by omega, by omega, by omega, hbel⟩
              case measure => simp only [intOf]; omega
      · have d1 : decide (fr < lo) = false := decide_eq_false c1
        have LS : (if fr < lo then fr else lo) = lo := if_neg c1
        by_cases c2 : hi < fr
        · have d2 : decide (hi < fr) = true := decide_eq_true c2
          have HV : (if hi < fr then fr else hi) = fr := if_pos c2
          by_cases c3 : last = 1000000
          · have d3 : (last != 1000000) = false := by simp [c3]
            have HS : hiStep ⟨nm, fr, last, ⟨mo, ki, wd, da, ti, re⟩, save, le⟩ hi = fr := by unfold hiStep; simp only; rw [if_neg (fun c => c.1 c3)]; exact HV
            clear HV
            have L1 := Lib.hid (show loGo L 10000 = loGo (L.drop (k + 1)) (lo) from by have := HL.out; rw [LS] at this; exact this)
            have H1 := Lib.hid (show hiGo L 0 = hiGo (L.drop (k + 1)) (fr) from by have := HH.out; rw [HS] at this; exact this)
            clear HL HH LS HS
            go_wp2
            go_roundw
            case rel => exact ⟨k + 1, lo, fr, by omega, rfl, rfl, int_eqS (by omega), L1.out, H1.out, by omega, by omega, by omega, by omega, hbel⟩
            case measure => simp only [intOf]; omega
          · have d3 : (last != 1000000) = true := by simp [c3]
            by_cases c4 : fr < last
            · have d4 : decide (fr < last) = true := decide_eq_true c4
              have HS : hiStep ⟨nm, fr, last, ⟨mo, ki, wd, da, ti, re⟩, save, le⟩ hi = last := by unfold hiStep; simp only; rw [if_pos ⟨c3, by rw [HV]; exact c4⟩]
              clear HV
              have L1 := Lib.hid (show loGo L 10000 = loGo (L.drop (k + 1)) (lo) from by have := HL.out; rw [LS] at this; exact this)
              have H1 := Lib.hid (show hiGo L 0 = hiGo (L.drop (k + 1)) (last) from by have := HH.out; rw [HS] at this; exact this)
              clear HL HH LS HS
              go_wp2
              go_roundw
              case rel => exact ⟨k + 1, lo, last, by omega, rfl, rfl, int_eqS (by omega), L1.out, H1.out, by omega, by omega, by omega, by omega, hbel⟩
              case measure => simp only [intOf]; omega
            · have d4 : decide (fr < last) = false := decide_eq_false c4
              have HS : hiStep ⟨nm, fr, last, ⟨mo, ki, wd, da, ti, re⟩, save, le⟩ hi = fr := by unfold hiStep; simp only; rw [if_neg (fun c => c4 (by have := c.2; rw [HV] at this; exact this))]; exact HV
              clear HV
              have L1 := Lib.hid (show loGo L 10000 = loGo (L.drop (k + 1)) (lo) from by have := HL.out; rw [LS] at this; exact this)
              have H1 := Lib.hid (show hiGo L 0 = hiGo (L.drop (k + 1)) (fr) from by have := HH.out; rw [HS] at this; exact this)
              clear HL HH LS HS
              go_wp2
              go_roundw
              case rel => exact ⟨k + 1, lo, fr, by omega, rfl, rfl, int_eqS (by omega), L1.out, H1.out, by omega, by omega, by omega, by omega, hbel⟩
              case measure => simp only [intOf]; omega
        · have d2 : decide (hi < fr) = false := decide_eq_false c2
          have HV : (if hi < fr then fr else hi) = hi := if_neg c2
          by_cases c3 : last = 1000000
          · have d3 : (last != 1000000) = false := by simp [c3]
            have HS : hiStep ⟨nm, fr, last, ⟨mo, ki, wd, da, ti, re⟩, save, le⟩ hi = hi := by unfold hiStep; simp only; rw [if_neg (fun c => c.1 c3)]; exact HV
            clear HV
            have L1 := Lib.hid (show loGo L 10000 = loGo (L.drop (k + 1)) (lo) from by have := HL.out; rw [LS] at this; exact this)
            have H1 := Lib.hid (show hiGo L 0 = hiGo (L.drop (k + 1)) (hi) from by have := HH.out; rw [HS] at this; exact this)
            clear HL HH LS HS
            go_wp2
            go_roundw
            case rel => exact ⟨k + 1, lo, hi, by omega, rfl, rfl, int_eqS (by omega), L1.out, H1.out, by omega, by omega, by omega, by omega, hbel⟩
            case measure => simp only [intOf]; omega
          · have d3 : (last != 1000000) = true := by simp [c3]
            by_cases c4 : hi < last
            · have d4 : decide (hi < last) = true := decide_eq_true c4
              have HS : hiStep ⟨nm, fr, last, ⟨mo, ki, wd, da, ti, re⟩, save, le⟩ hi = last := by unfold hiStep; simp only; rw [if_pos ⟨c3, by rw [HV]; exact c4⟩]
              clear HV
              have L1 := Lib.hid (show loGo L 10000 = loGo (L.drop (k + 1)) (lo) from by have := HL.out; rw [LS] at this; exact this)
              have H1 := Lib.hid (show hiGo L 0 = hiGo (L.drop (k + 1)) (last) from by have := HH.out; rw [HS] at this; exact this)
              clear HL HH LS HS
              go_wp2
              go_roundw
              case rel => exact ⟨k + 1, lo, last, by omega, rfl, rfl, int_eqS (by omega), L1.out, H1.out, by omega, by omega, by omega, by omega, hbel⟩
              case measure => simp only [intOf]; omega
            · have d4 : decide (hi < last) = false := decide_eq_false c4
              have HS : hiStep ⟨nm, fr, last, ⟨mo, ki, wd, da, ti, re⟩, save, le⟩ hi = hi := by unfold hiStep; simp only; rw [if_neg (fun c => c4 (by have := c.2; rw [HV] at this; exact this))]; exact HV
              clear HV
              have L1 := Lib.hid (show loGo L 10000 = loGo (L.drop (k + 1)) (lo) from by have := HL.out; rw [LS] at this; exact this)
              have H1 := Lib.hid (show hiGo L 0 = hiGo (L.drop (k + 1)) (hi) from by have := HH.out; rw [HS] at this; exact this)
              clear HL HH LS HS
              go_wp2
              go_roundw
              case rel => exact ⟨k + 1, lo, hi, by omega, rfl, rfl, int_eqS (by omega), L1.out, H1.out, by omega, by omega, by omega, by omega, hbel⟩
              case measure => simp only [intOf]; omega
    · obtain rfl : k = n := by omega
      have LO := Lib.hid (show loGo L 10000 = lo from by have h := HL.out; rw [← LN.out, List.drop_length] at h; exact h)
      have HI := Lib.hid (show hiGo L 0 = hi from by have h := HH.out; rw [← LN.out, List.drop_length] at h; exact h)
      clear HL HH
      have DO := Lib.hid (show (∃ y, lo ≤ y ∧ y ≤ hi + 402 ∧ pairIn (bothT L y)) ↔ nearP L from by have := DOC.out; rw [LO.out, HI.out] at this; exact this)
      have E0 : turnsL L (lo - 1) = [] := EA.out _ (by rw [LO.out]; omega)
      have E0 := Lib.hid E0
      clear DOC EA LO HI
      go_wp2_with fail
      go_loopw [6, 7] (fun v6 v7 wr => ∃ y : Int, v7 = .int .i64 y ∧ lo ≤ y ∧ y ≤ 20000 ∧ OwnT wr w.heap.size v6 (turnsL L (y - 1)) ∧ (∀ y', lo ≤ y' → y' < y → ¬ pairIn (bothT L y')) ∧ Below w.heap.size w wr) (fun _ v _ => (20001 - intOf v).toNat)
      case atStart => exact ⟨lo, rfl, Int.le_refl _, by omega, by rw [E0.out]; exact OwnT.nil _ _, fun y' h1 h2 => absurd h2 (by omega), hbel⟩
      case round =>
        clear hbel
        obtain ⟨y, rfl, yl, yh, HO, hR, hbel⟩ := hrel
        have HR := Lib.hid hR
        clear hR
        by_cases h5 : y ≤ hi + 402
        · have d5 : decide (y ≤ hi + 402) = true := decide_eq_true h5
          have TR := Lib.hid (fun W (h : RulV W A k c L) => turnsOR L y A k c W h small)
          have la := turnsL_len L (y - 1)
          have lb := turnsL_len L y
          rw [LN.out] at la lb
          have SM := Lib.hid (show ∀ (i : Nat) t, (turnsL L (y - 1) ++ turnsL L y)[i]? = some t → -100000000000 ≤ t.at_ ∧ t.at_ ≤ 10000000000000 from fun i t h => by
            rcases List.mem_append.1 (List.mem_of_getElem? h) with h | h
            · exact own_small h
            · exact own_small h)
          have YES := Lib.hid (show pairIn (turnsL L (y - 1) ++ turnsL L y) → b = true from fun h => HB.out.2 (DO.out.1 ⟨y, yl, h5, h⟩))
          have STEP := Lib.hid (show ¬ pairIn (turnsL L (y - 1) ++ turnsL L y) → ∀ y', lo ≤ y' → y' < y + 1 → ¬ pairIn (bothT L y') from fun h y' a1 a2 => by
            by_cases e : y' = y
            · subst e; exact h
            · exact HR.out y' a1 (by omega))
          have eu : turnsL L y = turnsL L (y + 1 - 1) := by rw [Int.add_sub_cancel]
          have EU := Lib.hid eu
          clear eu HR
          generalize turnsL L (y - 1) = ua at *
          obtain ⟨ub, hub⟩ : ∃ ub, ub = turnsL L y := ⟨_, rfl⟩
          rw [← hub] at TR lb SM YES STEP EU
          clear hub
          go_upto_region 16 with (go_at_call 66; refine (TR.out _ (HA.out.below hbel)).mono ?_; clear TR; rintro e W9 ⟨vb, rfl, OB, hk⟩)
          have hw9 := hbel.size
          have OA := OwnT.kept HO hk
          have OB : OwnT W9 w.heap.size vb ub := own_base OB hw9
          replace hbel := below_thru hbel hk
          clear HO hk hw9
          have la9 := fun r e => (World.ownsRow.lt OA r e).2
          have lb9 := fun r e => (World.ownsRow.lt OB r e).2
          have k1 := below_box W9 (.cells #[] 95)
          have OE := own_empty W9 (Nat.le_refl W9.heap.size)
          have OA1 := OwnT.kept OA k1
          have OB1 := OwnT.kept OB k1
          have hb1 := below_thru hbel k1
          have sz1 := k1.size
          have w9 := hbel.size
          go_upto_region 17 with (first
            | (at_builtin; refine wpList_appO _ rfl (.tmp 73) (.tmp 74) rfl W9.heap.size w.heap.size _ _ [] ua rfl OE rfl OA1 (by show 0 + _ ≤ 1000; omega) sz1 ?_; intro v1 W1 O1 G1; have OB2 := own_other OB1 lb9 G1 (fun k e => by cases e; exact Nat.le_refl _); have hb2 := hb1.grown G1 hb1.size (fun k e => by cases e; exact w9); have sz2 := Nat.le_trans sz1 G1.size; have lt1 := fun r e => (World.ownsRow.lt O1 r e).1)
            | (at_builtin; refine wpList_appO _ rfl (.tmp 75) (.tmp 76) rfl W9.heap.size w.heap.size v1 vb ([] ++ ua) ub rfl O1 rfl OB2 (by show ua.length + _ ≤ 1000; omega) sz2 ?_; intro v2 W2 O2 G2; have OB3 := own_other OB2 lb9 G2 (fun k e => lt1 k e); have hb3 := hb2.grown G2 hb2.size (fun k e => Nat.le_trans w9 (lt1 k e))))
          clear OE OA OA1 OB OB1 OB2 O1 G1 G2 la9 lb9 hb1 hb2 hbel k1 sz1 sz2 lt1 w9
          obtain ⟨A3, c3, e3, T3, _⟩ := O2.tnv
          subst e3
          clear O2
          rw [List.nil_append] at *
          obtain ⟨l, hl⟩ : ∃ l, l = ua ++ ub := ⟨_, rfl⟩
          rw [← hl] at SM YES STEP T3 ⊢
          have mx3 : l.length ≤ 9223372036854775807 := Nat.le_trans T3.cap T3.max
          clear hl
          go_wp2_with fail
          go_loopw [10] (fun v10 wr => ∃ i : Nat, i ≤ l.length ∧ v10 = .int .i64 i ∧ (∀ (p q : Nat) t u, q < p → p < i → l[p]? = some t → l[q]? = some u → ¬ nearT t u) ∧ TnV wr A3 l.length c3 l ∧ OwnT wr w.heap.size vb ub ∧ Below w.heap.size w wr) (fun v _ => l.length - (intOf v).toNat)
          case atStart => exact ⟨0, by omega, rfl, fun p q t u h1 h2 => absurd h2 (by omega), T3, OB3, hb3⟩
          case round =>
            clear T3 OB3 hb3
            obtain ⟨i, hi, rfl, hS, T3, OB3, hb3⟩ := hrel
            have HS := Lib.hid hS
            clear hS
            by_cases h6 : i < l.length
            · obtain ⟨t, ht⟩ : ∃ t, l[i]? = some t := ⟨_, List.getElem?_eq_getElem h6⟩
              have UP := Lib.hid (show (∀ (q : Nat) u, q < i → l[q]? = some u → ¬ nearT t u) → ∀ (p q : Nat) t u, q < p → p < i + 1 → l[p]? = some t → l[q]? = some u → ¬ nearT t u from fun h p q t' u a1 a2 hp hq => by
                by_cases e : p = i
                · subst e; rw [ht] at hp; cases hp; exact h q u a1 hq
                · exact HS.out p q t' u a1 (by omega) hp hq)
              clear HS
              go_wp2_with fail
              go_loopw [11] (fun v11 wr => ∃ k : Nat, k ≤ i ∧ v11 = .int .i64 k ∧ (∀ (q : Nat) u, q < k → l[q]? = some u → ¬ nearT t u) ∧ TnV wr A3 l.length c3 l ∧ OwnT wr w.heap.size vb ub ∧ Below w.heap.size w wr) (fun v _ => i - (intOf v).toNat)
              case atStart => exact ⟨0, by omega, rfl, fun q u h => absurd h (by omega), T3, OB3, hb3⟩
              case round =>
                clear T3 OB3 hb3
                obtain ⟨k', hk', rfl, hV, T3, OB3, hb3⟩ := hrel
                have HV := Lib.hid hV
                clear hV
                by_cases h7 : k' < i
                · obtain ⟨u, hu⟩ : ∃ u, l[k']? = some u := ⟨_, List.getElem?_eq_getElem (by omega)⟩
                  obtain ⟨g, o, rfl, hg, _, z0, _⟩ := usT_rows9 T3 ht
                  obtain ⟨g', o', e', hg', _, y0, _⟩ := usT_rows9 T3 hu
                  obtain ⟨rfl, rfl⟩ : g = g' ∧ o = o' := by cases e'; exact ⟨rfl, rfl⟩
                  obtain ⟨s1, s2⟩ := SM.out i t ht
                  obtain ⟨s3, s4⟩ := SM.out k' u hu
                  have ST := Lib.hid (show ¬ nearT t u → ∀ (q : Nat) v, q < k' + 1 → l[q]? = some v → ¬ nearT t v from fun h q v hq hv => by
                    by_cases e : q = k'
                    · subst e; rw [hu] at hv; cases hv; exact h
                    · exact HV.out q v (by omega) hv)
                  have HIT := Lib.hid (fun h : nearT t u => YES.out ⟨i, k', h7, t, u, ht, hu, h⟩)
                  unfold nearT at ST HIT
                  have HTT := Lib.hid ht
                  generalize hta : t.at_ = ta at *
                  generalize u.at_ = ua' at *
                  have HTA := Lib.hid hta
                  clear hu HV e' hta
                  have b0 : (0 : Int) ≤ (i : Int) := by omega
                  have b1 : (i : Int) < (l.length : Int) := by omega
                  have b2 : (0 : Int) ≤ (k' : Int) := by omega
                  have b3 : (k' : Int) < (l.length : Int) := by omega
                  go_upto_region 23 with (fail)
                  go_quiet (fail)
                  rename_i nq
                  have kq := below_drewN (Below.refl wr.heap.size wr) nq
                  replace T3 := Rs.below T3 kq
                  replace OB3 := OwnT.kept OB3 kq
                  replace hb3 := below_thru hb3 kq
                  generalize wr.drewN nq = wr2 at *
                  clear z0 y0 kq hg hg'
                  by_cases c1 : ta - ua' < 172800
                  · have f1 : decide (ta - ua' < 172800) = true := decide_eq_true c1
                    by_cases c2 : -172800 < ta - ua'
                    · have f2 : decide (-172800 < ta - ua') = true := decide_eq_true c2
                      have EQ := Lib.hid (HIT.out ⟨by omega, by omega⟩)
                      clear HIT ST
                      go_wp2
                      go_ret
                      exact ⟨by rw [EQ.out]; rfl, hb3⟩
                    · have f2 : decide (-172800 < ta - ua') = false := decide_eq_false c2
                      have S2 := Lib.hid (ST.out (fun h => by omega))
                      clear HIT ST
                      go_wp2
                      go_roundw
                      case rel => exact ⟨k' + 1, by omega, int_eqS (by omega), fun q v a b => by have := S2.out q v a b; unfold nearT; rw [HTA.out]; exact this, T3, OB3, hb3⟩
                      case measure => simp only [intOf]; omega
                  · have f1 : decide (ta - ua' < 172800) = false := decide_eq_false c1
                    have S2 := Lib.hid (ST.out (fun h => by omega))
                    clear HIT ST
                    go_wp2
                    go_roundw
                    case rel => exact ⟨k' + 1, by omega, int_eqS (by omega), fun q v a b => by have := S2.out q v a b; unfold nearT; rw [HTA.out]; exact this, T3, OB3, hb3⟩
                    case measure => simp only [intOf]; omega
                · obtain rfl : k' = i := by omega
                  have S2 := Lib.hid (UP.out HV.out)
                  clear UP HV
                  go_wp2
                  go_roundw
                  case rel => exact ⟨k' + 1, by omega, int_eqS (by omega), S2.out, T3, OB3, hb3⟩
                  case measure => simp only [intOf]; omega
            · obtain rfl : i = l.length := by omega
              have S2 := Lib.hid (STEP.out (fun ⟨p, q, lt, t, u, hp, hq, nn⟩ => HS.out p q t u lt (List.getElem?_eq_some_iff.1 hp).1 hp hq nn))
              have OC := OB3
              rw [EU.out] at OC
              clear STEP HS OB3
              go_wp2
              go_roundw
              case rel => exact ⟨y + 1, by first | rfl | exact int_eqS (by omega), by omega, by omega, OC, S2.out, hb3⟩
              case measure => simp only [intOf]; omega
        · have d5 : decide (y ≤ hi + 402) = false := decide_eq_false h5
          have EQ := Lib.hid (show b = false from by
            rw [← Bool.not_eq_true, HB.out]
            intro h
            obtain ⟨y', q1, q2, q3⟩ := DO.out.2 h
            exact HR.out y' q1 (by omega) q3)
          go_wp2
          go_ret
          exact ⟨by rw [EQ.out]; rfl, hbel⟩
end Go.Proofs.YtmhpnmlgfdomkaaGreatDoor
