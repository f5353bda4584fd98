import Derived.Test.YtkkdclibbdeejaaDoorXGea
import Derived.Test.YtkkdclibbdeejaaDoorXMem
import Derived.Deep.RegionHeld3
import Derived.Test.YtkkdclibbdeejaaDoorXGc
import Derived.BigQuiet
import Derived.Lib.SlicesS
import Derived.Laws.AppendOwnNone
set_option maxRecDepth 100000
set_option maxHeartbeats 64000000
namespace Go.Proofs.YtkkdclibbdeejaaDoor
open Go.RowKit
def turnO (x : Rl) (y : Int) : Option Tn := if turnIn x y then some (turnT x y) else none
theorem td_a (nm le : ByteArray) (fr last mo ki wd da ti re save y : Int) (h1 : decide (y < fr) = true) (w : World) :
    Calls Tryd.prog 31 #[.agg #[.string nm, .int .i64 fr, .int .i64 last, .int .i64 mo, .int .i64 ki, .int .i64 wd, .int .i64 da, .int .i64 ti, .int .i64 re, .int .i64 save, .string le], .int .i64 y] w fun e w' => e = .returned (.tuple #[.agg #[.int .i64 0, .int .i64 0, .int .i64 0, .string ⟨#[]⟩], .bool false]) ∧ Below w.heap.size w w' := by
  go_enter Tryd.func31, Tryd.ntmps31
  go_upto_region 1 with (fail)
  have k1 := below_box w (.cells #[.string nm, .int .i64 fr, .int .i64 last, .int .i64 mo, .int .i64 ki, .int .i64 wd, .int .i64 da, .int .i64 ti, .int .i64 re, .int .i64 save, .string le] 33)
  have kb := blk_lit w 33 [.string nm, .int .i64 fr, .int .i64 last, .int .i64 mo, .int .i64 ki, .int .i64 wd, .int .i64 da, .int .i64 ti, .int .i64 re, .int .i64 save, .string le]
  rw [show ([.string nm, .int .i64 fr, .int .i64 last, .int .i64 mo, .int .i64 ki, .int .i64 wd, .int .i64 da, .int .i64 ti, .int .i64 re, .int .i64 save, .string le] : List Value).toArray = #[.string nm, .int .i64 fr, .int .i64 last, .int .i64 mo, .int .i64 ki, .int .i64 wd, .int .i64 da, .int .i64 ti, .int .i64 re, .int .i64 save, .string le] from rfl] at kb
  have k2 := below_box (w.alloc (.cells #[.string nm, .int .i64 fr, .int .i64 last, .int .i64 mo, .int .i64 ki, .int .i64 wd, .int .i64 da, .int .i64 ti, .int .i64 re, .int .i64 save, .string le] 33)) (.cells #[.int .i64 0, .int .i64 0, .int .i64 0, .string ⟨#[]⟩] 35)
  have kr := Blk.new4 (w.alloc (.cells #[.string nm, .int .i64 fr, .int .i64 last, .int .i64 mo, .int .i64 ki, .int .i64 wd, .int .i64 da, .int .i64 ti, .int .i64 re, .int .i64 save, .string le] 33)) (.int .i64 0) (.int .i64 0) (.int .i64 0) (.string ⟨#[]⟩) 35
  simp only [World.size_alloc] at kr
  have KB := kb.below k2
  have hb := below_thru k1 k2
  generalize ((w.alloc (.cells #[.string nm, .int .i64 fr, .int .i64 last, .int .i64 mo, .int .i64 ki, .int .i64 wd, .int .i64 da, .int .i64 ti, .int .i64 re, .int .i64 save, .string le] 33)).alloc (.cells #[.int .i64 0, .int .i64 0, .int .i64 0, .string ⟨#[]⟩] 35)) = W at *
  clear k1 k2 kb
  obtain ⟨x0, x1, x2, x3, x4, x5, x6, x7, x8, x9, x10⟩ := KB.elevenC
  obtain ⟨_, r0, r1, r2, r3, f0, f1, f2, f3⟩ := kr.four
  have i5 : w.heap.size + 1 ≠ w.heap.size := by omega
  have i6 := Ne.symm i5
  go_wp2
  obtain ⟨_, P0, P1, P2, P3, _⟩ := (kr.self4 (.int .i64 0) (.int .i64 0) (.int .i64 0) (.string ⟨#[]⟩)).four
  have HB := (((hb.setCell (p := ⟨w.heap.size + 1, 0, none⟩) (by show _ ≤ w.heap.size + 1; omega) (.int .i64 0)).setCell (p := ⟨w.heap.size + 1, 1, none⟩) (by show _ ≤ w.heap.size + 1; omega) (.int .i64 0)).setCell (p := ⟨w.heap.size + 1, 2, none⟩) (by show _ ≤ w.heap.size + 1; omega) (.int .i64 0)).setCell (p := ⟨w.heap.size + 1, 3, none⟩) (by show _ ≤ w.heap.size + 1; omega) (.string ⟨#[]⟩)
  exact bodyPost_ret (v := .tuple #[.agg #[.int .i64 0, .int .i64 0, .int .i64 0, .string ⟨#[]⟩], .bool false]) (by simp [results, Tryd.results31, go_sem, P0, P1, P2, P3]) rfl ⟨rfl, HB⟩
theorem td_b (nm le : ByteArray) (fr last mo ki wd da ti re save y : Int) (h1 : decide (y < fr) = false) (h2 : decide (last < y) = true) (w : World) :
    Calls Tryd.prog 31 #[.agg #[.string nm, .int .i64 fr, .int .i64 last, .int .i64 mo, .int .i64 ki, .int .i64 wd, .int .i64 da, .int .i64 ti, .int .i64 re, .int .i64 save, .string le], .int .i64 y] w fun e w' => e = .returned (.tuple #[.agg #[.int .i64 0, .int .i64 0, .int .i64 0, .string ⟨#[]⟩], .bool false]) ∧ Below w.heap.size w w' := by
  go_enter Tryd.func31, Tryd.ntmps31
  go_upto_region 1 with (fail)
  have k1 := below_box w (.cells #[.string nm, .int .i64 fr, .int .i64 last, .int .i64 mo, .int .i64 ki, .int .i64 wd, .int .i64 da, .int .i64 ti, .int .i64 re, .int .i64 save, .string le] 33)
  have kb := blk_lit w 33 [.string nm, .int .i64 fr, .int .i64 last, .int .i64 mo, .int .i64 ki, .int .i64 wd, .int .i64 da, .int .i64 ti, .int .i64 re, .int .i64 save, .string le]
  rw [show ([.string nm, .int .i64 fr, .int .i64 last, .int .i64 mo, .int .i64 ki, .int .i64 wd, .int .i64 da, .int .i64 ti, .int .i64 re, .int .i64 save, .string le] : List Value).toArray = #[.string nm, .int .i64 fr, .int .i64 last, .int .i64 mo, .int .i64 ki, .int .i64 wd, .int .i64 da, .int .i64 ti, .int .i64 re, .int .i64 save, .string le] from rfl] at kb
  have k2 := below_box (w.alloc (.cells #[.string nm, .int .i64 fr, .int .i64 last, .int .i64 mo, .int .i64 ki, .int .i64 wd, .int .i64 da, .int .i64 ti, .int .i64 re, .int .i64 save, .string le] 33)) (.cells #[.int .i64 0, .int .i64 0, .int .i64 0, .string ⟨#[]⟩] 35)
  have kr := Blk.new4 (w.alloc (.cells #[.string nm, .int .i64 fr, .int .i64 last, .int .i64 mo, .int .i64 ki, .int .i64 wd, .int .i64 da, .int .i64 ti, .int .i64 re, .int .i64 save, .string le] 33)) (.int .i64 0) (.int .i64 0) (.int .i64 0) (.string ⟨#[]⟩) 35
  simp only [World.size_alloc] at kr
  have KB := kb.below k2
  have hb := below_thru k1 k2
  generalize ((w.alloc (.cells #[.string nm, .int .i64 fr, .int .i64 last, .int .i64 mo, .int .i64 ki, .int .i64 wd, .int .i64 da, .int .i64 ti, .int .i64 re, .int .i64 save, .string le] 33)).alloc (.cells #[.int .i64 0, .int .i64 0, .int .i64 0, .string ⟨#[]⟩] 35)) = W at *
  clear k1 k2 kb
  obtain ⟨x0, x1, x2, x3, x4, x5, x6, x7, x8, x9, x10⟩ := KB.elevenC
  obtain ⟨_, r0, r1, r2, r3, f0, f1, f2, f3⟩ := kr.four
  have i5 : w.heap.size + 1 ≠ w.heap.size := by omega
  have i6 := Ne.symm i5
  go_wp2
  obtain ⟨_, P0, P1, P2, P3, _⟩ := (kr.self4 (.int .i64 0) (.int .i64 0) (.int .i64 0) (.string ⟨#[]⟩)).four
  have HB := (((hb.setCell (p := ⟨w.heap.size + 1, 0, none⟩) (by show _ ≤ w.heap.size + 1; omega) (.int .i64 0)).setCell (p := ⟨w.heap.size + 1, 1, none⟩) (by show _ ≤ w.heap.size + 1; omega) (.int .i64 0)).setCell (p := ⟨w.heap.size + 1, 2, none⟩) (by show _ ≤ w.heap.size + 1; omega) (.int .i64 0)).setCell (p := ⟨w.heap.size + 1, 3, none⟩) (by show _ ≤ w.heap.size + 1; omega) (.string ⟨#[]⟩)
  exact bodyPost_ret (v := .tuple #[.agg #[.int .i64 0, .int .i64 0, .int .i64 0, .string ⟨#[]⟩], .bool false]) (by simp [results, Tryd.results31, go_sem, P0, P1, P2, P3]) rfl ⟨rfl, HB⟩
theorem td_c (nm le : ByteArray) (fr last mo ki wd da ti re save y : Int) (h1 : decide (y < fr) = false) (h2 : decide (last < y) = false) (a : Int) (LO : Hid (∀ W, Calls Tryd.prog 48 #[.agg #[.int .i64 mo, .int .i64 ki, .int .i64 wd, .int .i64 da, .int .i64 ti, .int .i64 re], .int .i64 y] W (RetNumB W a false))) (w : World) :
    Calls Tryd.prog 31 #[.agg #[.string nm, .int .i64 fr, .int .i64 last, .int .i64 mo, .int .i64 ki, .int .i64 wd, .int .i64 da, .int .i64 ti, .int .i64 re, .int .i64 save, .string le], .int .i64 y] w fun e w' => e = .returned (.tuple #[.agg #[.int .i64 0, .int .i64 0, .int .i64 0, .string ⟨#[]⟩], .bool false]) ∧ Below w.heap.size w w' := by
  go_enter Tryd.func31, Tryd.ntmps31
  go_upto_region 1 with (fail)
  have k1 := below_box w (.cells #[.string nm, .int .i64 fr, .int .i64 last, .int .i64 mo, .int .i64 ki, .int .i64 wd, .int .i64 da, .int .i64 ti, .int .i64 re, .int .i64 save, .string le] 33)
  have kb := blk_lit w 33 [.string nm, .int .i64 fr, .int .i64 last, .int .i64 mo, .int .i64 ki, .int .i64 wd, .int .i64 da, .int .i64 ti, .int .i64 re, .int .i64 save, .string le]
  rw [show ([.string nm, .int .i64 fr, .int .i64 last, .int .i64 mo, .int .i64 ki, .int .i64 wd, .int .i64 da, .int .i64 ti, .int .i64 re, .int .i64 save, .string le] : List Value).toArray = #[.string nm, .int .i64 fr, .int .i64 last, .int .i64 mo, .int .i64 ki, .int .i64 wd, .int .i64 da, .int .i64 ti, .int .i64 re, .int .i64 save, .string le] from rfl] at kb
  have k2 := below_box (w.alloc (.cells #[.string nm, .int .i64 fr, .int .i64 last, .int .i64 mo, .int .i64 ki, .int .i64 wd, .int .i64 da, .int .i64 ti, .int .i64 re, .int .i64 save, .string le] 33)) (.cells #[.int .i64 0, .int .i64 0, .int .i64 0, .string ⟨#[]⟩] 35)
  have kr := Blk.new4 (w.alloc (.cells #[.string nm, .int .i64 fr, .int .i64 last, .int .i64 mo, .int .i64 ki, .int .i64 wd, .int .i64 da, .int .i64 ti, .int .i64 re, .int .i64 save, .string le] 33)) (.int .i64 0) (.int .i64 0) (.int .i64 0) (.string ⟨#[]⟩) 35
  simp only [World.size_alloc] at kr
  have KB := kb.below k2
  have hb := below_thru k1 k2
  generalize ((w.alloc (.cells #[.string nm, .int .i64 fr, .int .i64 last, .int .i64 mo, .int .i64 ki, .int .i64 wd, .int .i64 da, .int .i64 ti, .int .i64 re, .int .i64 save, .string le] 33)).alloc (.cells #[.int .i64 0, .int .i64 0, .int .i64 0, .string ⟨#[]⟩] 35)) = W at *
  clear k1 k2 kb
  obtain ⟨x0, x1, x2, x3, x4, x5, x6, x7, x8, x9, x10⟩ := KB.elevenC
  obtain ⟨_, r0, r1, r2, r3, f0, f1, f2, f3⟩ := kr.four
  have i5 : w.heap.size + 1 ≠ w.heap.size := by omega
  have i6 := Ne.symm i5
  go_wp2_with (go_at_call 48; refine (LO.out _).mono ?_; clear LO; rintro e W9 ⟨rfl, hk⟩; replace KB := KB.below hk; replace kr := kr.below hk; replace hb := below_thru hb hk; clear hk x0 x1 x2 x3 x4 x5 x6 x7 x8 x9 x10 r0 r1 r2 r3 f0 f1 f2 f3; obtain ⟨x0, x1, x2, x3, x4, x5, x6, x7, x8, x9, x10⟩ := KB.elevenC; obtain ⟨_, r0, r1, r2, r3, f0, f1, f2, f3⟩ := kr.four)
  go_wp2
  obtain ⟨_, P0, P1, P2, P3, _⟩ := (kr.self4 (.int .i64 0) (.int .i64 0) (.int .i64 0) (.string ⟨#[]⟩)).four
  have HB := (((hb.setCell (p := ⟨w.heap.size + 1, 0, none⟩) (by show _ ≤ w.heap.size + 1; omega) (.int .i64 0)).setCell (p := ⟨w.heap.size + 1, 1, none⟩) (by show _ ≤ w.heap.size + 1; omega) (.int .i64 0)).setCell (p := ⟨w.heap.size + 1, 2, none⟩) (by show _ ≤ w.heap.size + 1; omega) (.int .i64 0)).setCell (p := ⟨w.heap.size + 1, 3, none⟩) (by show _ ≤ w.heap.size + 1; omega) (.string ⟨#[]⟩)
  exact bodyPost_ret (v := .tuple #[.agg #[.int .i64 0, .int .i64 0, .int .i64 0, .string ⟨#[]⟩], .bool false]) (by simp [results, Tryd.results31, go_sem, P0, P1, P2, P3]) rfl ⟨rfl, HB⟩
theorem td_d (nm le : ByteArray) (fr last mo ki wd da ti re save y : Int) (h1 : decide (y < fr) = false) (h2 : decide (last < y) = false) (a : Int) (LO : Hid (∀ W, Calls Tryd.prog 48 #[.agg #[.int .i64 mo, .int .i64 ki, .int .i64 wd, .int .i64 da, .int .i64 ti, .int .i64 re], .int .i64 y] W (RetNumB W a true))) (w : World) :
    Calls Tryd.prog 31 #[.agg #[.string nm, .int .i64 fr, .int .i64 last, .int .i64 mo, .int .i64 ki, .int .i64 wd, .int .i64 da, .int .i64 ti, .int .i64 re, .int .i64 save, .string le], .int .i64 y] w fun e w' => e = .returned (.tuple #[.agg #[.int .i64 a, .int .i64 re, .int .i64 save, .string le], .bool true]) ∧ Below w.heap.size w w' := by
  go_enter Tryd.func31, Tryd.ntmps31
  go_upto_region 1 with (fail)
  have k1 := below_box w (.cells #[.string nm, .int .i64 fr, .int .i64 last, .int .i64 mo, .int .i64 ki, .int .i64 wd, .int .i64 da, .int .i64 ti, .int .i64 re, .int .i64 save, .string le] 33)
  have kb := blk_lit w 33 [.string nm, .int .i64 fr, .int .i64 last, .int .i64 mo, .int .i64 ki, .int .i64 wd, .int .i64 da, .int .i64 ti, .int .i64 re, .int .i64 save, .string le]
  rw [show ([.string nm, .int .i64 fr, .int .i64 last, .int .i64 mo, .int .i64 ki, .int .i64 wd, .int .i64 da, .int .i64 ti, .int .i64 re, .int .i64 save, .string le] : List Value).toArray = #[.string nm, .int .i64 fr, .int .i64 last, .int .i64 mo, .int .i64 ki, .int .i64 wd, .int .i64 da, .int .i64 ti, .int .i64 re, .int .i64 save, .string le] from rfl] at kb
  have k2 := below_box (w.alloc (.cells #[.string nm, .int .i64 fr, .int .i64 last, .int .i64 mo, .int .i64 ki, .int .i64 wd, .int .i64 da, .int .i64 ti, .int .i64 re, .int .i64 save, .string le] 33)) (.cells #[.int .i64 0, .int .i64 0, .int .i64 0, .string ⟨#[]⟩] 35)
  have kr := Blk.new4 (w.alloc (.cells #[.string nm, .int .i64 fr, .int .i64 last, .int .i64 mo, .int .i64 ki, .int .i64 wd, .int .i64 da, .int .i64 ti, .int .i64 re, .int .i64 save, .string le] 33)) (.int .i64 0) (.int .i64 0) (.int .i64 0) (.string ⟨#[]⟩) 35
  simp only [World.size_alloc] at kr
  have KB := kb.below k2
  have hb := below_thru k1 k2
  generalize ((w.alloc (.cells #[.string nm, .int .i64 fr, .int .i64 last, .int .i64 mo, .int .i64 ki, .int .i64 wd, .int .i64 da, .int .i64 ti, .int .i64 re, .int .i64 save, .string le] 33)).alloc (.cells #[.int .i64 0, .int .i64 0, .int .i64 0, .string ⟨#[]⟩] 35)) = W at *
  clear k1 k2 kb
  obtain ⟨x0, x1, x2, x3, x4, x5, x6, x7, x8, x9, x10⟩ := KB.elevenC
  obtain ⟨_, r0, r1, r2, r3, f0, f1, f2, f3⟩ := kr.four
  have i5 : w.heap.size + 1 ≠ w.heap.size := by omega
  have i6 := Ne.symm i5
  go_wp2_with (go_at_call 48; refine (LO.out _).mono ?_; clear LO; rintro e W9 ⟨rfl, hk⟩; replace KB := KB.below hk; replace kr := kr.below hk; replace hb := below_thru hb hk; clear hk x0 x1 x2 x3 x4 x5 x6 x7 x8 x9 x10 r0 r1 r2 r3 f0 f1 f2 f3; obtain ⟨x0, x1, x2, x3, x4, x5, x6, x7, x8, x9, x10⟩ := KB.elevenC; obtain ⟨_, r0, r1, r2, r3, f0, f1, f2, f3⟩ := kr.four)
  go_wp2
  obtain ⟨_, P0, P1, P2, P3, _⟩ := (kr.self4 (.int .i64 a) (.int .i64 re) (.int .i64 save) (.string le)).four
  have HB := (((hb.setCell (p := ⟨w.heap.size + 1, 0, none⟩) (by show _ ≤ w.heap.size + 1; omega) (.int .i64 a)).setCell (p := ⟨w.heap.size + 1, 1, none⟩) (by show _ ≤ w.heap.size + 1; omega) (.int .i64 re)).setCell (p := ⟨w.heap.size + 1, 2, none⟩) (by show _ ≤ w.heap.size + 1; omega) (.int .i64 save)).setCell (p := ⟨w.heap.size + 1, 3, none⟩) (by show _ ≤ w.heap.size + 1; omega) (.string le)
  exact bodyPost_ret (v := .tuple #[.agg #[.int .i64 a, .int .i64 re, .int .i64 save, .string le], .bool true]) (by simp [results, Tryd.results31, go_sem, P0, P1, P2, P3]) rfl ⟨rfl, HB⟩
theorem turnO_none {x : Rl} {y : Int} (h : ¬ turnIn x y) : turnO x y = none := if_neg h
theorem turnO_some {x : Rl} {y : Int} (h : turnIn x y) : turnO x y = some (turnT x y) := if_pos h
theorem turnDR (x : Rl) (y : Int) (w : World) : Calls Tryd.prog 31 #[x.val, .int .i64 y] w (RetTB w (turnO x y)) := by
  have lo := fun W => localR x.sp y W
  obtain ⟨nm, fr, last, ⟨mo, ki, wd, da, ti, re⟩, save, le⟩ := x
  by_cases h1 : y < fr
  · rw [turnO_none (fun c => by have := c.1.1; simp only at this; omega)]
    exact td_a _ _ _ _ _ _ _ _ _ _ _ _ (decide_eq_true h1) w
  by_cases h2 : last < y
  · rw [turnO_none (fun c => by have := c.1.2; simp only at this; omega)]
    exact td_b _ _ _ _ _ _ _ _ _ _ _ _ (decide_eq_false h1) (decide_eq_true h2) w
  by_cases h3 : onOk ⟨mo, ki, wd, da, ti, re⟩ y
  · rw [turnO_some ⟨⟨Int.not_lt.mp h1, Int.not_lt.mp h2⟩, h3⟩]
    rw [decide_eq_true h3] at lo
    exact td_d _ _ _ _ _ _ _ _ _ _ _ _ (decide_eq_false h1) (decide_eq_false h2) _ (Lib.hid lo) w
  · rw [turnO_none (fun c => h3 c.2)]
    rw [decide_eq_false h3] at lo
    exact td_c _ _ _ _ _ _ _ _ _ _ _ _ (decide_eq_false h1) (decide_eq_false h2) _ (Lib.hid lo) w
theorem tdiv_neg_day {T : Int} (h : T < 0) : T.tdiv 86400 = -((-T) / 86400) ∧ T.tmod 86400 = -((-T) % 86400) := by
  have a := Int.neg_tdiv (a := -T) (b := 86400)
  have b := Int.neg_tmod (-T) 86400
  rw [Int.neg_neg] at a b
  rw [Int.tdiv_eq_ediv_of_nonneg (show 0 ≤ -T by omega)] at a
  rw [Int.tmod_eq_emod_of_nonneg (show 0 ≤ -T by omega)] at b
  exact ⟨a, b⟩
theorem fit_no {L : List Rl} {k : Nat} {x : Rl} (h : L[k]? = some x) (b : ¬ x.fit) : fitB L = false := by
  rw [← Bool.not_eq_true, fit_yes]
  exact fun c => b (c x (List.mem_of_getElem? h))
theorem rightDR (L : List Rl) (A : Option Addr) (n c : Nat) (w : World) (hm : RulV w A n c L) : Calls Tryd.prog 11 #[.slice A n c] w (RetV w (.bool (fitB L))) := by
  have mx : n ≤ 9223372036854775807 := Nat.le_trans hm.cap hm.max
  have LN := Lib.hid (show L.length = n by have := hm.len; simpa using this)
  have HA := Lib.hid hm
  clear hm
  go_enter Tryd.func11, Tryd.ntmps11
  go_wp2_with fail
  go_loopw [3] (fun v3 wr => ∃ k : Nat, k ≤ n ∧ v3 = .int .i64 k ∧ (∀ j x, j < k → L[j]? = some x → x.fit) ∧ Below w.heap.size w wr) (fun v _ => n - (intOf v).toNat)
  case atStart => exact ⟨0, by omega, rfl, fun j x h => absurd h (by omega), Below.refl _ _⟩
  case round =>
    obtain ⟨k, hk, rfl, hR, hbel⟩ := hrel
    have HR := Lib.hid hR
    clear hR
    by_cases h4 : k < n
    · obtain ⟨x, hxx⟩ : ∃ x, L[k]? = some x := ⟨_, List.getElem?_eq_getElem (by rw [LN.out]; exact h4)⟩
      obtain ⟨g, o, ea0, hg, ca⟩ := (HA.out.below hbel).cells (by omega)
      subst ea0
      have STEP := Lib.hid (show x.fit → ∀ j y, j < k + 1 → L[j]? = some y → y.fit from fun h j y hj hy => by
        by_cases e : j = k
        · subst e; rw [hxx] at hy; cases hy; exact h
        · exact HR.out j y (by omega) hy)
      have BAD := Lib.hid (fun h : ¬ x.fit => fit_no hxx h)
      have ra := row_at ca (show (L.map Rl.vals)[k]? = some (Rl.vals x) by rw [List.getElem?_map, hxx]; rfl)
      have SR := Lib.hid (fun W => rightSR x.sp W)
      obtain ⟨nm, fr, last, sp, save, le⟩ := x
      obtain ⟨mo, ki, wd, da, ti, re⟩ := sp
      have x0 : wr.cell? ⟨g, o + k * 11, none⟩ = some (.string nm) := ra 0 _ rfl
      have x1 : wr.cell? ⟨g, o + k * 11 + 1, none⟩ = some (.int .i64 fr) := ra 1 _ rfl
      have x2 : wr.cell? ⟨g, o + k * 11 + 2, none⟩ = some (.int .i64 last) := ra 2 _ rfl
      have x3 : wr.cell? ⟨g, o + k * 11 + 3, none⟩ = some (.int .i64 mo) := ra 3 _ rfl
      have x4 : wr.cell? ⟨g, o + k * 11 + 4, none⟩ = some (.int .i64 ki) := ra 4 _ rfl
      have x5 : wr.cell? ⟨g, o + k * 11 + 5, none⟩ = some (.int .i64 wd) := ra 5 _ rfl
      have x6 : wr.cell? ⟨g, o + k * 11 + 6, none⟩ = some (.int .i64 da) := ra 6 _ rfl
      have x7 : wr.cell? ⟨g, o + k * 11 + 7, none⟩ = some (.int .i64 ti) := ra 7 _ rfl
      have x8 : wr.cell? ⟨g, o + k * 11 + 8, none⟩ = some (.int .i64 re) := ra 8 _ rfl
      have x9 : wr.cell? ⟨g, o + k * 11 + 9, none⟩ = some (.int .i64 save) := ra 9 _ rfl
      have x10 : wr.cell? ⟨g, o + k * 11 + 10, none⟩ = some (.string le) := ra 10 _ rfl
      clear ca ra hxx
      obtain ⟨sp, hsp⟩ : ∃ sp : Sp, sp = ⟨mo, ki, wd, da, ti, re⟩ := ⟨_, rfl⟩
      replace SR := Lib.hid (fun W => (show Calls Tryd.prog 29 #[.agg #[.int .i64 mo, .int .i64 ki, .int .i64 wd, .int .i64 da, .int .i64 ti, .int .i64 re]] W (RetV W (.bool (decide sp.ok))) from by rw [hsp]; exact SR.out W))
      rw [← hsp] at STEP BAD
      clear hsp
      go_upto_region 5 with (fail)
      have KB := blk_lit wr 33 [.string nm, .int .i64 fr, .int .i64 last, .int .i64 mo, .int .i64 ki, .int .i64 wd, .int .i64 da, .int .i64 ti, .int .i64 re, .int .i64 save, .string le]
      have hb := below_thru hbel (below_box wr (.cells #[.string nm, .int .i64 fr, .int .i64 last, .int .i64 mo, .int .i64 ki, .int .i64 wd, .int .i64 da, .int .i64 ti, .int .i64 re, .int .i64 save, .string le] 33))
      rw [show ([.string nm, .int .i64 fr, .int .i64 last, .int .i64 mo, .int .i64 ki, .int .i64 wd, .int .i64 da, .int .i64 ti, .int .i64 re, .int .i64 save, .string le] : List Value).toArray = #[.string nm, .int .i64 fr, .int .i64 last, .int .i64 mo, .int .i64 ki, .int .i64 wd, .int .i64 da, .int .i64 ti, .int .i64 re, .int .i64 save, .string le] from rfl] at KB
      generalize wr.alloc (.cells #[.string nm, .int .i64 fr, .int .i64 last, .int .i64 mo, .int .i64 ki, .int .i64 wd, .int .i64 da, .int .i64 ti, .int .i64 re, .int .i64 save, .string le] 33) = W at *
      generalize wr.heap.size = bb at *
      clear x0 x1 x2 x3 x4 x5 x6 x7 x8 x9 x10 hg hbel
      obtain ⟨y0, y1, y2, y3, y4, y5, y6, y7, y8, y9, y10⟩ := KB.elevenC
      by_cases h1 : fr < 1
      · have d1 : decide (fr < 1) = true := decide_eq_true h1
        clear SR
        have EN := Lib.hid (show fitB L = false from BAD.out (fun c => by have := c.1.1; simp only at this; omega))
        clear BAD STEP
        go_wp2
        go_ret
        exact ⟨by rw [EN.out]; rfl, hb⟩
      have d1 : decide (fr < 1) = false := decide_eq_false h1
      by_cases h2 : 9999 < fr
      · have d2 : decide (9999 < fr) = true := decide_eq_true h2
        clear SR
        have EN := Lib.hid (show fitB L = false from BAD.out (fun c => by have := c.1.2; simp only at this; omega))
        clear BAD STEP
        go_wp2
        go_ret
        exact ⟨by rw [EN.out]; rfl, hb⟩
      have d2 : decide (9999 < fr) = false := decide_eq_false h2
      by_cases h3 : last < 1
      · have d3 : decide (last < 1) = true := decide_eq_true h3
        clear SR
        have EN := Lib.hid (show fitB L = false from BAD.out (fun c => by have := c.2.1.1; simp only at this; omega))
        clear BAD STEP
        go_wp2
        go_ret
        exact ⟨by rw [EN.out]; rfl, hb⟩
      have d3 : decide (last < 1) = false := decide_eq_false h3
      by_cases h8 : 9999 < last
      · have d8 : decide (9999 < last) = true := decide_eq_true h8
        by_cases h9 : last = 1000000
        · have d9 : (last != 1000000) = false := by simp [h9]
          by_cases h5 : sp.ok
          · rw [decide_eq_true h5] at SR
            by_cases h6 : 43200 < save
            · have d6 : decide (43200 < save) = true := decide_eq_true h6
              have EN := Lib.hid (show fitB L = false from BAD.out (fun c => by have := c.2.2.2.2; simp only at this; omega))
              clear BAD STEP
              go_wp2_with (go_at_call 29; refine (SR.out _).mono ?_; clear SR; rintro e W9 ⟨rfl, hk⟩; replace hb := below_thru hb hk; replace KB := KB.below hk; clear hk y0 y1 y2 y3 y4 y5 y6 y7 y8 y9 y10; obtain ⟨y0, y1, y2, y3, y4, y5, y6, y7, y8, y9, y10⟩ := KB.elevenC)
              try go_wp2
              go_ret
              exact ⟨by rw [EN.out]; rfl, hb⟩
            have d6 : decide (43200 < save) = false := decide_eq_false h6
            by_cases h7 : save < -43200
            · have d7 : decide (save < -43200) = true := decide_eq_true h7
              have EN := Lib.hid (show fitB L = false from BAD.out (fun c => by have := c.2.2.2.1; simp only at this; omega))
              clear BAD STEP
              go_wp2_with (go_at_call 29; refine (SR.out _).mono ?_; clear SR; rintro e W9 ⟨rfl, hk⟩; replace hb := below_thru hb hk; replace KB := KB.below hk; clear hk y0 y1 y2 y3 y4 y5 y6 y7 y8 y9 y10; obtain ⟨y0, y1, y2, y3, y4, y5, y6, y7, y8, y9, y10⟩ := KB.elevenC)
              try go_wp2
              go_ret
              exact ⟨by rw [EN.out]; rfl, hb⟩
            have d7 : decide (save < -43200) = false := decide_eq_false h7
            have ST := Lib.hid (STEP.out ⟨⟨by show 1 ≤ fr; omega, by show fr ≤ 9999; omega⟩, ⟨by show 1 ≤ last; omega, by show last ≤ 9999 ∨ last = 1000000; omega⟩, h5, by show -43200 ≤ save; omega, by show save ≤ 43200; omega⟩)
            clear BAD STEP h5
            go_wp2_with (go_at_call 29; refine (SR.out _).mono ?_; clear SR; rintro e W9 ⟨rfl, hk⟩; replace hb := below_thru hb hk; replace KB := KB.below hk; clear hk y0 y1 y2 y3 y4 y5 y6 y7 y8 y9 y10; obtain ⟨y0, y1, y2, y3, y4, y5, y6, y7, y8, y9, y10⟩ := KB.elevenC)
            try go_wp2
            go_roundw
            case rel => exact ⟨k + 1, by omega, int_eqS (by omega), ST.out, hb⟩
            case measure => simp only [intOf]; omega
          · rw [decide_eq_false h5] at SR
            have EN := Lib.hid (show fitB L = false from BAD.out (fun c => h5 c.2.2.1))
            clear BAD STEP
            go_wp2_with (go_at_call 29; refine (SR.out _).mono ?_; clear SR; rintro e W9 ⟨rfl, hk⟩; replace hb := below_thru hb hk; replace KB := KB.below hk; clear hk y0 y1 y2 y3 y4 y5 y6 y7 y8 y9 y10; obtain ⟨y0, y1, y2, y3, y4, y5, y6, y7, y8, y9, y10⟩ := KB.elevenC)
            try go_wp2
            go_ret
            exact ⟨by rw [EN.out]; rfl, hb⟩
        · have d9 : (last != 1000000) = true := by simp [h9]
          clear SR
          have EN := Lib.hid (show fitB L = false from BAD.out (fun c => by have := c.2.1.2; simp only at this; omega))
          clear BAD STEP
          go_wp2
          go_ret
          exact ⟨by rw [EN.out]; rfl, hb⟩
      · have d8 : decide (9999 < last) = false := decide_eq_false h8
        by_cases h5 : sp.ok
        · rw [decide_eq_true h5] at SR
          by_cases h6 : 43200 < save
          · have d6 : decide (43200 < save) = true := decide_eq_true h6
            have EN := Lib.hid (show fitB L = false from BAD.out (fun c => by have := c.2.2.2.2; simp only at this; omega))
            clear BAD STEP
            go_wp2_with (go_at_call 29; refine (SR.out _).mono ?_; clear SR; rintro e W9 ⟨rfl, hk⟩; replace hb := below_thru hb hk; replace KB := KB.below hk; clear hk y0 y1 y2 y3 y4 y5 y6 y7 y8 y9 y10; obtain ⟨y0, y1, y2, y3, y4, y5, y6, y7, y8, y9, y10⟩ := KB.elevenC)
            try go_wp2
            go_ret
            exact ⟨by rw [EN.out]; rfl, hb⟩
          have d6 : decide (43200 < save) = false := decide_eq_false h6
          by_cases h7 : save < -43200
          · have d7 : decide (save < -43200) = true := decide_eq_true h7
            have EN := Lib.hid (show fitB L = false from BAD.out (fun c => by have := c.2.2.2.1; simp only at this; omega))
            clear BAD STEP
            go_wp2_with (go_at_call 29; refine (SR.out _).mono ?_; clear SR; rintro e W9 ⟨rfl, hk⟩; replace hb := below_thru hb hk; replace KB := KB.below hk; clear hk y0 y1 y2 y3 y4 y5 y6 y7 y8 y9 y10; obtain ⟨y0, y1, y2, y3, y4, y5, y6, y7, y8, y9, y10⟩ := KB.elevenC)
            try go_wp2
            go_ret
            exact ⟨by rw [EN.out]; rfl, hb⟩
          have d7 : decide (save < -43200) = false := decide_eq_false h7
          have ST := Lib.hid (STEP.out ⟨⟨by show 1 ≤ fr; omega, by show fr ≤ 9999; omega⟩, ⟨by show 1 ≤ last; omega, by show last ≤ 9999 ∨ last = 1000000; omega⟩, h5, by show -43200 ≤ save; omega, by show save ≤ 43200; omega⟩)
          clear BAD STEP h5
          go_wp2_with (go_at_call 29; refine (SR.out _).mono ?_; clear SR; rintro e W9 ⟨rfl, hk⟩; replace hb := below_thru hb hk; replace KB := KB.below hk; clear hk y0 y1 y2 y3 y4 y5 y6 y7 y8 y9 y10; obtain ⟨y0, y1, y2, y3, y4, y5, y6, y7, y8, y9, y10⟩ := KB.elevenC)
          try go_wp2
          go_roundw
          case rel => exact ⟨k + 1, by omega, int_eqS (by omega), ST.out, hb⟩
          case measure => simp only [intOf]; omega
        · rw [decide_eq_false h5] at SR
          have EN := Lib.hid (show fitB L = false from BAD.out (fun c => h5 c.2.2.1))
          clear BAD STEP
          go_wp2_with (go_at_call 29; refine (SR.out _).mono ?_; clear SR; rintro e W9 ⟨rfl, hk⟩; replace hb := below_thru hb hk; replace KB := KB.below hk; clear hk y0 y1 y2 y3 y4 y5 y6 y7 y8 y9 y10; obtain ⟨y0, y1, y2, y3, y4, y5, y6, y7, y8, y9, y10⟩ := KB.elevenC)
          try go_wp2
          go_ret
          exact ⟨by rw [EN.out]; rfl, hb⟩
    · obtain rfl : k = n := by omega
      have Y := Lib.hid (show fitB L = true from fit_yes.2 fun x hx => by
        obtain ⟨j, hj⟩ := List.getElem?_of_mem hx
        exact HR.out j x (by rw [← LN.out]; exact (List.getElem?_eq_some_iff.1 hj).1) hj)
      go_wp2
      go_ret
      exact ⟨by rw [Y.out]; rfl, hbel⟩
def nextO (x : Rl) (b : Option Tn) : Option Int → Option Tn
  | none => b
  | some y => match b with
    | none => some (turnT x y)
    | some t => if t.at_ ≤ (turnT x y).at_ then some (turnT x y) else some t
theorem nextO_up {x : Rl} {b : Tn} {y : Int} (h : b.at_ ≤ (turnT x y).at_) : nextO x (some b) (some y) = some (turnT x y) := if_pos h
theorem nextO_old {x : Rl} {b : Tn} {y : Int} (h : ¬ b.at_ ≤ (turnT x y).at_) : nextO x (some b) (some y) = some b := if_neg h
theorem latest_next {L : List Rl} {P : Tn → Prop} {k : Nat} {x : Rl} (hx : L[k]? = some x) {b : Option Tn} (h : Latest (L.take k) P b) (r : Option Int) (hr : LatestOf x P r) : Latest (L.take (k + 1)) P (nextO x b r) := by
  have := h.next hx hr
  cases r <;> cases b <;> exact this
structure AhW (w : World) (b : List Value) (X : World) : Prop where
  hb : Below w.heap.size w X
  k0 : Blk X w.heap.size Tn.zero.vals
  k1 : Blk X (w.heap.size + 1) b
theorem AhW.below {w : World} {b : List Value} {X X' : World} (h : AhW w b X) (k : Below X.heap.size X X') : AhW w b X' := ⟨below_thru h.hb k, h.k0.below k, h.k1.below k⟩
theorem AhW.alloc {w : World} {b : List Value} {X : World} (h : AhW w b X) (o : Obj) : AhW w b (X.alloc o) := h.below (below_box X o)
theorem AhW.drew {w : World} {b : List Value} {X : World} (h : AhW w b X) : AhW w b X.drew := h.below (Below.refl _ _).drew
theorem AhW.at_ {w : World} {b : List Value} {X : World} (h : AhW w b X) {g q : Nat} {v : Value} (hg : g < w.heap.size) (r : w.cell? ⟨g, q, none⟩ = some v) : X.cell? ⟨g, q, none⟩ = some v := (h.hb.cell (p := ⟨g, q, none⟩) hg).trans r
theorem AhW.store {w : World} {u v x y : Value} {X : World} (h : AhW w [u, v, x, y] X) (u' v' x' y' : Value) : AhW w [u', v', x', y'] ((((X.setCell ⟨w.heap.size + 1, 0, none⟩ u').setCell ⟨w.heap.size + 1, 1, none⟩ v').setCell ⟨w.heap.size + 1, 2, none⟩ x').setCell ⟨w.heap.size + 1, 3, none⟩ y') :=
  ⟨(((h.hb.setCell (p := ⟨w.heap.size + 1, 0, none⟩) (by show _ ≤ w.heap.size + 1; omega) u').setCell (p := ⟨w.heap.size + 1, 1, none⟩) (by show _ ≤ w.heap.size + 1; omega) v').setCell (p := ⟨w.heap.size + 1, 2, none⟩) (by show _ ≤ w.heap.size + 1; omega) x').setCell (p := ⟨w.heap.size + 1, 3, none⟩) (by show _ ≤ w.heap.size + 1; omega) y',
    (((h.k0.far (by omega) 0 u').far (by omega) 1 v').far (by omega) 2 x').far (by omega) 3 y', h.k1.self4 u' v' x' y'⟩
structure FoW (w : World) (q : Nat) (b : List Value) (X : World) : Prop where
  hb : Below w.heap.size w X
  le : w.heap.size ≤ q
  k1 : Blk X q b
theorem FoW.below {w : World} {q : Nat} {b : List Value} {X X' : World} (h : FoW w q b X) (k : Below X.heap.size X X') : FoW w q b X' := ⟨below_thru h.hb k, h.le, h.k1.below k⟩
theorem FoW.alloc {w : World} {q : Nat} {b : List Value} {X : World} (h : FoW w q b X) (o : Obj) : FoW w q b (X.alloc o) := h.below (below_box X o)
theorem FoW.drew {w : World} {q : Nat} {b : List Value} {X : World} (h : FoW w q b X) : FoW w q b X.drew := h.below (Below.refl _ _).drew
theorem FoW.at_ {w : World} {p : Nat} {b : List Value} {X : World} (h : FoW w p b X) {g q : Nat} {v : Value} (hg : g < w.heap.size) (r : w.cell? ⟨g, q, none⟩ = some v) : X.cell? ⟨g, q, none⟩ = some v := (h.hb.cell (p := ⟨g, q, none⟩) hg).trans r
theorem FoW.store {w : World} {q : Nat} {u v x y : Value} {X : World} (h : FoW w q [u, v, x, y] X) (u' v' x' y' : Value) : FoW w q [u', v', x', y'] ((((X.setCell ⟨q, 0, none⟩ u').setCell ⟨q, 1, none⟩ v').setCell ⟨q, 2, none⟩ x').setCell ⟨q, 3, none⟩ y') :=
  ⟨(((h.hb.setCell (p := ⟨q, 0, none⟩) h.le u').setCell (p := ⟨q, 1, none⟩) h.le v').setCell (p := ⟨q, 2, none⟩) h.le x').setCell (p := ⟨q, 3, none⟩) h.le y', h.le, h.k1.self4 u' v' x' y'⟩
theorem FoW.far {w : World} {q r : Nat} {b : List Value} {X : World} (h : FoW w q b X) (ne : r ≠ q) (le : w.heap.size ≤ r) (u' v' x' y' : Value) : FoW w q b ((((X.setCell ⟨r, 0, none⟩ u').setCell ⟨r, 1, none⟩ v').setCell ⟨r, 2, none⟩ x').setCell ⟨r, 3, none⟩ y') :=
  ⟨(((h.hb.setCell (p := ⟨r, 0, none⟩) le u').setCell (p := ⟨r, 1, none⟩) le v').setCell (p := ⟨r, 2, none⟩) le x').setCell (p := ⟨r, 3, none⟩) le y', h.le, (((h.k1.far ne 0 u').far ne 1 v').far ne 2 x').far ne 3 y'⟩
instance : DecidableEq Tn := fun a b => if h : a.at_ = b.at_ ∧ a.re = b.re ∧ a.save = b.save ∧ a.letter = b.letter then isTrue (Tn.ext' h.1 h.2.1 h.2.2.1 h.2.2.2) else isFalse (fun c => h (by subst c; exact ⟨rfl, rfl, rfl, rfl⟩))
theorem bytes_beqT (t u : ByteArray) : (t == u) = decide (t = u) := by
  cases t with | mk a =>
  cases u with | mk b =>
  show (a == b) = _
  by_cases h : a = b
  · rw [decide_eq_true (by rw [h])]; exact beq_iff_eq.2 h
  · rw [decide_eq_false (by intro c; exact h (ByteArray.mk.inj c))]; exact beq_eq_false_iff_ne.2 h
abbrev TnV (w : World) (A : Option Addr) (n c : Nat) (l : List Tn) : Prop := Rs 4 w A n c (l.map Tn.vals)
theorem sameDR (l m : List Tn) (A B : Option Addr) (n c n' c' : Nat) (w : World) (ha : TnV w A n c l) (hb : TnV w B n' c' m) : Calls Tryd.prog 13 #[.slice A n c, .slice B n' c'] w (RetV w (.bool (decide (l = m)))) := by
  have mx : n ≤ 9223372036854775807 := Nat.le_trans ha.cap ha.max
  have mx' : n' ≤ 9223372036854775807 := Nat.le_trans hb.cap hb.max
  have LN := Lib.hid (show l.length = n by have := ha.len; simpa using this)
  have LM := Lib.hid (show m.length = n' by have := hb.len; simpa using this)
  have HA := Lib.hid ha
  have HB := Lib.hid hb
  clear ha hb
  by_cases e : n = n'
  · subst e
    have d0 : ((n : Int) != (n : Int)) = false := by simp
    go_enter Tryd.func13, Tryd.ntmps13
    go_wp2_with fail
    go_loopw [5] (fun v5 wr => ∃ k : Nat, k ≤ n ∧ v5 = .int .i64 k ∧ (∀ j, j < k → l[j]? = m[j]?) ∧ Below w.heap.size w wr) (fun v _ => n - (intOf v).toNat)
    case atStart => exact ⟨0, by omega, rfl, fun j h => absurd h (by omega), Below.refl _ _⟩
    case round =>
      obtain ⟨k, hk, rfl, hR, hbel⟩ := hrel
      have HR := Lib.hid hR
      clear hR
      by_cases h4 : k < n
      · obtain ⟨t, ht⟩ : ∃ x, l[k]? = some x := ⟨_, List.getElem?_eq_getElem (by rw [LN.out]; exact h4)⟩
        obtain ⟨u, hu⟩ : ∃ x, m[k]? = some x := ⟨_, List.getElem?_eq_getElem (by rw [LM.out]; exact h4)⟩
        obtain ⟨g, o, ea0, hg, ca⟩ := (HA.out.below hbel).cells (by omega)
        obtain ⟨g', o', eb0, hg', cb⟩ := (HB.out.below hbel).cells (by omega)
        subst ea0 eb0
        have ra := row_at ca (show (l.map Tn.vals)[k]? = some (Tn.vals t) by rw [List.getElem?_map, ht]; rfl)
        have rb := row_at cb (show (m.map Tn.vals)[k]? = some (Tn.vals u) by rw [List.getElem?_map, hu]; rfl)
        have STEP := Lib.hid (show t = u → ∀ j, j < k + 1 → l[j]? = m[j]? from fun h j hj => by
          by_cases e : j = k
          · subst e; rw [ht, hu, h]
          · exact HR.out j (by omega))
        have BAD := Lib.hid (show t ≠ u → l ≠ m from fun h c => h (by rw [c, hu] at ht; exact (Option.some.inj ht).symm))
        obtain ⟨ta, tr, ts, tl⟩ := t
        obtain ⟨ua, ur, us, ul⟩ := u
        have x0 : wr.cell? ⟨g, o + k * 4, none⟩ = some (.int .i64 ta) := ra 0 _ rfl
        have x1 : wr.cell? ⟨g, o + k * 4 + 1, none⟩ = some (.int .i64 tr) := ra 1 _ rfl
        have x2 : wr.cell? ⟨g, o + k * 4 + 2, none⟩ = some (.int .i64 ts) := ra 2 _ rfl
        have x3 : wr.cell? ⟨g, o + k * 4 + 3, none⟩ = some (.string tl) := ra 3 _ rfl
        have y0 : wr.cell? ⟨g', o' + k * 4, none⟩ = some (.int .i64 ua) := rb 0 _ rfl
        have y1 : wr.cell? ⟨g', o' + k * 4 + 1, none⟩ = some (.int .i64 ur) := rb 1 _ rfl
        have y2 : wr.cell? ⟨g', o' + k * 4 + 2, none⟩ = some (.int .i64 us) := rb 2 _ rfl
        have y3 : wr.cell? ⟨g', o' + k * 4 + 3, none⟩ = some (.string ul) := rb 3 _ rfl
        clear ca cb ra rb ht hu
        have b0 : (0 : Int) ≤ (k : Int) := by omega
        have b1 : (k : Int) < (n : Int) := by omega
        by_cases e1 : ta = ua
        rotate_left
        · have f1 : (ta == ua) = false := beq_false_of_ne e1
          have f2 : decide (ta = ua) = false := decide_eq_false e1
          have EN := Lib.hid (show decide (l = m) = false from decide_eq_false (BAD.out (fun c => e1 (by cases c; rfl))))
          clear BAD STEP
          go_wp2_with fail
          go_quiet (fail)
          rename_i nq
          go_wp2
          go_ret
          exact ⟨by rw [EN.out]; rfl, below_drewN hbel _⟩
        by_cases e2 : tr = ur
        rotate_left
        · have f1 : (tr == ur) = false := beq_false_of_ne e2
          have f2 : decide (tr = ur) = false := decide_eq_false e2
          have EN := Lib.hid (show decide (l = m) = false from decide_eq_false (BAD.out (fun c => e2 (by cases c; rfl))))
          clear BAD STEP
          go_wp2_with fail
          go_quiet (fail)
          rename_i nq
          go_wp2
          go_ret
          exact ⟨by rw [EN.out]; rfl, below_drewN hbel _⟩
        by_cases e3 : ts = us
        rotate_left
        · have f1 : (ts == us) = false := beq_false_of_ne e3
          have f2 : decide (ts = us) = false := decide_eq_false e3
          have EN := Lib.hid (show decide (l = m) = false from decide_eq_false (BAD.out (fun c => e3 (by cases c; rfl))))
          clear BAD STEP
          go_wp2_with fail
          go_quiet (fail)
          rename_i nq
          go_wp2
          go_ret
          exact ⟨by rw [EN.out]; rfl, below_drewN hbel _⟩
        by_cases e4 : tl = ul
        rotate_left
        · have f1 : (tl == ul) = false := by rw [bytes_beqT]; exact decide_eq_false e4
          have f3 : (tl.toList == ul.toList) = false := by rw [Lib.bytes_beq_false_iff]; exact e4
          have f2 : decide (tl = ul) = false := decide_eq_false e4
          have EN := Lib.hid (show decide (l = m) = false from decide_eq_false (BAD.out (fun c => e4 (by cases c; rfl))))
          clear BAD STEP
          go_wp2_with fail
          go_quiet (fail)
          rename_i nq
          go_wp2
          go_ret
          exact ⟨by rw [EN.out]; rfl, below_drewN hbel _⟩
        subst e1 e2 e3 e4
        have f1 : (tl == tl) = true := by rw [bytes_beqT]; exact decide_eq_true rfl
        have ST := Lib.hid (STEP.out rfl)
        clear BAD STEP
        go_wp2_with fail
        go_quiet (fail)
        rename_i nq
        go_wp2
        go_roundw
        case rel => exact ⟨k + 1, by omega, int_eqS (by omega), ST.out, below_drewN hbel _⟩
        case measure => simp only [intOf]; omega
      · obtain rfl : k = n := by omega
        have Y := Lib.hid (show decide (l = m) = true from decide_eq_true (List.ext_getElem? fun j => by
          by_cases h : j < k
          · exact HR.out j h
          · rw [List.getElem?_eq_none (by rw [LN.out]; omega), List.getElem?_eq_none (by rw [LM.out]; omega)]))
        go_wp2
        go_ret
        exact ⟨by rw [Y.out]; rfl, hbel⟩
  · have d0 : ((n : Int) != (n' : Int)) = true := by simp; omega
    have EN := Lib.hid (show decide (l = m) = false from decide_eq_false (fun h => e (by rw [← LN.out, ← LM.out, h])))
    go_enter Tryd.func13, Tryd.ntmps13
    go_wp2
    go_ret
    exact ⟨by rw [EN.out]; rfl, Below.refl _ _⟩
abbrev OwnT (w : World) (base : Nat) (v : Value) (l : List Tn) : Prop := w.ownsRow base 35 4 v l.length (l.flatMap Tn.vals)
theorem flat_len (l : List Tn) : (l.flatMap Tn.vals).length = l.length * 4 := by
  induction l with
  | nil => rfl
  | cons t r ih => rw [List.flatMap_cons, List.length_append, ih, List.length_cons]; show 4 + r.length * 4 = _; omega
theorem flat_at : ∀ {l : List Tn} {i : Nat} {t : Tn}, l[i]? = some t → ∀ j, j < 4 → (l.flatMap Tn.vals)[i * 4 + j]? = t.vals[j]?
  | [], i, t, h => by simp at h
  | a :: r, 0, t, h => fun j hj => by
    cases h
    rw [List.flatMap_cons, List.getElem?_append_left (by show 0 * 4 + j < 4; omega), Nat.zero_mul, Nat.zero_add]
  | a :: r, i + 1, t, h => fun j hj => by
    rw [List.flatMap_cons, List.getElem?_append_right (by show 4 ≤ (i + 1) * 4 + j; omega)]
    show (r.flatMap Tn.vals)[(i + 1) * 4 + j - 4]? = _
    rw [show (i + 1) * 4 + j - 4 = i * 4 + j by omega]
    exact flat_at (l := r) (by simpa using h) j hj
theorem OwnT.nil (w : World) (base : Nat) : OwnT w base (.slice none 0 0) [] := World.ownsRow_nil _ _ _ _
theorem OwnT.tnv {w : World} {base : Nat} {v : Value} {l : List Tn} (h : OwnT w base v l) : ∃ A c, v = .slice A l.length c ∧ TnV w A l.length c l ∧ (A = none → l = []) ∧ ∀ a, A = some a → ∃ g, a = ⟨g, 0, none⟩ := by
  have cs := fun g => World.ownsRow.cells (g := g) h
  have lt := World.ownsRow.lt h
  rcases h.2 with ⟨rfl, h0⟩ | ⟨g, cap, cur, rfl, hb, hg, hn, hm, hs, ht⟩
  · obtain rfl : l = [] := List.eq_nil_of_length_eq_zero h0
    exact ⟨none, 0, rfl, Rs.nil 4 w, fun _ => rfl, fun a e => by cases e⟩
  · refine ⟨some ⟨g, 0, none⟩, cap, rfl, ⟨by simp, hn, hm, fun _ => ⟨g, 0, rfl, (lt g rfl).2, fun i hi j u hu => ?_⟩⟩, fun e => (by cases e), fun a e => (by cases e; exact ⟨g, rfl⟩)⟩
    have hi' : i < l.length := by simpa using hi
    rw [List.getElem_map] at hu
    have hj : j < 4 := (List.getElem?_eq_some_iff.1 hu).1
    have := cs g rfl (i * 4 + j) u (by rw [flat_at (List.getElem?_eq_getElem hi') j hj]; exact hu)
    rw [addr_add, Nat.zero_add] at this
    rw [Nat.zero_add]
    exact this
theorem OwnT.kept {w w' : World} {base : Nat} {v : Value} {l : List Tn} (h : OwnT w base v l) (k : Below w.heap.size w w') : OwnT w' base v l :=
  World.ownsRow.kept h (below_own k) (by cases q : v.ownBlock with | none => exact .inl rfl | some k => exact .inr (by intro c; cases c))
theorem OwnT.piece {w : World} {base : Nat} {l : List Tn} {g n c : Nat} (h : OwnT w base (.slice (some ⟨g, 0, none⟩) n c) l) (k : Nat) : ∀ j u, ((l.drop k).flatMap Tn.vals)[j]? = some u → w.cell? ((⟨g, k * 4, none⟩ : Addr).add j) = some u := by
  intro j u hu
  have cs := World.ownsRow.cells (g := g) h rfl (k * 4 + j) u (by
    have e : l.flatMap Tn.vals = (l.take k).flatMap Tn.vals ++ (l.drop k).flatMap Tn.vals := by rw [← List.flatMap_append, List.take_append_drop]
    by_cases hk : k ≤ l.length
    · rw [e, List.getElem?_append_right (by rw [flat_len, List.length_take]; omega), flat_len, List.length_take, Nat.min_eq_left hk, Nat.add_sub_cancel_left]
      exact hu
    · rw [List.drop_eq_nil_of_le (by omega)] at hu
      simp at hu)
  rw [addr_add] at cs ⊢
  rw [Nat.zero_add] at cs
  exact cs
theorem OwnT.front {w : World} {base : Nat} {l : List Tn} {g n c : Nat} (h : OwnT w base (.slice (some ⟨g, 0, none⟩) n c) l) (k : Nat) : ∀ j u, ((l.take k).flatMap Tn.vals)[j]? = some u → w.cell? ((⟨g, 0, none⟩ : Addr).add j) = some u := by
  intro j u hu
  refine World.ownsRow.cells (g := g) h rfl j u ?_
  have e : l.flatMap Tn.vals = (l.take k).flatMap Tn.vals ++ (l.drop k).flatMap Tn.vals := by rw [← List.flatMap_append, List.take_append_drop]
  rw [e, List.getElem?_append_left (List.getElem?_eq_some_iff.1 hu).1]
  exact hu
theorem info_partsT {T : TypeId} {z : Value} {s b : Nat} (h : (Tryd.prog.info? T).map (fun i => (i.zero, i.size, i.bytes)) = some (some z, s, b)) : ∃ i, Tryd.prog.info? T = some i ∧ i.zero = some z ∧ i.size = s ∧ i.bytes = b := by
  cases hi : Tryd.prog.info? T with
  | none => simp [hi] at h
  | some i => simp [hi] at h; exact ⟨i, rfl, h.1, h.2.1, h.2.2⟩
theorem turn_info : (Tryd.prog.info? 35).map (fun i => (i.zero, i.size, i.bytes)) = some (some (.agg #[.int .i64 0, .int .i64 0, .int .i64 0, .string ⟨#[]⟩]), 4, 40) := by kernel_rfl
theorem turns_one_cell (l : List Tn) : ∀ u ∈ l.flatMap Tn.vals, u.oneCell' = true := fun u hu => by
  obtain ⟨t, _, h⟩ := List.mem_flatMap.1 hu
  simp only [Tn.vals, List.mem_cons, List.not_mem_nil, or_false] at h
  rcases h with rfl | rfl | rfl | rfl <;> rfl
theorem wpList_app4 (w : World) {ops : Array Oper} {rest : List Oper} {o : Oper} {a : Act} {Q : Exit → Act → World → Prop} (hgd : o.guard = none) (s x : Operand)
    (ho : o.op = .call { callee := .builtin .append, args := #[s, x], argTypes := #[24, 24] })
    (base : Nat) (v : Value) (l r : List Tn) (hs : a.eval s = v) (hown : OwnT w base v l) (ad : Addr) (m c : Nat) (hx : a.eval x = .slice (some ad) m c) (hm : r.length = m)
    (hnews : ∀ j u, (r.flatMap Tn.vals)[j]? = some u → w.cell? (ad.add j) = some u) (hle : l.length + m ≤ 1000) (hbase : base ≤ w.heap.size)
    (h : ∀ v' w', OwnT w' base v' (l ++ r) → w.grownBy w' v.ownBlock → wpList Tryd.prog ops Q rest (a.put o.dst v') w') : wpList Tryd.prog ops Q (o :: rest) a w := by
  obtain ⟨i, hi, hz, hs1, hb⟩ := info_partsT turn_info
  subst hm
  refine wpList_append_own w hgd s x 24 ho base 35 i _ 4 40 Tryd.underlying24 hi hz hs1 hb rfl (by decide) v l.length (l.flatMap Tn.vals) hs hown ad r.length c (r.flatMap Tn.vals) hx (flat_len r) hnews (turns_one_cell r) (by unfold maxLen; omega) (by omega) hbase fun v' w' h1 h2 _ => ?_
  refine h v' w' ?_ h2
  rw [← List.flatMap_append, ← List.length_append] at h1
  exact h1
theorem turns_step {L : List Rl} {k : Nat} {x : Rl} (hx : L[k]? = some x) (y : Int) (l : List Tn) : turnsGo y (L.drop k) l = turnsGo y (L.drop (k + 1)) (if turnIn x y then insT (turnT x y) l else l) := by
  obtain ⟨h, e⟩ := List.getElem?_eq_some_iff.1 hx
  rw [List.drop_eq_getElem_cons h, e]
  rfl
theorem own_base {w : World} {a b : Nat} {v : Value} {l : List Tn} (h : OwnT w b v l) (le : a ≤ b) : OwnT w a v l :=
  ⟨h.1, h.2.imp id fun ⟨g, cap, cur, e, hb, r⟩ => ⟨g, cap, cur, e, Nat.le_trans le hb, r⟩⟩
theorem cut_up {t u : Tn} {l : List Tn} {k : Nat} (hu : l[k]? = some u) (h : t.at_ < u.at_) : cutK t l (k + 1) = cutK t l k := by
  unfold cutK
  rw [List.getD_eq_getElem?_getD, hu, if_pos (show t.at_ < ((some u).getD Tn.zero).at_ from h)]
  cases k <;> rfl
theorem cut_here {t u : Tn} {l : List Tn} {k : Nat} (hu : l[k]? = some u) (h : ¬ t.at_ < u.at_) : cutK t l (k + 1) = k + 1 := by
  unfold cutK
  rw [List.getD_eq_getElem?_getD, hu, if_neg (show ¬ t.at_ < ((some u).getD Tn.zero).at_ from h)]
theorem insT_len (t : Tn) (l : List Tn) : (insT t l).length = l.length + 1 := (insT_perm t l).length_eq
theorem grown_none {w w' : World} {row : Option Nat} (h : w.grownBy w' row) (e : row = none) : Below w.heap.size w w' := ⟨h.os, h.tape, h.output, h.size, fun k hk => h.block k hk (by rw [e]; intro c; cases c)⟩
structure TuW (w : World) (q : Nat) (t : List Value) (v : Value) (l : List Tn) (X : World) : Prop where
  hb : Below w.heap.size w X
  k1 : Blk X q t
  own : OwnT X w.heap.size v l
theorem TuW.below {w : World} {q : Nat} {t : List Value} {v : Value} {l : List Tn} {X X' : World} (h : TuW w q t v l X) (k : Below X.heap.size X X') : TuW w q t v l X' := ⟨below_thru h.hb k, h.k1.below k, h.own.kept k⟩
theorem TuW.grown {w : World} {q : Nat} {t : List Value} {v : Value} {l : List Tn} {X X' : World} {row : Option Nat} {b : Nat} (h : TuW w q t v l X) (G : X.grownBy X' row) (hr : ∀ r, row = some r → b ≤ r) (hq : q < b) (hw : w.heap.size ≤ b) (hv : ∀ r, v.ownBlock = some r → r < b) : TuW w q t v l X' :=
  ⟨h.hb.grown G h.hb.size (fun k e => Nat.le_trans hw (hr k e)), blk_grown G (fun r e => by have := hr r e; omega) h.k1,
    World.ownsRow.kept h.own G (by
      cases e : v.ownBlock with
      | none => exact .inl rfl
      | some r => exact .inr (fun c => by have := hr r c.symm; have := hv r e; omega))⟩
theorem turnsOR (L : List Rl) (y : Int) (A : Option Addr) (n c : Nat) (w : World) (hm : RulV w A n c L) (small : n ≤ 100) : Calls Tryd.prog 14 #[.slice A n c, .int .i64 y] w (fun e w' => ∃ v, e = .returned v ∧ OwnT w' w.heap.size v (turnsL L y) ∧ Below w.heap.size w w') := by
  have LN := Lib.hid (show L.length = n by have := hm.len; simpa using this)
  have HA := Lib.hid hm
  clear hm
  go_enter Tryd.func14, Tryd.ntmps14
  go_wp2_with fail
  go_loopw [5, 6] (fun v5 v6 wr => ∃ (k : Nat) (v : Value) (l : List Tn), k ≤ n ∧ v5 = v ∧ v6 = .int .i64 k ∧ turnsL L y = turnsGo y (L.drop k) l ∧ l.length ≤ k ∧ OwnT wr w.heap.size v l ∧ Below w.heap.size w wr) (fun _ v _ => n - (intOf v).toNat)
  case atStart => exact ⟨0, _, [], by omega, rfl, rfl, rfl, by simp, OwnT.nil _ _, Below.refl _ _⟩
  case round =>
    obtain ⟨k, v, l, hk, rfl, rfl, hR, hl, HO, hbel⟩ := hrel
    have HR := Lib.hid hR
    clear hR
    by_cases h4 : k < n
    · obtain ⟨x, hxx⟩ : ∃ x, L[k]? = some x := ⟨_, List.getElem?_eq_getElem (by rw [LN.out]; exact h4)⟩
      obtain ⟨g, o, ea0, hg, ca⟩ := (HA.out.below hbel).cells (by omega)
      subst ea0
      have ra := row_at ca (show (L.map Rl.vals)[k]? = some (Rl.vals x) by rw [List.getElem?_map, hxx]; rfl)
      have HN := Lib.hid (HR.out.trans (turns_step hxx y l))
      have TR := Lib.hid (fun W => turnDR x y W)
      obtain ⟨X, hX⟩ : ∃ X, X = x := ⟨_, rfl⟩
      rw [← hX] at HN TR
      have HX := Lib.hid hX
      clear hX
      obtain ⟨nm, fr, last, ⟨mo, ki, wd, da, ti, re⟩, save, le⟩ := x
      have x0 : wr.cell? ⟨g, o + k * 11, none⟩ = some (.string nm) := ra 0 _ rfl
      have x1 : wr.cell? ⟨g, o + k * 11 + 1, none⟩ = some (.int .i64 fr) := ra 1 _ rfl
      have x2 : wr.cell? ⟨g, o + k * 11 + 2, none⟩ = some (.int .i64 last) := ra 2 _ rfl
      have x3 : wr.cell? ⟨g, o + k * 11 + 3, none⟩ = some (.int .i64 mo) := ra 3 _ rfl
      have x4 : wr.cell? ⟨g, o + k * 11 + 4, none⟩ = some (.int .i64 ki) := ra 4 _ rfl
      have x5 : wr.cell? ⟨g, o + k * 11 + 5, none⟩ = some (.int .i64 wd) := ra 5 _ rfl
      have x6 : wr.cell? ⟨g, o + k * 11 + 6, none⟩ = some (.int .i64 da) := ra 6 _ rfl
      have x7 : wr.cell? ⟨g, o + k * 11 + 7, none⟩ = some (.int .i64 ti) := ra 7 _ rfl
      have x8 : wr.cell? ⟨g, o + k * 11 + 8, none⟩ = some (.int .i64 re) := ra 8 _ rfl
      have x9 : wr.cell? ⟨g, o + k * 11 + 9, none⟩ = some (.int .i64 save) := ra 9 _ rfl
      have x10 : wr.cell? ⟨g, o + k * 11 + 10, none⟩ = some (.string le) := ra 10 _ rfl
      clear ca ra hxx
      have TC := Lib.hid (fun W => (show Calls Tryd.prog 31 #[.agg #[.string nm, .int .i64 fr, .int .i64 last, .int .i64 mo, .int .i64 ki, .int .i64 wd, .int .i64 da, .int .i64 ti, .int .i64 re, .int .i64 save, .string le], .int .i64 y] W (RetTB W (turnO X y)) from by rw [show (Value.agg #[.string nm, .int .i64 fr, .int .i64 last, .int .i64 mo, .int .i64 ki, .int .i64 wd, .int .i64 da, .int .i64 ti, .int .i64 re, .int .i64 save, .string le]) = X.val from by rw [HX.out]; rfl]; exact TR.out W))
      by_cases h6 : turnIn X y
      · rw [turnO_some h6] at TC
        obtain ⟨t, ht⟩ : ∃ t, t = turnT X y := ⟨_, rfl⟩
        rw [← ht] at TC
        have N2 := Lib.hid (show turnsL L y = turnsGo y (L.drop (k + 1)) (insT t l) from by have := HN.out; rw [if_pos h6, ← ht] at this; exact this)
        clear ht HN h6
        obtain ⟨ta, tr, ts, tl⟩ := t
        obtain ⟨A', c', e, T, nl, so⟩ := HO.tnv
        subst e
        have lc : l.length ≤ c' := T.cap
        have cm : c' ≤ 9223372036854775807 := T.max
        clear T
        replace TC := Lib.hid (fun W => (show Calls Tryd.prog 31 #[.agg #[.string nm, .int .i64 fr, .int .i64 last, .int .i64 mo, .int .i64 ki, .int .i64 wd, .int .i64 da, .int .i64 ti, .int .i64 re, .int .i64 save, .string le], .int .i64 y] W (fun e w' => e = .returned (.tuple #[.agg #[.int .i64 ta, .int .i64 tr, .int .i64 ts, .string tl], .bool true]) ∧ Below W.heap.size W w') from TC.out W))
        go_upto_region 6 with (go_at_call 31; refine (TC.out _).mono ?_; clear TC; rintro e W9 ⟨rfl, hk⟩; clear x0 x1 x2 x3 x4 x5 x6 x7 x8 x9 x10)
        have KT := Blk.new4 W9 (.int .i64 ta) (.int .i64 tr) (.int .i64 ts) (.string tl) 35
        have hb1 := below_box W9 (.cells #[.int .i64 ta, .int .i64 tr, .int .i64 ts, .string tl] 35)
        replace hbel := below_thru (below_thru hbel hk) hb1
        replace HO := (OwnT.kept HO hk).kept hb1
        generalize W9.alloc (.cells #[.int .i64 ta, .int .i64 tr, .int .i64 ts, .string tl] 35) = W1 at *
        generalize W9.heap.size = q at *
        clear hk hb1
        have HW : TuW w q [.int .i64 ta, .int .i64 tr, .int .i64 ts, .string tl] (.slice A' l.length c') l W1 := ⟨hbel, KT, HO⟩
        clear hbel KT HO
        go_wp2_with fail
        go_loopw [9] (fun v9 wr => ∃ j : Nat, j ≤ l.length ∧ v9 = .int .i64 j ∧ cutK ⟨ta, tr, ts, tl⟩ l l.length = cutK ⟨ta, tr, ts, tl⟩ l j ∧ TuW w q [.int .i64 ta, .int .i64 tr, .int .i64 ts, .string tl] (.slice A' l.length c') l wr) (fun v _ => (intOf v).toNat)
        case atStart => exact ⟨l.length, by omega, rfl, rfl, HW⟩
        case round =>
          clear HW
          obtain ⟨j, hj, rfl, hC, HW⟩ := hrel
          have HC := Lib.hid hC
          clear hC
          cases j with
          | zero =>
            cases A' with
            | none =>
              obtain rfl : l = [] := nl rfl
              obtain ⟨i, hi, _⟩ := info_partsT turn_info
              clear HC
              go_wp2_with fail
              go_quiet (fail)
              rename_i nq
              replace HW := HW.below (below_drewN (Below.refl _ _) nq)
              generalize wr.drewN nq = wr at *
              have hw0 := HW.hb.size
              obtain rfl : c' = 0 := by
                rcases HW.own.2 with ⟨e, _⟩ | ⟨_, _, _, e, _⟩
                · cases e; rfl
                · cases e
              go_upto_region 12 with (at_builtin; refine wpList_append_own_none rfl (.tmp 45) (.tmp 48) 24 rfl wr.heap.size 35 i 4 Tryd.underlying24 hi (.slice none 0 0) 0 [] rfl (World.ownsRow_nil _ _ _ _) rfl ?_)
              obtain ⟨_, q0, q1, q2, q3, _⟩ := HW.k1.four
              have KN := blk_news (Blk.new4 wr (.int .i64 ta) (.int .i64 tr) (.int .i64 ts) (.string tl) 35)
              have bx := below_box wr (.cells #[.int .i64 ta, .int .i64 tr, .int .i64 ts, .string tl] 35)
              go_upto_region 13 with (at_builtin; refine wpList_app4 _ rfl (.tmp 50) (.tmp 52) rfl wr.heap.size (.slice none 0 0) [] [⟨ta, tr, ts, tl⟩] rfl (OwnT.nil _ _) ⟨wr.heap.size, 0, none⟩ 1 1 rfl rfl (fun j u hu => KN j u hu) (by decide) bx.size ?_; intro v2 W2 O2 G2)
              have HW2 := (HW.below bx).below (grown_none G2 rfl)
              clear HW KN bx q0 q1 q2 q3 G2
              go_upto_region 14 with (at_builtin; refine wpList_append_own_none rfl (.tmp 54) (.tmp 57) 24 rfl wr.heap.size 35 i 4 Tryd.underlying24 hi v2 _ _ rfl O2 rfl ?_)
              have O4 : OwnT W2 w.heap.size v2 (insT ⟨ta, tr, ts, tl⟩ []) := own_base O2 hw0
              go_wp2
              go_roundw
              case rel => exact ⟨k + 1, _, _, by omega, rfl, int_eqS (by omega), N2.out, by rw [insT_len]; omega, O4, HW2.hb⟩
              case measure => simp only [intOf]; omega
            | some a0 =>
              obtain ⟨g', e⟩ := so a0 rfl
              subst e
              have EI := Lib.hid (show insT ⟨ta, tr, ts, tl⟩ l = l.take 0 ++ [⟨ta, tr, ts, tl⟩] ++ l.drop 0 from by unfold insT; rw [HC.out]; rfl)
              have jl : 0 ≤ l.length := by omega
              clear HC
              go_wp2_with fail
              go_quiet (fail)
              rename_i nq
              replace HW := HW.below (below_drewN (Below.refl _ _) nq)
              generalize wr.drewN nq = wr at *
              have hw0 := HW.hb.size
              have gl : ∀ r, (Value.slice (some ⟨g', 0, none⟩) l.length c').ownBlock = some r → r < wr.heap.size := fun r e => (World.ownsRow.lt HW.own r e).2
              have ql := HW.k1.lt
              go_upto_region 12 with (at_builtin; refine wpList_app4 _ rfl (.tmp 45) (.tmp 48) rfl wr.heap.size (.slice none 0 0) [] (l.take (0)) rfl (OwnT.nil _ _) ⟨g', 0, none⟩ (0) c' rfl (by rw [List.length_take]; omega) (OwnT.front HW.own (0)) (by show 0 + (0) ≤ 1000; omega) (Nat.le_refl _) ?_; intro v1 W1 O1 G1)
              have HW1 := HW.below (grown_none G1 rfl)
              have s1 := G1.size
              clear HW G1
              obtain ⟨_, q0, q1, q2, q3, _⟩ := HW1.k1.four
              have KN := blk_news (Blk.new4 W1 (.int .i64 ta) (.int .i64 tr) (.int .i64 ts) (.string tl) 35)
              have bx := below_box W1 (.cells #[.int .i64 ta, .int .i64 tr, .int .i64 ts, .string tl] 35)
              have lt1 := fun r e => (World.ownsRow.lt O1 r e).1
              go_upto_region 13 with (at_builtin; refine wpList_app4 _ rfl (.tmp 50) (.tmp 52) rfl wr.heap.size v1 _ [⟨ta, tr, ts, tl⟩] rfl (OwnT.kept O1 bx) ⟨W1.heap.size, 0, none⟩ 1 1 rfl rfl (fun j u hu => KN j u hu) (by rw [List.length_append, List.length_take]; show 0 + _ + 1 ≤ 1000; omega) (Nat.le_trans s1 bx.size) ?_; intro v2 W2 O2 G2)
              have HW2 := (HW1.below bx).grown G2 lt1 ql hw0 gl
              have s2 := Nat.le_trans (Nat.le_trans s1 bx.size) G2.size
              clear HW1 G2 KN bx lt1 q0 q1 q2 q3
              have lt2 := fun r e => (World.ownsRow.lt O2 r e).1
              by_cases hcap : c' = 0
              · subst hcap
                have e1 := Lib.hid (show l.drop (0) = [] from List.drop_eq_nil_of_le (by omega))
                go_upto_region 14 with (at_builtin; refine wpList_app4 _ rfl (.tmp 54) (.tmp 57) rfl wr.heap.size v2 _ (l.drop (0)) rfl O2 ⟨g', 0, none⟩ _ _ rfl (by rw [List.length_drop]; try omega) (fun jj uu hu => by rw [e1.out] at hu; simp at hu) (by rw [List.length_append, List.length_append, List.length_take]; show 0 + _ + 1 + _ ≤ 1000; omega) s2 ?_; intro v3 W3 O3 G3)
                have HW3 := HW2.grown G3 lt2 ql hw0 gl
                have O4 : OwnT W3 w.heap.size v3 (insT ⟨ta, tr, ts, tl⟩ l) := own_base (by rw [EI.out]; exact O3) hw0
                clear O1 O2 O3 HW2 G3
                go_wp2
                go_roundw
                case rel => exact ⟨k + 1, _, _, by omega, rfl, int_eqS (by omega), N2.out, by rw [insT_len]; omega, O4, HW3.hb⟩
                case measure => simp only [intOf]; omega
              · have hc2 : 0 < c' := by omega
                have hc3 : ¬ 0 = c' := by omega
                have hc4 : ¬ c' - (0) = 0 := by omega
                have hc5 : (c' == 0) = false := beq_false_of_ne hcap
                have hc6 : (c' - (0) == 0) = false := beq_false_of_ne hc4
                go_upto_region 14 with (at_builtin; refine wpList_app4 _ rfl (.tmp 54) (.tmp 57) rfl wr.heap.size v2 _ (l.drop (0)) rfl O2 ⟨g', (0) * 4, none⟩ (l.length - (0)) _ rfl (by rw [List.length_drop]) (OwnT.piece HW2.own (0)) (by rw [List.length_append, List.length_append, List.length_take]; show 0 + _ + 1 + _ ≤ 1000; omega) s2 ?_; intro v3 W3 O3 G3)
                have HW3 := HW2.grown G3 lt2 ql hw0 gl
                have O4 : OwnT W3 w.heap.size v3 (insT ⟨ta, tr, ts, tl⟩ l) := own_base (by rw [EI.out]; exact O3) hw0
                clear O1 O2 O3 HW2 G3
                go_wp2
                go_roundw
                case rel => exact ⟨k + 1, _, _, by omega, rfl, int_eqS (by omega), N2.out, by rw [insT_len]; omega, O4, HW3.hb⟩
                case measure => simp only [intOf]; omega
          | succ j =>
            obtain ⟨u, hu⟩ : ∃ u, l[j]? = some u := ⟨_, List.getElem?_eq_getElem (by omega)⟩
            obtain ⟨g', rfl⟩ : ∃ g', A' = some ⟨g', 0, none⟩ := by
              cases A' with
              | none => have := nl rfl; subst this; simp at hu
              | some a => obtain ⟨g', e⟩ := so a rfl; exact ⟨g', by rw [e]⟩
            have z0 : wr.cell? ⟨g', j * 4, none⟩ = some (.int .i64 u.at_) := by
              have := World.ownsRow.cells (g := g') HW.own rfl (j * 4 + 0) (.int .i64 u.at_) (by rw [flat_at hu 0 (by decide)]; rfl)
              rw [addr_add, Nat.zero_add] at this
              exact this
            obtain ⟨_, q0, _⟩ := HW.k1.four
            have hs : IntKind.i64.wrap (((j + 1 : Nat) : Int) - 1) = (j : Int) := by rw [IntWalk.i64_in _ (by omega)]; omega
            have b0 : (0 : Int) ≤ (j : Int) := by omega
            have b1 : (j : Int) < (l.length : Int) := by omega
            by_cases h7 : ta < u.at_
            · have d7 : decide (ta < u.at_) = true := decide_eq_true h7
              have d8 : decide ((0 : Int) < ((j + 1 : Nat) : Int)) = true := decide_eq_true (by omega)
              have C2 := Lib.hid (HC.out.trans (cut_up (t := ⟨ta, tr, ts, tl⟩) hu h7))
              clear HC
              go_wp2_with fail
              go_quiet (fail)
              rename_i nq
              go_wp2
              go_roundw
              case rel => exact ⟨j, by omega, by first | rfl | exact int_eqS (by omega), C2.out, HW.below (below_drewN (Below.refl _ _) _)⟩
              case measure => simp only [intOf]; omega
            · have d7 : decide (ta < u.at_) = false := decide_eq_false h7
              have d8 : decide ((0 : Int) < ((j + 1 : Nat) : Int)) = true := decide_eq_true (by omega)
              have EI := Lib.hid (show insT ⟨ta, tr, ts, tl⟩ l = l.take (j + 1) ++ [⟨ta, tr, ts, tl⟩] ++ l.drop (j + 1) from by unfold insT; rw [HC.out, cut_here (t := ⟨ta, tr, ts, tl⟩) hu h7])
              have jl : j + 1 ≤ l.length := by omega
              clear HC
              go_wp2_with fail
              go_quiet (fail)
              rename_i nq
              replace HW := HW.below (below_drewN (Below.refl _ _) nq)
              generalize wr.drewN nq = wr at *
              have hw0 := HW.hb.size
              have gl : ∀ r, (Value.slice (some ⟨g', 0, none⟩) l.length c').ownBlock = some r → r < wr.heap.size := fun r e => (World.ownsRow.lt HW.own r e).2
              have ql := HW.k1.lt
              go_upto_region 12 with (at_builtin; refine wpList_app4 _ rfl (.tmp 45) (.tmp 48) rfl wr.heap.size (.slice none 0 0) [] (l.take (j + 1)) rfl (OwnT.nil _ _) ⟨g', 0, none⟩ (j + 1) c' rfl (by rw [List.length_take]; omega) (OwnT.front HW.own (j + 1)) (by show 0 + (j + 1) ≤ 1000; omega) (Nat.le_refl _) ?_; intro v1 W1 O1 G1)
              have HW1 := HW.below (grown_none G1 rfl)
              have s1 := G1.size
              clear HW G1
              obtain ⟨_, q0, q1, q2, q3, _⟩ := HW1.k1.four
              have KN := blk_news (Blk.new4 W1 (.int .i64 ta) (.int .i64 tr) (.int .i64 ts) (.string tl) 35)
              have bx := below_box W1 (.cells #[.int .i64 ta, .int .i64 tr, .int .i64 ts, .string tl] 35)
              have lt1 := fun r e => (World.ownsRow.lt O1 r e).1
              go_upto_region 13 with (at_builtin; refine wpList_app4 _ rfl (.tmp 50) (.tmp 52) rfl wr.heap.size v1 _ [⟨ta, tr, ts, tl⟩] rfl (OwnT.kept O1 bx) ⟨W1.heap.size, 0, none⟩ 1 1 rfl rfl (fun j u hu => KN j u hu) (by rw [List.length_append, List.length_take]; show 0 + _ + 1 ≤ 1000; omega) (Nat.le_trans s1 bx.size) ?_; intro v2 W2 O2 G2)
              have HW2 := (HW1.below bx).grown G2 lt1 ql hw0 gl
              have s2 := Nat.le_trans (Nat.le_trans s1 bx.size) G2.size
              clear HW1 G2 KN bx lt1 q0 q1 q2 q3
              have lt2 := fun r e => (World.ownsRow.lt O2 r e).1
              by_cases hcap : c' = j + 1
              · subst hcap
                have e1 := Lib.hid (show l.drop (j + 1) = [] from List.drop_eq_nil_of_le (by omega))
                go_upto_region 14 with (at_builtin; refine wpList_app4 _ rfl (.tmp 54) (.tmp 57) rfl wr.heap.size v2 _ (l.drop (j + 1)) rfl O2 ⟨g', 0, none⟩ _ _ rfl (by rw [List.length_drop]; try omega) (fun jj uu hu => by rw [e1.out] at hu; simp at hu) (by rw [List.length_append, List.length_append, List.length_take]; show 0 + _ + 1 + _ ≤ 1000; omega) s2 ?_; intro v3 W3 O3 G3)
                have HW3 := HW2.grown G3 lt2 ql hw0 gl
                have O4 : OwnT W3 w.heap.size v3 (insT ⟨ta, tr, ts, tl⟩ l) := own_base (by rw [EI.out]; exact O3) hw0
                clear O1 O2 O3 HW2 G3
                go_wp2
                go_roundw
                case rel => exact ⟨k + 1, _, _, by omega, rfl, int_eqS (by omega), N2.out, by rw [insT_len]; omega, O4, HW3.hb⟩
                case measure => simp only [intOf]; omega
              · have hc2 : j + 1 < c' := by omega
                have hc3 : ¬ j + 1 = c' := by omega
                have hc4 : ¬ c' - (j + 1) = 0 := by omega
                have hc5 : (c' == j + 1) = false := beq_false_of_ne hcap
                have hc6 : (c' - (j + 1) == 0) = false := beq_false_of_ne hc4
                go_upto_region 14 with (at_builtin; refine wpList_app4 _ rfl (.tmp 54) (.tmp 57) rfl wr.heap.size v2 _ (l.drop (j + 1)) rfl O2 ⟨g', (j + 1) * 4, none⟩ (l.length - (j + 1)) _ rfl (by rw [List.length_drop]) (OwnT.piece HW2.own (j + 1)) (by rw [List.length_append, List.length_append, List.length_take]; show 0 + _ + 1 + _ ≤ 1000; omega) s2 ?_; intro v3 W3 O3 G3)
                have HW3 := HW2.grown G3 lt2 ql hw0 gl
                have O4 : OwnT W3 w.heap.size v3 (insT ⟨ta, tr, ts, tl⟩ l) := own_base (by rw [EI.out]; exact O3) hw0
                clear O1 O2 O3 HW2 G3
                go_wp2
                go_roundw
                case rel => exact ⟨k + 1, _, _, by omega, rfl, int_eqS (by omega), N2.out, by rw [insT_len]; omega, O4, HW3.hb⟩
                case measure => simp only [intOf]; omega
      · rw [turnO_none h6] at TC
        have N2 := Lib.hid (show turnsL L y = turnsGo y (L.drop (k + 1)) l from by have := HN.out; rw [if_neg h6] at this; exact this)
        replace TC := Lib.hid (fun W => (show Calls Tryd.prog 31 #[.agg #[.string nm, .int .i64 fr, .int .i64 last, .int .i64 mo, .int .i64 ki, .int .i64 wd, .int .i64 da, .int .i64 ti, .int .i64 re, .int .i64 save, .string le], .int .i64 y] W (fun e w' => e = .returned (.tuple #[.agg #[.int .i64 0, .int .i64 0, .int .i64 0, .string ⟨#[]⟩], .bool false]) ∧ Below W.heap.size W w') from TC.out W))
        go_upto_region 6 with (go_at_call 31; refine (TC.out _).mono ?_; clear TC; rintro e W9 ⟨rfl, hk⟩; clear x0 x1 x2 x3 x4 x5 x6 x7 x8 x9 x10)
        have KT := Blk.new4 W9 (.int .i64 0) (.int .i64 0) (.int .i64 0) (.string ⟨#[]⟩) 35
        have hb1 := below_box W9 (.cells #[.int .i64 0, .int .i64 0, .int .i64 0, .string ⟨#[]⟩] 35)
        replace hbel := below_thru (below_thru hbel hk) hb1
        replace HO := (OwnT.kept HO hk).kept hb1
        generalize W9.alloc (.cells #[.int .i64 0, .int .i64 0, .int .i64 0, .string ⟨#[]⟩] 35) = W1 at *
        generalize W9.heap.size = q at *
        clear hk hb1
        clear KT
        go_wp2
        go_roundw
        case rel => exact ⟨k + 1, _, l, by omega, rfl, int_eqS (by omega), N2.out, by omega, HO, hbel⟩
        case measure => simp only [intOf]; omega
    · obtain rfl : k = n := by omega
      have Y := Lib.hid (show turnsL L y = l from by have h := HR.out; rw [← LN.out, List.drop_length] at h; exact h)
      obtain ⟨A', c', e, _⟩ := HO.tnv
      subst e
      go_wp2
      go_ret
      exact ⟨_, rfl, by rw [Y.out]; exact HO, hbel⟩
theorem turnsDR (L : List Rl) (y : Int) (A : Option Addr) (n c : Nat) (w : World) (hm : RulV w A n c L) (small : n ≤ 100) : Calls Tryd.prog 14 #[.slice A n c, .int .i64 y] w (RetTn w (turnsL L y)) := by
  refine (turnsOR L y A n c w hm small).mono ?_
  rintro e w' ⟨v, rfl, HO, hb⟩
  obtain ⟨A', c', rfl, T, _⟩ := HO.tnv
  exact ⟨A', _, c', rfl, T, hb⟩
end Go.Proofs.YtkkdclibbdeejaaDoor
