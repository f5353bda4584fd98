import Derived.Test.YtallclimljiplaaGreatDoorZGea
import Derived.Test.YtallclimljiplaaGreatDoorZGeb
import Derived.Test.YtallclimljiplaaGreatDoorZGyp
import Derived.Test.YtallclimljiplaaGreatDoorZYon
import Derived.Laws.Cover1
import Derived.RangeFuncNested
import Derived.RangeFuncBound
import Derived.RangeFuncCalls
import Derived.RangeFuncLeaves
import Derived.RangeFuncBox
import Derived.Shelf.Abstract
import Derived.Shelf.RegionOpen
import Derived.WalkKit
import Derived.OwnWalkIn
import Derived.TacticsInMore
import Derived.LoopNIn
import Derived.LoopIn
import Derived.Sort.CutIn
import Derived.Test.YtallclimljiplaaGreatDoorZGe
import Derived.Shelf.AbstractIn
import Derived.BigQuiet
set_option maxRecDepth 100000
set_option maxHeartbeats 64000000
namespace Go.Proofs.YtallclimljiplaaGreatDoor
open Go.RowKit
theorem withinE (n a b : Int) (w : World) : Calls Tryz.prog 125 #[.int .i64 n, .int .i64 a, .int .i64 b] w (fun e w' => e = .returned (.bool (wiB n a b)) ∧ w = w') := by
  by_cases h : a ≤ n
  · have d : decide (a ≤ n) = true := decide_eq_true h
    have E := Lib.hid (show wiB n a b = decide (n ≤ b) by unfold wiB; rw [d]; rfl)
    clear h
    go_enter Tryz.func125, Tryz.ntmps125
    go_wp2
    go_ret
    exact ⟨by rw [E.out]; rfl, rfl⟩
  · have d : decide (a ≤ n) = false := decide_eq_false h
    have E := Lib.hid (show wiB n a b = false by unfold wiB; rw [d]; rfl)
    clear h
    go_enter Tryz.func125, Tryz.ntmps125
    go_wp2
    go_ret
    exact ⟨by rw [E.out]; rfl, rfl⟩
theorem inForceE (x : Rl) (y : Int) (w : World) : Calls Tryz.prog 127 #[x.val, .int .i64 y] w (RetV w (.bool (wiB y x.fr x.last))) := by
  obtain ⟨nm, fr, last, ⟨mo, ki, wd, da, ti, re⟩, save, le⟩ := x
  have WI := Lib.hid (fun W => withinE y fr last W)
  show Calls Tryz.prog 127 #[.agg #[.string nm, .int .i64 fr, .int .i64 last, .int .i64 mo, .int .i64 ki, .int .i64 wd, .int .i64 da, .int .i64 ti, .int .i64 re, .int .i64 save, .string le], .int .i64 y] w (RetV w (.bool (wiB y fr last)))
  generalize wiB y fr last = b at *
  go_enter Tryz.func127, Tryz.ntmps127
  go_upto_region 1 with (fail)
  have KB := blk_lit w 52 [.string nm, .int .i64 fr, .int .i64 last, .int .i64 mo, .int .i64 ki, .int .i64 wd, .int .i64 da, .int .i64 ti, .int .i64 re, .int .i64 save, .string le]
  have hb := (below_box w (.cells #[.string nm, .int .i64 fr, .int .i64 last, .int .i64 mo, .int .i64 ki, .int .i64 wd, .int .i64 da, .int .i64 ti, .int .i64 re, .int .i64 save, .string le] 52))
  rw [show ([.string nm, .int .i64 fr, .int .i64 last, .int .i64 mo, .int .i64 ki, .int .i64 wd, .int .i64 da, .int .i64 ti, .int .i64 re, .int .i64 save, .string le] : List Value).toArray = #[.string nm, .int .i64 fr, .int .i64 last, .int .i64 mo, .int .i64 ki, .int .i64 wd, .int .i64 da, .int .i64 ti, .int .i64 re, .int .i64 save, .string le] from rfl] at KB
  generalize w.alloc (.cells #[.string nm, .int .i64 fr, .int .i64 last, .int .i64 mo, .int .i64 ki, .int .i64 wd, .int .i64 da, .int .i64 ti, .int .i64 re, .int .i64 save, .string le] 52) = W at *
  obtain ⟨y0, y1, y2, y3, y4, y5, y6, y7, y8, y9, y10⟩ := KB.elevenC
  go_wp2_with (go_at_call 125; refine (WI.out _).mono ?_; clear WI; rintro e W9 ⟨rfl, rfl⟩)
  go_ret
  exact ⟨rfl, hb⟩
def rlEB (x : Rl) : Bool := wiB x.fr 1 9999 && ((wiB x.last 1 9999 || x.last == 1000000) && (decide x.sp.ok && wiB x.save (-43200) 43200))
theorem rlEB_is (x : Rl) : rlEB x = true ↔ x.fit := by
  unfold rlEB Rl.fit
  rw [Bool.and_eq_true, Bool.and_eq_true, Bool.and_eq_true, Bool.or_eq_true, wiB_is, wiB_is, wiB_is, decide_eq_true_iff, beq_iff_eq]
  constructor
  · rintro ⟨h1, h2, h3, h4⟩
    exact ⟨h1, by omega, h3, h4⟩
  · rintro ⟨h1, h2, h3, h4⟩
    exact ⟨h1, by omega, h3, h4⟩
theorem rrE_a (nm le : ByteArray) (fr last mo ki wd da ti re save : Int) (B1 : Hid (∀ W, Calls Tryz.prog 125 #[.int .i64 fr, .int .i64 1, .int .i64 9999] W (fun e w' => e = .returned (.bool false) ∧ W = w'))) (w : World) : Calls Tryz.prog 93 #[.agg #[.string nm, .int .i64 fr, .int .i64 last, .int .i64 mo, .int .i64 ki, .int .i64 wd, .int .i64 da, .int .i64 ti, .int .i64 re, .int .i64 save, .string le]] w (RetV w (.bool false)) := by
  go_enter Tryz.func93, Tryz.ntmps93
  go_upto_region 1 with (fail)
  have KB := blk_lit w 52 [.string nm, .int .i64 fr, .int .i64 last, .int .i64 mo, .int .i64 ki, .int .i64 wd, .int .i64 da, .int .i64 ti, .int .i64 re, .int .i64 save, .string le]
  have hb := (below_box w (.cells #[.string nm, .int .i64 fr, .int .i64 last, .int .i64 mo, .int .i64 ki, .int .i64 wd, .int .i64 da, .int .i64 ti, .int .i64 re, .int .i64 save, .string le] 52))
  rw [show ([.string nm, .int .i64 fr, .int .i64 last, .int .i64 mo, .int .i64 ki, .int .i64 wd, .int .i64 da, .int .i64 ti, .int .i64 re, .int .i64 save, .string le] : List Value).toArray = #[.string nm, .int .i64 fr, .int .i64 last, .int .i64 mo, .int .i64 ki, .int .i64 wd, .int .i64 da, .int .i64 ti, .int .i64 re, .int .i64 save, .string le] from rfl] at KB
  generalize w.alloc (.cells #[.string nm, .int .i64 fr, .int .i64 last, .int .i64 mo, .int .i64 ki, .int .i64 wd, .int .i64 da, .int .i64 ti, .int .i64 re, .int .i64 save, .string le] 52) = W at *
  obtain ⟨y0, y1, y2, y3, y4, y5, y6, y7, y8, y9, y10⟩ := KB.elevenC
  go_wp2_with (first
    | (go_at_call 125; with_reducible refine (B1.out _).mono ?_; clear B1; rintro e W9 ⟨rfl, rfl⟩)
    | (go_at_call 87; refine (SR.out _).mono ?_; clear SR; rintro e W9 ⟨rfl, hk⟩; replace hb := below_thru hb hk; replace KB := KB.below hk; clear hk y0 y1 y2 y3 y4 y5 y6 y7 y8 y9 y10; obtain ⟨y0, y1, y2, y3, y4, y5, y6, y7, y8, y9, y10⟩ := KB.elevenC))
  go_ret
  exact ⟨rfl, hb⟩
theorem rrE_b (nm le : ByteArray) (fr last mo ki wd da ti re save : Int) (B1 : Hid (∀ W, Calls Tryz.prog 125 #[.int .i64 fr, .int .i64 1, .int .i64 9999] W (fun e w' => e = .returned (.bool true) ∧ W = w'))) (B2 : Hid (∀ W, Calls Tryz.prog 125 #[.int .i64 last, .int .i64 1, .int .i64 9999] W (fun e w' => e = .returned (.bool false) ∧ W = w'))) (d : (last == 1000000) = false) (w : World) : Calls Tryz.prog 93 #[.agg #[.string nm, .int .i64 fr, .int .i64 last, .int .i64 mo, .int .i64 ki, .int .i64 wd, .int .i64 da, .int .i64 ti, .int .i64 re, .int .i64 save, .string le]] w (RetV w (.bool false)) := by
  go_enter Tryz.func93, Tryz.ntmps93
  go_upto_region 1 with (fail)
  have KB := blk_lit w 52 [.string nm, .int .i64 fr, .int .i64 last, .int .i64 mo, .int .i64 ki, .int .i64 wd, .int .i64 da, .int .i64 ti, .int .i64 re, .int .i64 save, .string le]
  have hb := (below_box w (.cells #[.string nm, .int .i64 fr, .int .i64 last, .int .i64 mo, .int .i64 ki, .int .i64 wd, .int .i64 da, .int .i64 ti, .int .i64 re, .int .i64 save, .string le] 52))
  rw [show ([.string nm, .int .i64 fr, .int .i64 last, .int .i64 mo, .int .i64 ki, .int .i64 wd, .int .i64 da, .int .i64 ti, .int .i64 re, .int .i64 save, .string le] : List Value).toArray = #[.string nm, .int .i64 fr, .int .i64 last, .int .i64 mo, .int .i64 ki, .int .i64 wd, .int .i64 da, .int .i64 ti, .int .i64 re, .int .i64 save, .string le] from rfl] at KB
  generalize w.alloc (.cells #[.string nm, .int .i64 fr, .int .i64 last, .int .i64 mo, .int .i64 ki, .int .i64 wd, .int .i64 da, .int .i64 ti, .int .i64 re, .int .i64 save, .string le] 52) = W at *
  obtain ⟨y0, y1, y2, y3, y4, y5, y6, y7, y8, y9, y10⟩ := KB.elevenC
  go_wp2_with (first
    | (go_at_call 125; with_reducible refine (B1.out _).mono ?_; clear B1; rintro e W9 ⟨rfl, rfl⟩)
    | (go_at_call 125; with_reducible refine (B2.out _).mono ?_; clear B2; rintro e W9 ⟨rfl, rfl⟩)
    | (go_at_call 87; refine (SR.out _).mono ?_; clear SR; rintro e W9 ⟨rfl, hk⟩; replace hb := below_thru hb hk; replace KB := KB.below hk; clear hk y0 y1 y2 y3 y4 y5 y6 y7 y8 y9 y10; obtain ⟨y0, y1, y2, y3, y4, y5, y6, y7, y8, y9, y10⟩ := KB.elevenC))
  go_ret
  exact ⟨rfl, hb⟩
theorem rrE_c (nm le : ByteArray) (fr last mo ki wd da ti re save : Int) (B1 : Hid (∀ W, Calls Tryz.prog 125 #[.int .i64 fr, .int .i64 1, .int .i64 9999] W (fun e w' => e = .returned (.bool true) ∧ W = w'))) (B2 : Hid (∀ W, Calls Tryz.prog 125 #[.int .i64 last, .int .i64 1, .int .i64 9999] W (fun e w' => e = .returned (.bool false) ∧ W = w'))) (d : (last == 1000000) = true) (SR : Hid (∀ W, Calls Tryz.prog 87 #[.agg #[.int .i64 mo, .int .i64 ki, .int .i64 wd, .int .i64 da, .int .i64 ti, .int .i64 re]] W (RetV W (.bool false)))) (w : World) : Calls Tryz.prog 93 #[.agg #[.string nm, .int .i64 fr, .int .i64 last, .int .i64 mo, .int .i64 ki, .int .i64 wd, .int .i64 da, .int .i64 ti, .int .i64 re, .int .i64 save, .string le]] w (RetV w (.bool false)) := by
  go_enter Tryz.func93, Tryz.ntmps93
  go_upto_region 1 with (fail)
  have KB := blk_lit w 52 [.string nm, .int .i64 fr, .int .i64 last, .int .i64 mo, .int .i64 ki, .int .i64 wd, .int .i64 da, .int .i64 ti, .int .i64 re, .int .i64 save, .string le]
  have hb := (below_box w (.cells #[.string nm, .int .i64 fr, .int .i64 last, .int .i64 mo, .int .i64 ki, .int .i64 wd, .int .i64 da, .int .i64 ti, .int .i64 re, .int .i64 save, .string le] 52))
  rw [show ([.string nm, .int .i64 fr, .int .i64 last, .int .i64 mo, .int .i64 ki, .int .i64 wd, .int .i64 da, .int .i64 ti, .int .i64 re, .int .i64 save, .string le] : List Value).toArray = #[.string nm, .int .i64 fr, .int .i64 last, .int .i64 mo, .int .i64 ki, .int .i64 wd, .int .i64 da, .int .i64 ti, .int .i64 re, .int .i64 save, .string le] from rfl] at KB
  generalize w.alloc (.cells #[.string nm, .int .i64 fr, .int .i64 last, .int .i64 mo, .int .i64 ki, .int .i64 wd, .int .i64 da, .int .i64 ti, .int .i64 re, .int .i64 save, .string le] 52) = W at *
  obtain ⟨y0, y1, y2, y3, y4, y5, y6, y7, y8, y9, y10⟩ := KB.elevenC
  go_wp2_with (first
    | (go_at_call 125; with_reducible refine (B1.out _).mono ?_; clear B1; rintro e W9 ⟨rfl, rfl⟩)
    | (go_at_call 125; with_reducible refine (B2.out _).mono ?_; clear B2; rintro e W9 ⟨rfl, rfl⟩)
    | (go_at_call 87; refine (SR.out _).mono ?_; clear SR; rintro e W9 ⟨rfl, hk⟩; replace hb := below_thru hb hk; replace KB := KB.below hk; clear hk y0 y1 y2 y3 y4 y5 y6 y7 y8 y9 y10; obtain ⟨y0, y1, y2, y3, y4, y5, y6, y7, y8, y9, y10⟩ := KB.elevenC))
  go_ret
  exact ⟨rfl, hb⟩
theorem rrE_d (nm le : ByteArray) (fr last mo ki wd da ti re save : Int) (B1 : Hid (∀ W, Calls Tryz.prog 125 #[.int .i64 fr, .int .i64 1, .int .i64 9999] W (fun e w' => e = .returned (.bool true) ∧ W = w'))) (B2 : Hid (∀ W, Calls Tryz.prog 125 #[.int .i64 last, .int .i64 1, .int .i64 9999] W (fun e w' => e = .returned (.bool true) ∧ W = w'))) (SR : Hid (∀ W, Calls Tryz.prog 87 #[.agg #[.int .i64 mo, .int .i64 ki, .int .i64 wd, .int .i64 da, .int .i64 ti, .int .i64 re]] W (RetV W (.bool false)))) (w : World) : Calls Tryz.prog 93 #[.agg #[.string nm, .int .i64 fr, .int .i64 last, .int .i64 mo, .int .i64 ki, .int .i64 wd, .int .i64 da, .int .i64 ti, .int .i64 re, .int .i64 save, .string le]] w (RetV w (.bool false)) := by
  go_enter Tryz.func93, Tryz.ntmps93
  go_upto_region 1 with (fail)
  have KB := blk_lit w 52 [.string nm, .int .i64 fr, .int .i64 last, .int .i64 mo, .int .i64 ki, .int .i64 wd, .int .i64 da, .int .i64 ti, .int .i64 re, .int .i64 save, .string le]
  have hb := (below_box w (.cells #[.string nm, .int .i64 fr, .int .i64 last, .int .i64 mo, .int .i64 ki, .int .i64 wd, .int .i64 da, .int .i64 ti, .int .i64 re, .int .i64 save, .string le] 52))
  rw [show ([.string nm, .int .i64 fr, .int .i64 last, .int .i64 mo, .int .i64 ki, .int .i64 wd, .int .i64 da, .int .i64 ti, .int .i64 re, .int .i64 save, .string le] : List Value).toArray = #[.string nm, .int .i64 fr, .int .i64 last, .int .i64 mo, .int .i64 ki, .int .i64 wd, .int .i64 da, .int .i64 ti, .int .i64 re, .int .i64 save, .string le] from rfl] at KB
  generalize w.alloc (.cells #[.string nm, .int .i64 fr, .int .i64 last, .int .i64 mo, .int .i64 ki, .int .i64 wd, .int .i64 da, .int .i64 ti, .int .i64 re, .int .i64 save, .string le] 52) = W at *
  obtain ⟨y0, y1, y2, y3, y4, y5, y6, y7, y8, y9, y10⟩ := KB.elevenC
  go_wp2_with (first
    | (go_at_call 125; with_reducible refine (B1.out _).mono ?_; clear B1; rintro e W9 ⟨rfl, rfl⟩)
    | (go_at_call 125; with_reducible refine (B2.out _).mono ?_; clear B2; rintro e W9 ⟨rfl, rfl⟩)
    | (go_at_call 87; refine (SR.out _).mono ?_; clear SR; rintro e W9 ⟨rfl, hk⟩; replace hb := below_thru hb hk; replace KB := KB.below hk; clear hk y0 y1 y2 y3 y4 y5 y6 y7 y8 y9 y10; obtain ⟨y0, y1, y2, y3, y4, y5, y6, y7, y8, y9, y10⟩ := KB.elevenC))
  go_ret
  exact ⟨rfl, hb⟩
theorem rrE_e (nm le : ByteArray) (fr last mo ki wd da ti re save : Int) (B1 : Hid (∀ W, Calls Tryz.prog 125 #[.int .i64 fr, .int .i64 1, .int .i64 9999] W (fun e w' => e = .returned (.bool true) ∧ W = w'))) (B2 : Hid (∀ W, Calls Tryz.prog 125 #[.int .i64 last, .int .i64 1, .int .i64 9999] W (fun e w' => e = .returned (.bool false) ∧ W = w'))) (d : (last == 1000000) = true) (SR : Hid (∀ W, Calls Tryz.prog 87 #[.agg #[.int .i64 mo, .int .i64 ki, .int .i64 wd, .int .i64 da, .int .i64 ti, .int .i64 re]] W (RetV W (.bool true)))) (b : Bool) (B3 : Hid (∀ W, Calls Tryz.prog 125 #[.int .i64 save, .int .i64 (-43200), .int .i64 43200] W (fun e w' => e = .returned (.bool b) ∧ W = w'))) (w : World) : Calls Tryz.prog 93 #[.agg #[.string nm, .int .i64 fr, .int .i64 last, .int .i64 mo, .int .i64 ki, .int .i64 wd, .int .i64 da, .int .i64 ti, .int .i64 re, .int .i64 save, .string le]] w (RetV w (.bool b)) := by
  go_enter Tryz.func93, Tryz.ntmps93
  go_upto_region 1 with (fail)
  have KB := blk_lit w 52 [.string nm, .int .i64 fr, .int .i64 last, .int .i64 mo, .int .i64 ki, .int .i64 wd, .int .i64 da, .int .i64 ti, .int .i64 re, .int .i64 save, .string le]
  have hb := (below_box w (.cells #[.string nm, .int .i64 fr, .int .i64 last, .int .i64 mo, .int .i64 ki, .int .i64 wd, .int .i64 da, .int .i64 ti, .int .i64 re, .int .i64 save, .string le] 52))
  rw [show ([.string nm, .int .i64 fr, .int .i64 last, .int .i64 mo, .int .i64 ki, .int .i64 wd, .int .i64 da, .int .i64 ti, .int .i64 re, .int .i64 save, .string le] : List Value).toArray = #[.string nm, .int .i64 fr, .int .i64 last, .int .i64 mo, .int .i64 ki, .int .i64 wd, .int .i64 da, .int .i64 ti, .int .i64 re, .int .i64 save, .string le] from rfl] at KB
  generalize w.alloc (.cells #[.string nm, .int .i64 fr, .int .i64 last, .int .i64 mo, .int .i64 ki, .int .i64 wd, .int .i64 da, .int .i64 ti, .int .i64 re, .int .i64 save, .string le] 52) = W at *
  obtain ⟨y0, y1, y2, y3, y4, y5, y6, y7, y8, y9, y10⟩ := KB.elevenC
  go_wp2_with (first
    | (go_at_call 125; with_reducible refine (B1.out _).mono ?_; clear B1; rintro e W9 ⟨rfl, rfl⟩)
    | (go_at_call 125; with_reducible refine (B2.out _).mono ?_; clear B2; rintro e W9 ⟨rfl, rfl⟩)
    | (go_at_call 125; with_reducible refine (B3.out _).mono ?_; clear B3; rintro e W9 ⟨rfl, rfl⟩)
    | (go_at_call 87; refine (SR.out _).mono ?_; clear SR; rintro e W9 ⟨rfl, hk⟩; replace hb := below_thru hb hk; replace KB := KB.below hk; clear hk y0 y1 y2 y3 y4 y5 y6 y7 y8 y9 y10; obtain ⟨y0, y1, y2, y3, y4, y5, y6, y7, y8, y9, y10⟩ := KB.elevenC))
  go_ret
  exact ⟨rfl, hb⟩
theorem rrE_f (nm le : ByteArray) (fr last mo ki wd da ti re save : Int) (B1 : Hid (∀ W, Calls Tryz.prog 125 #[.int .i64 fr, .int .i64 1, .int .i64 9999] W (fun e w' => e = .returned (.bool true) ∧ W = w'))) (B2 : Hid (∀ W, Calls Tryz.prog 125 #[.int .i64 last, .int .i64 1, .int .i64 9999] W (fun e w' => e = .returned (.bool true) ∧ W = w'))) (SR : Hid (∀ W, Calls Tryz.prog 87 #[.agg #[.int .i64 mo, .int .i64 ki, .int .i64 wd, .int .i64 da, .int .i64 ti, .int .i64 re]] W (RetV W (.bool true)))) (b : Bool) (B3 : Hid (∀ W, Calls Tryz.prog 125 #[.int .i64 save, .int .i64 (-43200), .int .i64 43200] W (fun e w' => e = .returned (.bool b) ∧ W = w'))) (w : World) : Calls Tryz.prog 93 #[.agg #[.string nm, .int .i64 fr, .int .i64 last, .int .i64 mo, .int .i64 ki, .int .i64 wd, .int .i64 da, .int .i64 ti, .int .i64 re, .int .i64 save, .string le]] w (RetV w (.bool b)) := by
  go_enter Tryz.func93, Tryz.ntmps93
  go_upto_region 1 with (fail)
  have KB := blk_lit w 52 [.string nm, .int .i64 fr, .int .i64 last, .int .i64 mo, .int .i64 ki, .int .i64 wd, .int .i64 da, .int .i64 ti, .int .i64 re, .int .i64 save, .string le]
  have hb := (below_box w (.cells #[.string nm, .int .i64 fr, .int .i64 last, .int .i64 mo, .int .i64 ki, .int .i64 wd, .int .i64 da, .int .i64 ti, .int .i64 re, .int .i64 save, .string le] 52))
  rw [show ([.string nm, .int .i64 fr, .int .i64 last, .int .i64 mo, .int .i64 ki, .int .i64 wd, .int .i64 da, .int .i64 ti, .int .i64 re, .int .i64 save, .string le] : List Value).toArray = #[.string nm, .int .i64 fr, .int .i64 last, .int .i64 mo, .int .i64 ki, .int .i64 wd, .int .i64 da, .int .i64 ti, .int .i64 re, .int .i64 save, .string le] from rfl] at KB
  generalize w.alloc (.cells #[.string nm, .int .i64 fr, .int .i64 last, .int .i64 mo, .int .i64 ki, .int .i64 wd, .int .i64 da, .int .i64 ti, .int .i64 re, .int .i64 save, .string le] 52) = W at *
  obtain ⟨y0, y1, y2, y3, y4, y5, y6, y7, y8, y9, y10⟩ := KB.elevenC
  go_wp2_with (first
    | (go_at_call 125; with_reducible refine (B1.out _).mono ?_; clear B1; rintro e W9 ⟨rfl, rfl⟩)
    | (go_at_call 125; with_reducible refine (B2.out _).mono ?_; clear B2; rintro e W9 ⟨rfl, rfl⟩)
    | (go_at_call 125; with_reducible refine (B3.out _).mono ?_; clear B3; rintro e W9 ⟨rfl, rfl⟩)
    | (go_at_call 87; refine (SR.out _).mono ?_; clear SR; rintro e W9 ⟨rfl, hk⟩; replace hb := below_thru hb hk; replace KB := KB.below hk; clear hk y0 y1 y2 y3 y4 y5 y6 y7 y8 y9 y10; obtain ⟨y0, y1, y2, y3, y4, y5, y6, y7, y8, y9, y10⟩ := KB.elevenC))
  go_ret
  exact ⟨rfl, hb⟩
theorem rightRuleE (x : Rl) (w : World) : Calls Tryz.prog 93 #[x.val] w (RetV w (.bool (rlEB x))) := by
  obtain ⟨nm, fr, last, ⟨mo, ki, wd, da, ti, re⟩, save, le⟩ := x
  have B1 := fun W => withinE fr 1 9999 W
  have B2 := fun W => withinE last 1 9999 W
  have B3 := fun W => withinE save (-43200) 43200 W
  have SR := fun W => rightMP ⟨mo, ki, wd, da, ti, re⟩ W
  show Calls Tryz.prog 93 #[.agg #[.string nm, .int .i64 fr, .int .i64 last, .int .i64 mo, .int .i64 ki, .int .i64 wd, .int .i64 da, .int .i64 ti, .int .i64 re, .int .i64 save, .string le]] w (RetV w (.bool (wiB fr 1 9999 && ((wiB last 1 9999 || last == 1000000) && (decide (Sp.ok ⟨mo, ki, wd, da, ti, re⟩) && wiB save (-43200) 43200)))))
  cases h1 : wiB fr 1 9999 with
  | false => rw [h1] at B1; exact rrE_a _ _ _ _ _ _ _ _ _ _ _ (Lib.hid B1) w
  | true =>
    rw [h1] at B1
    cases h2 : wiB last 1 9999 with
    | false =>
      rw [h2] at B2
      cases h3 : (last == 1000000) with
      | false => exact rrE_b _ _ _ _ _ _ _ _ _ _ _ (Lib.hid B1) (Lib.hid B2) h3 w
      | true =>
        cases h4 : decide (Sp.ok ⟨mo, ki, wd, da, ti, re⟩) with
        | false => rw [h4] at SR; exact rrE_c _ _ _ _ _ _ _ _ _ _ _ (Lib.hid B1) (Lib.hid B2) h3 (Lib.hid SR) w
        | true => rw [h4] at SR; exact rrE_e _ _ _ _ _ _ _ _ _ _ _ (Lib.hid B1) (Lib.hid B2) h3 (Lib.hid SR) _ (Lib.hid B3) w
    | true =>
      rw [h2] at B2
      cases h4 : decide (Sp.ok ⟨mo, ki, wd, da, ti, re⟩) with
      | false => rw [h4] at SR; exact rrE_d _ _ _ _ _ _ _ _ _ _ _ (Lib.hid B1) (Lib.hid B2) (Lib.hid SR) w
      | true => rw [h4] at SR; exact rrE_f _ _ _ _ _ _ _ _ _ _ _ (Lib.hid B1) (Lib.hid B2) (Lib.hid SR) _ (Lib.hid B3) w
theorem rightPE (L : List Rl) (A : Option Addr) (n c : Nat) (w : World) (hm : RulV w A n c L) : Calls Tryz.prog 65 #[.slice A n c] w (RetV w (.bool (fitB L))) := by
  have mx : n ≤ 9223372036854775807 := Nat.le_trans hm.cap hm.max
  have LN := Lib.hid (show L.length = n by have := hm.len; simpa using this)
  have HA := Lib.hid hm
  clear hm
  go_enter Tryz.func65, Tryz.ntmps65
  go_wp2_with fail
  go_loopw [7] (fun v7 wr => ∃ k : Nat, k ≤ n ∧ v7 = .int .i64 k ∧ (∀ j x, j < k → L[j]? = some x → x.fit) ∧ Below w.heap.size w wr) (fun v _ => n - (intOf v).toNat)
  case atStart => exact ⟨0, by omega, rfl, fun j x h => absurd h (by omega), Below.refl _ _⟩
  case round =>
    obtain ⟨k, hk, rfl, hR, hbel⟩ := hrel
    have HR := Lib.hid hR
    clear hR
    by_cases h4 : k < n
    · obtain ⟨x, hxx⟩ : ∃ x, L[k]? = some x := ⟨_, List.getElem?_eq_getElem (by rw [LN.out]; exact h4)⟩
      obtain ⟨g, o, ea0, hg, ca⟩ := (HA.out.below hbel).cells (by omega)
      subst ea0
      have ra := row_at ca (show (L.map Rl.vals)[k]? = some (Rl.vals x) by rw [List.getElem?_map, hxx]; rfl)
      have STEP := Lib.hid (show x.fit → ∀ j y, j < k + 1 → L[j]? = some y → y.fit from fun h j y hj hy => by
        by_cases e : j = k
        · subst e; rw [hxx] at hy; cases hy; exact h
        · exact HR.out j y (by omega) hy)
      have BAD := Lib.hid (fun h : ¬ x.fit => fit_no hxx h)
      have RB := rlEB_is x
      have RR := fun W => rightRuleE x W
      generalize rlEB x = b at *
      obtain ⟨X, hX⟩ : ∃ X, X = x := ⟨_, rfl⟩
      rw [← hX] at STEP BAD RB
      clear hX
      obtain ⟨nm, fr, last, ⟨mo, ki, wd, da, ti, re⟩, save, le⟩ := x
      replace RR := Lib.hid (fun W => (show Calls Tryz.prog 93 #[.agg #[.string nm, .int .i64 fr, .int .i64 last, .int .i64 mo, .int .i64 ki, .int .i64 wd, .int .i64 da, .int .i64 ti, .int .i64 re, .int .i64 save, .string le]] W (RetV W (.bool b)) from RR W))
      have x0 : wr.cell? ⟨g, o + k * 11, none⟩ = some (.string nm) := ra 0 _ rfl
      have x1 : wr.cell? ⟨g, o + k * 11 + 1, none⟩ = some (.int .i64 fr) := ra 1 _ rfl
      have x2 : wr.cell? ⟨g, o + k * 11 + 2, none⟩ = some (.int .i64 last) := ra 2 _ rfl
      have x3 : wr.cell? ⟨g, o + k * 11 + 3, none⟩ = some (.int .i64 mo) := ra 3 _ rfl
      have x4 : wr.cell? ⟨g, o + k * 11 + 4, none⟩ = some (.int .i64 ki) := ra 4 _ rfl
      have x5 : wr.cell? ⟨g, o + k * 11 + 5, none⟩ = some (.int .i64 wd) := ra 5 _ rfl
      have x6 : wr.cell? ⟨g, o + k * 11 + 6, none⟩ = some (.int .i64 da) := ra 6 _ rfl
      have x7 : wr.cell? ⟨g, o + k * 11 + 7, none⟩ = some (.int .i64 ti) := ra 7 _ rfl
      have x8 : wr.cell? ⟨g, o + k * 11 + 8, none⟩ = some (.int .i64 re) := ra 8 _ rfl
      have x9 : wr.cell? ⟨g, o + k * 11 + 9, none⟩ = some (.int .i64 save) := ra 9 _ rfl
      have x10 : wr.cell? ⟨g, o + k * 11 + 10, none⟩ = some (.string le) := ra 10 _ rfl
      clear ca ra hxx
      go_upto_region 4 with (fail)
      have KB := blk_lit wr 52 [.string nm, .int .i64 fr, .int .i64 last, .int .i64 mo, .int .i64 ki, .int .i64 wd, .int .i64 da, .int .i64 ti, .int .i64 re, .int .i64 save, .string le]
      have hb := below_thru hbel (below_box wr (.cells #[.string nm, .int .i64 fr, .int .i64 last, .int .i64 mo, .int .i64 ki, .int .i64 wd, .int .i64 da, .int .i64 ti, .int .i64 re, .int .i64 save, .string le] 52))
      rw [show ([.string nm, .int .i64 fr, .int .i64 last, .int .i64 mo, .int .i64 ki, .int .i64 wd, .int .i64 da, .int .i64 ti, .int .i64 re, .int .i64 save, .string le] : List Value).toArray = #[.string nm, .int .i64 fr, .int .i64 last, .int .i64 mo, .int .i64 ki, .int .i64 wd, .int .i64 da, .int .i64 ti, .int .i64 re, .int .i64 save, .string le] from rfl] at KB
      generalize wr.alloc (.cells #[.string nm, .int .i64 fr, .int .i64 last, .int .i64 mo, .int .i64 ki, .int .i64 wd, .int .i64 da, .int .i64 ti, .int .i64 re, .int .i64 save, .string le] 52) = W at *
      generalize wr.heap.size = bb at *
      obtain ⟨y0, y1, y2, y3, y4, y5, y6, y7, y8, y9, y10⟩ := KB.elevenC
      clear x0 x1 x2 x3 x4 x5 x6 x7 x8 x9 x10 hg hbel
      cases b with
      | false =>
        have EN := Lib.hid (show fitB L = false from BAD.out (fun c => absurd (RB.2 c) (by decide)))
        clear BAD STEP RB
        go_wp2_with (go_at_call 93; refine (RR.out _).mono ?_; clear RR; rintro e W9 ⟨rfl, hk⟩; replace hb := below_thru hb hk; clear hk)
        go_ret
        exact ⟨by rw [EN.out]; rfl, hb⟩
      | true =>
        have ST := Lib.hid (STEP.out (RB.1 rfl))
        clear BAD STEP RB
        go_wp2_with (go_at_call 93; refine (RR.out _).mono ?_; clear RR; rintro e W9 ⟨rfl, hk⟩; replace hb := below_thru hb hk; clear hk)
        go_roundw
        case rel => exact ⟨k + 1, by omega, int_eqS (by omega), ST.out, hb⟩
        case measure => simp only [intOf]; omega
    · obtain rfl : k = n := by omega
      have Y := Lib.hid (show fitB L = true from fit_yes.2 fun x hx => by
        obtain ⟨j, hj⟩ := List.getElem?_of_mem hx
        exact HR.out j x (by rw [← LN.out]; exact (List.getElem?_eq_some_iff.1 hj).1) hj)
      go_wp2
      go_ret
      exact ⟨by rw [Y.out]; rfl, hbel⟩
theorem tn_a (nm le : ByteArray) (fr last mo ki wd da ti re save y : Int) (IF : Hid (∀ W, Calls Tryz.prog 127 #[.agg #[.string nm, .int .i64 fr, .int .i64 last, .int .i64 mo, .int .i64 ki, .int .i64 wd, .int .i64 da, .int .i64 ti, .int .i64 re, .int .i64 save, .string le], .int .i64 y] W (RetV W (.bool false)))) (w : World) (_LE : Lens w) :
    Calls Tryz.prog 100 #[.agg #[.string nm, .int .i64 fr, .int .i64 last, .int .i64 mo, .int .i64 ki, .int .i64 wd, .int .i64 da, .int .i64 ti, .int .i64 re, .int .i64 save, .string le], .int .i64 y] w fun e w' => e = .returned (.tuple #[.agg #[.int .i64 0, .int .i64 0, .int .i64 0, .string ⟨#[]⟩], .bool false]) ∧ Below w.heap.size w w' := by
  go_enter Tryz.func100, Tryz.ntmps100
  go_upto_region 1 with (fail)
  have k1 := below_box w (.cells #[.string nm, .int .i64 fr, .int .i64 last, .int .i64 mo, .int .i64 ki, .int .i64 wd, .int .i64 da, .int .i64 ti, .int .i64 re, .int .i64 save, .string le] 52)
  have kb := blk_lit w 52 [.string nm, .int .i64 fr, .int .i64 last, .int .i64 mo, .int .i64 ki, .int .i64 wd, .int .i64 da, .int .i64 ti, .int .i64 re, .int .i64 save, .string le]
  rw [show ([.string nm, .int .i64 fr, .int .i64 last, .int .i64 mo, .int .i64 ki, .int .i64 wd, .int .i64 da, .int .i64 ti, .int .i64 re, .int .i64 save, .string le] : List Value).toArray = #[.string nm, .int .i64 fr, .int .i64 last, .int .i64 mo, .int .i64 ki, .int .i64 wd, .int .i64 da, .int .i64 ti, .int .i64 re, .int .i64 save, .string le] from rfl] at kb
  have k2 := below_box (w.alloc (.cells #[.string nm, .int .i64 fr, .int .i64 last, .int .i64 mo, .int .i64 ki, .int .i64 wd, .int .i64 da, .int .i64 ti, .int .i64 re, .int .i64 save, .string le] 52)) (.cells #[.int .i64 0, .int .i64 0, .int .i64 0, .string ⟨#[]⟩] 65)
  have kr := Blk.new4 (w.alloc (.cells #[.string nm, .int .i64 fr, .int .i64 last, .int .i64 mo, .int .i64 ki, .int .i64 wd, .int .i64 da, .int .i64 ti, .int .i64 re, .int .i64 save, .string le] 52)) (.int .i64 0) (.int .i64 0) (.int .i64 0) (.string ⟨#[]⟩) 65
  simp only [World.size_alloc] at kr
  have KB := kb.below k2
  have hb := below_thru k1 k2
  generalize ((w.alloc (.cells #[.string nm, .int .i64 fr, .int .i64 last, .int .i64 mo, .int .i64 ki, .int .i64 wd, .int .i64 da, .int .i64 ti, .int .i64 re, .int .i64 save, .string le] 52)).alloc (.cells #[.int .i64 0, .int .i64 0, .int .i64 0, .string ⟨#[]⟩] 65)) = W at *
  clear k1 k2 kb
  obtain ⟨x0, x1, x2, x3, x4, x5, x6, x7, x8, x9, x10⟩ := KB.elevenC
  obtain ⟨_, r0, r1, r2, r3, f0, f1, f2, f3⟩ := kr.four
  have i5 : w.heap.size + 1 ≠ w.heap.size := by omega
  have i6 := Ne.symm i5
  go_wp2_with (go_at_call 127; refine (IF.out _).mono ?_; clear IF; rintro e W9 ⟨rfl, hk⟩; replace KB := KB.below hk; replace kr := kr.below hk; replace hb := below_thru hb hk; clear hk x0 x1 x2 x3 x4 x5 x6 x7 x8 x9 x10 r0 r1 r2 r3 f0 f1 f2 f3; obtain ⟨x0, x1, x2, x3, x4, x5, x6, x7, x8, x9, x10⟩ := KB.elevenC; obtain ⟨_, r0, r1, r2, r3, f0, f1, f2, f3⟩ := kr.four)
  obtain ⟨_, P0, P1, P2, P3, _⟩ := (kr.self4 (.int .i64 0) (.int .i64 0) (.int .i64 0) (.string ⟨#[]⟩)).four
  have HB := (((hb.setCell (p := ⟨w.heap.size + 1, 0, none⟩) (by show _ ≤ w.heap.size + 1; omega) (.int .i64 0)).setCell (p := ⟨w.heap.size + 1, 1, none⟩) (by show _ ≤ w.heap.size + 1; omega) (.int .i64 0)).setCell (p := ⟨w.heap.size + 1, 2, none⟩) (by show _ ≤ w.heap.size + 1; omega) (.int .i64 0)).setCell (p := ⟨w.heap.size + 1, 3, none⟩) (by show _ ≤ w.heap.size + 1; omega) (.string ⟨#[]⟩)
  exact bodyPost_ret (v := .tuple #[.agg #[.int .i64 0, .int .i64 0, .int .i64 0, .string ⟨#[]⟩], .bool false]) (by simp [results, Tryz.results100, go_sem, P0, P1, P2, P3]) rfl ⟨rfl, HB⟩
theorem tn_b (nm le : ByteArray) (fr last mo ki wd da ti re save y : Int) (IF : Hid (∀ W, Calls Tryz.prog 127 #[.agg #[.string nm, .int .i64 fr, .int .i64 last, .int .i64 mo, .int .i64 ki, .int .i64 wd, .int .i64 da, .int .i64 ti, .int .i64 re, .int .i64 save, .string le], .int .i64 y] W (RetV W (.bool true)))) (a : Int) (LO : Hid (∀ W, Lens W → Calls Tryz.prog 42 #[.agg #[.int .i64 mo, .int .i64 ki, .int .i64 wd, .int .i64 da, .int .i64 ti, .int .i64 re], .int .i64 y] W (RetNumB W a false))) (w : World) (LE : Lens w) :
    Calls Tryz.prog 100 #[.agg #[.string nm, .int .i64 fr, .int .i64 last, .int .i64 mo, .int .i64 ki, .int .i64 wd, .int .i64 da, .int .i64 ti, .int .i64 re, .int .i64 save, .string le], .int .i64 y] w fun e w' => e = .returned (.tuple #[.agg #[.int .i64 0, .int .i64 0, .int .i64 0, .string ⟨#[]⟩], .bool false]) ∧ Below w.heap.size w w' := by
  go_enter Tryz.func100, Tryz.ntmps100
  go_upto_region 1 with (fail)
  have k1 := below_box w (.cells #[.string nm, .int .i64 fr, .int .i64 last, .int .i64 mo, .int .i64 ki, .int .i64 wd, .int .i64 da, .int .i64 ti, .int .i64 re, .int .i64 save, .string le] 52)
  have kb := blk_lit w 52 [.string nm, .int .i64 fr, .int .i64 last, .int .i64 mo, .int .i64 ki, .int .i64 wd, .int .i64 da, .int .i64 ti, .int .i64 re, .int .i64 save, .string le]
  rw [show ([.string nm, .int .i64 fr, .int .i64 last, .int .i64 mo, .int .i64 ki, .int .i64 wd, .int .i64 da, .int .i64 ti, .int .i64 re, .int .i64 save, .string le] : List Value).toArray = #[.string nm, .int .i64 fr, .int .i64 last, .int .i64 mo, .int .i64 ki, .int .i64 wd, .int .i64 da, .int .i64 ti, .int .i64 re, .int .i64 save, .string le] from rfl] at kb
  have k2 := below_box (w.alloc (.cells #[.string nm, .int .i64 fr, .int .i64 last, .int .i64 mo, .int .i64 ki, .int .i64 wd, .int .i64 da, .int .i64 ti, .int .i64 re, .int .i64 save, .string le] 52)) (.cells #[.int .i64 0, .int .i64 0, .int .i64 0, .string ⟨#[]⟩] 65)
  have kr := Blk.new4 (w.alloc (.cells #[.string nm, .int .i64 fr, .int .i64 last, .int .i64 mo, .int .i64 ki, .int .i64 wd, .int .i64 da, .int .i64 ti, .int .i64 re, .int .i64 save, .string le] 52)) (.int .i64 0) (.int .i64 0) (.int .i64 0) (.string ⟨#[]⟩) 65
  simp only [World.size_alloc] at kr
  have KB := kb.below k2
  have hb := below_thru k1 k2
  generalize ((w.alloc (.cells #[.string nm, .int .i64 fr, .int .i64 last, .int .i64 mo, .int .i64 ki, .int .i64 wd, .int .i64 da, .int .i64 ti, .int .i64 re, .int .i64 save, .string le] 52)).alloc (.cells #[.int .i64 0, .int .i64 0, .int .i64 0, .string ⟨#[]⟩] 65)) = W at *
  clear k1 k2 kb
  obtain ⟨x0, x1, x2, x3, x4, x5, x6, x7, x8, x9, x10⟩ := KB.elevenC
  obtain ⟨_, r0, r1, r2, r3, f0, f1, f2, f3⟩ := kr.four
  have i5 : w.heap.size + 1 ≠ w.heap.size := by omega
  have i6 := Ne.symm i5
  go_wp2_with (first | (go_at_call 127; refine (IF.out _).mono ?_; clear IF; rintro e W9 ⟨rfl, hk⟩; replace KB := KB.below hk; replace kr := kr.below hk; replace hb := below_thru hb hk; clear hk x0 x1 x2 x3 x4 x5 x6 x7 x8 x9 x10 r0 r1 r2 r3 f0 f1 f2 f3; obtain ⟨x0, x1, x2, x3, x4, x5, x6, x7, x8, x9, x10⟩ := KB.elevenC; obtain ⟨_, r0, r1, r2, r3, f0, f1, f2, f3⟩ := kr.four) | (go_at_call 42; refine (LO.out _ (LE.mono hb)).mono ?_; clear LO; rintro e W9 ⟨rfl, hk⟩; replace KB := KB.below hk; replace kr := kr.below hk; replace hb := below_thru hb hk; clear hk x0 x1 x2 x3 x4 x5 x6 x7 x8 x9 x10 r0 r1 r2 r3 f0 f1 f2 f3; obtain ⟨x0, x1, x2, x3, x4, x5, x6, x7, x8, x9, x10⟩ := KB.elevenC; obtain ⟨_, r0, r1, r2, r3, f0, f1, f2, f3⟩ := kr.four))
  obtain ⟨_, P0, P1, P2, P3, _⟩ := (kr.self4 (.int .i64 0) (.int .i64 0) (.int .i64 0) (.string ⟨#[]⟩)).four
  have HB := (((hb.setCell (p := ⟨w.heap.size + 1, 0, none⟩) (by show _ ≤ w.heap.size + 1; omega) (.int .i64 0)).setCell (p := ⟨w.heap.size + 1, 1, none⟩) (by show _ ≤ w.heap.size + 1; omega) (.int .i64 0)).setCell (p := ⟨w.heap.size + 1, 2, none⟩) (by show _ ≤ w.heap.size + 1; omega) (.int .i64 0)).setCell (p := ⟨w.heap.size + 1, 3, none⟩) (by show _ ≤ w.heap.size + 1; omega) (.string ⟨#[]⟩)
  exact bodyPost_ret (v := .tuple #[.agg #[.int .i64 0, .int .i64 0, .int .i64 0, .string ⟨#[]⟩], .bool false]) (by simp [results, Tryz.results100, go_sem, P0, P1, P2, P3]) rfl ⟨rfl, HB⟩
theorem tn_c (nm le : ByteArray) (fr last mo ki wd da ti re save y : Int) (IF : Hid (∀ W, Calls Tryz.prog 127 #[.agg #[.string nm, .int .i64 fr, .int .i64 last, .int .i64 mo, .int .i64 ki, .int .i64 wd, .int .i64 da, .int .i64 ti, .int .i64 re, .int .i64 save, .string le], .int .i64 y] W (RetV W (.bool true)))) (a : Int) (LO : Hid (∀ W, Lens W → Calls Tryz.prog 42 #[.agg #[.int .i64 mo, .int .i64 ki, .int .i64 wd, .int .i64 da, .int .i64 ti, .int .i64 re], .int .i64 y] W (RetNumB W a true))) (w : World) (LE : Lens w) :
    Calls Tryz.prog 100 #[.agg #[.string nm, .int .i64 fr, .int .i64 last, .int .i64 mo, .int .i64 ki, .int .i64 wd, .int .i64 da, .int .i64 ti, .int .i64 re, .int .i64 save, .string le], .int .i64 y] w fun e w' => e = .returned (.tuple #[.agg #[.int .i64 a, .int .i64 re, .int .i64 save, .string le], .bool true]) ∧ Below w.heap.size w w' := by
  go_enter Tryz.func100, Tryz.ntmps100
  go_upto_region 1 with (fail)
  have k1 := below_box w (.cells #[.string nm, .int .i64 fr, .int .i64 last, .int .i64 mo, .int .i64 ki, .int .i64 wd, .int .i64 da, .int .i64 ti, .int .i64 re, .int .i64 save, .string le] 52)
  have kb := blk_lit w 52 [.string nm, .int .i64 fr, .int .i64 last, .int .i64 mo, .int .i64 ki, .int .i64 wd, .int .i64 da, .int .i64 ti, .int .i64 re, .int .i64 save, .string le]
  rw [show ([.string nm, .int .i64 fr, .int .i64 last, .int .i64 mo, .int .i64 ki, .int .i64 wd, .int .i64 da, .int .i64 ti, .int .i64 re, .int .i64 save, .string le] : List Value).toArray = #[.string nm, .int .i64 fr, .int .i64 last, .int .i64 mo, .int .i64 ki, .int .i64 wd, .int .i64 da, .int .i64 ti, .int .i64 re, .int .i64 save, .string le] from rfl] at kb
  have k2 := below_box (w.alloc (.cells #[.string nm, .int .i64 fr, .int .i64 last, .int .i64 mo, .int .i64 ki, .int .i64 wd, .int .i64 da, .int .i64 ti, .int .i64 re, .int .i64 save, .string le] 52)) (.cells #[.int .i64 0, .int .i64 0, .int .i64 0, .string ⟨#[]⟩] 65)
  have kr := Blk.new4 (w.alloc (.cells #[.string nm, .int .i64 fr, .int .i64 last, .int .i64 mo, .int .i64 ki, .int .i64 wd, .int .i64 da, .int .i64 ti, .int .i64 re, .int .i64 save, .string le] 52)) (.int .i64 0) (.int .i64 0) (.int .i64 0) (.string ⟨#[]⟩) 65
  simp only [World.size_alloc] at kr
  have KB := kb.below k2
  have hb := below_thru k1 k2
  generalize ((w.alloc (.cells #[.string nm, .int .i64 fr, .int .i64 last, .int .i64 mo, .int .i64 ki, .int .i64 wd, .int .i64 da, .int .i64 ti, .int .i64 re, .int .i64 save, .string le] 52)).alloc (.cells #[.int .i64 0, .int .i64 0, .int .i64 0, .string ⟨#[]⟩] 65)) = W at *
  clear k1 k2 kb
  obtain ⟨x0, x1, x2, x3, x4, x5, x6, x7, x8, x9, x10⟩ := KB.elevenC
  obtain ⟨_, r0, r1, r2, r3, f0, f1, f2, f3⟩ := kr.four
  have i5 : w.heap.size + 1 ≠ w.heap.size := by omega
  have i6 := Ne.symm i5
  go_wp2_with (first | (go_at_call 127; refine (IF.out _).mono ?_; clear IF; rintro e W9 ⟨rfl, hk⟩; replace KB := KB.below hk; replace kr := kr.below hk; replace hb := below_thru hb hk; clear hk x0 x1 x2 x3 x4 x5 x6 x7 x8 x9 x10 r0 r1 r2 r3 f0 f1 f2 f3; obtain ⟨x0, x1, x2, x3, x4, x5, x6, x7, x8, x9, x10⟩ := KB.elevenC; obtain ⟨_, r0, r1, r2, r3, f0, f1, f2, f3⟩ := kr.four) | (go_at_call 42; refine (LO.out _ (LE.mono hb)).mono ?_; clear LO; rintro e W9 ⟨rfl, hk⟩; replace KB := KB.below hk; replace kr := kr.below hk; replace hb := below_thru hb hk; clear hk x0 x1 x2 x3 x4 x5 x6 x7 x8 x9 x10 r0 r1 r2 r3 f0 f1 f2 f3; obtain ⟨x0, x1, x2, x3, x4, x5, x6, x7, x8, x9, x10⟩ := KB.elevenC; obtain ⟨_, r0, r1, r2, r3, f0, f1, f2, f3⟩ := kr.four))
  obtain ⟨_, P0, P1, P2, P3, _⟩ := (kr.self4 (.int .i64 a) (.int .i64 re) (.int .i64 save) (.string le)).four
  have HB := (((hb.setCell (p := ⟨w.heap.size + 1, 0, none⟩) (by show _ ≤ w.heap.size + 1; omega) (.int .i64 a)).setCell (p := ⟨w.heap.size + 1, 1, none⟩) (by show _ ≤ w.heap.size + 1; omega) (.int .i64 re)).setCell (p := ⟨w.heap.size + 1, 2, none⟩) (by show _ ≤ w.heap.size + 1; omega) (.int .i64 save)).setCell (p := ⟨w.heap.size + 1, 3, none⟩) (by show _ ≤ w.heap.size + 1; omega) (.string le)
  exact bodyPost_ret (v := .tuple #[.agg #[.int .i64 a, .int .i64 re, .int .i64 save, .string le], .bool true]) (by simp [results, Tryz.results100, go_sem, P0, P1, P2, P3]) rfl ⟨rfl, HB⟩
theorem turnE (x : Rl) (y : Int) (w : World) (LE : Lens w) : Calls Tryz.prog 100 #[x.val, .int .i64 y] w (RetTB w (turnO x y)) := by
  have lo := fun W (L : Lens W) => localMP x.sp y W L
  have inn := fun W => inForceE x y W
  obtain ⟨nm, fr, last, ⟨mo, ki, wd, da, ti, re⟩, save, le⟩ := x
  cases h1 : wiB y fr last with
  | false =>
    have inn' := fun W => (h1 ▸ inn W : Calls Tryz.prog 127 #[.agg #[.string nm, .int .i64 fr, .int .i64 last, .int .i64 mo, .int .i64 ki, .int .i64 wd, .int .i64 da, .int .i64 ti, .int .i64 re, .int .i64 save, .string le], .int .i64 y] W (RetV W (.bool false)))
    rw [turnO_none (fun c => by have := wiB_is.2 c.1; simp only at this; rw [h1] at this; cases this)]
    exact tn_a _ _ _ _ _ _ _ _ _ _ _ _ (Lib.hid inn') w LE
  | true =>
    have inn' := fun W => (h1 ▸ inn W : Calls Tryz.prog 127 #[.agg #[.string nm, .int .i64 fr, .int .i64 last, .int .i64 mo, .int .i64 ki, .int .i64 wd, .int .i64 da, .int .i64 ti, .int .i64 re, .int .i64 save, .string le], .int .i64 y] W (RetV W (.bool true)))
    by_cases h3 : onOk ⟨mo, ki, wd, da, ti, re⟩ y
    · rw [turnO_some ⟨wiB_is.1 h1, h3⟩]
      rw [decide_eq_true h3] at lo
      exact tn_c _ _ _ _ _ _ _ _ _ _ _ _ (Lib.hid inn') _ (Lib.hid lo) w LE
    · rw [turnO_none (fun c => h3 c.2)]
      rw [decide_eq_false h3] at lo
      exact tn_b _ _ _ _ _ _ _ _ _ _ _ _ (Lib.hid inn') _ (Lib.hid lo) w LE
structure TwoW (w : World) (a b : List Value) (X : World) : Prop where
  hb : Below w.heap.size w X
  ka : Blk X w.heap.size a
  kb : Blk X (w.heap.size + 1) b
theorem TwoW.below {w : World} {a b : List Value} {X X' : World} (h : TwoW w a b X) (k : Below X.heap.size X X') : TwoW w a b X' := ⟨below_thru h.hb k, h.ka.below k, h.kb.below k⟩
theorem twoE_boxes (w : World) (a b : List Value) (s t : TypeId) : TwoW w a b ((w.alloc (.cells a.toArray s)).alloc (.cells b.toArray t)) := by
  have k1 := below_box w (.cells a.toArray s)
  have k2 := below_box (w.alloc (.cells a.toArray s)) (.cells b.toArray t)
  have b2 := blk_lit (w.alloc (.cells a.toArray s)) t b
  simp only [World.size_alloc] at b2
  exact ⟨below_thru k1 k2, (blk_lit w s a).below k2, b2⟩
theorem turn_small {x : Rl} {y : Int} (h : turnIn x y) : -100000000000 ≤ (turnT x y).at_ ∧ (turnT x y).at_ ≤ 10000000000000 := by
  have t := turn_year h
  have y1 := onOk_year h.2
  have j1 := jan_le y1.1
  have j2 := jan_le (show y + 1 ≤ 275761 by omega)
  have c1 : jan 1 = -719162 := by decide
  have c2 : jan 275761 ≤ 100010000 := by decide
  omega
end Go.Proofs.YtallclimljiplaaGreatDoor
namespace Go.Proofs.YtallclimljiplaaGreatDoor
open Go.RowKit Go.Shelf
attribute [local go_sem] Oper.semAt_some
def yearTop (T Y : Int) : Prop := T < jan (Y + 1) * 86400 ∨ Y = 275760
theorem top_turn {T Y : Int} (h : yearTop T Y) {x : Rl} {y : Int} (hy : turnIn x y) (l : Y + 1 < y) : T + 200000 < (turnT x y).at_ := by
  have t := (turn_year hy).1
  have y1 := onOk_year hy.2
  rcases h with h | rfl
  · have a := jan_lt (a := Y + 1) (b := Y + 2) (by omega)
    have b := jan_le (a := Y + 2) (b := y) (by omega)
    omega
  · omega
theorem noneFrom_head {x : Rl} {P : Tn → Prop} {T Y : Int} (h : yearTop T Y) (hP : ∀ t : Tn, P t → t.at_ ≤ T + 200000) : noneFrom x P (min (Y + 1) x.last) := fun z hz l p => by
  by_cases c : x.last < z
  · have := hz.1.2; omega
  · have := top_turn h hz (by omega)
    have := hP _ p
    omega
theorem tdiv_both (T : Int) : T.tdiv 86400 * 86400 - 86400 < T ∧ T < T.tdiv 86400 * 86400 + 86400 := by
  by_cases s : 0 ≤ T
  · rw [Int.tdiv_eq_ediv_of_nonneg s]; omega
  · have := (tdiv_neg_day (T := T) (by omega)).1
    omega
theorem tdiv_neg (T : Int) (h : T < 0) : T ≤ T.tdiv 86400 * 86400 := by
  have := (tdiv_neg_day (T := T) h).1
  omega
theorem yrE_core (T q : Int) (q1 : -106751991167301 ≤ q) (q2 : q ≤ 106751991167301) (hq : T.tdiv 86400 = q) (y m d : Int) (OFR : Hid (∀ W, Lens W → Calls Tryz.prog 92 #[.int .i64 (min (max q (-100000001)) 100000000)] W (RetDateB W y m d true))) (w : World) (LE : Lens w) : Calls Tryz.prog 142 #[.int .i64 T] w (RetN w y) := by
  have LE := Lib.hid LE
  have hw : IntKind.i64.wrap (T.tdiv 86400) = q := by rw [hq]; exact IntWalk.i64_in _ (by omega)
  clear hq
  go_enter Tryz.func142, Tryz.ntmps142
  go_wp2_with (go_at_call 92; refine (OFR.out _ LE.out).mono ?_; clear OFR; rintro e W9 ⟨rfl, hk⟩)
  go_ret
  exact ⟨rfl, below_thru hk (below_box _ _)⟩
theorem yearE (T : Int) (h : In64 T) : ∃ Y, (yearTop T Y ∧ -271821 ≤ Y ∧ Y ≤ 275760) ∧ ∀ w, Lens w → Calls Tryz.prog 142 #[.int .i64 T] w (RetN w Y) := by
  have b := tdiv_both T
  have ng := tdiv_neg T
  obtain ⟨q, hq⟩ : ∃ q, q = T.tdiv 86400 := ⟨_, rfl⟩
  rw [← hq] at b ng
  obtain ⟨n, hn⟩ : ∃ n, n = min (max q (-100000001)) 100000000 := ⟨_, rfl⟩
  obtain ⟨y, m, d, k, e⟩ := day_of n
  have yr := num_year k
  rw [e] at yr
  unfold In64 at h
  have c1 : jan 275760 ≤ 100000000 ∧ 100000000 < jan 275761 := by decide
  have c3 : jan (-271821) < -100000001 := by decide
  refine ⟨y, ⟨?_, ?_, ?_⟩, fun w L => yrE_core T q (by omega) (by omega) hq.symm y m d (Lib.hid fun W LW => by rw [← hn]; exact ofP_yes n y m d ⟨k, by omega, by omega⟩ e W LW) w L⟩
  · by_cases c : q ≤ 100000000
    · left
      by_cases s : 0 ≤ T
      · omega
      · have := ng (by omega); omega
    · right
      apply Classical.byContradiction
      intro ne
      rcases Int.lt_or_gt_of_ne ne with l | l
      · have := jan_le (show y + 1 ≤ 275760 by omega); omega
      · have := jan_le (show 275761 ≤ y by omega); omega
  · apply Classical.byContradiction
    intro l
    have := jan_le (show y + 1 ≤ -271821 by omega)
    omega
  · apply Classical.byContradiction
    intro l
    have := jan_le (show 275761 ≤ y by omega)
    omega
abbrev Yr : Type := { y : Int // -300000 ≤ y ∧ y ≤ 300000 }
def yrs (l : List Yr) : List Int := l.map (·.1)
theorem yrs_snoc (l : List Yr) (x : Yr) : yrs (l ++ [x]) = yrs l ++ [x.1] := by simp [yrs]
def downs (top : Int) (k : Nat) : List Int := (List.range k).map (fun i : Nat => top - (i : Int))
theorem downs_succ (top : Int) (k : Nat) : downs top (k + 1) = downs top k ++ [top - (k : Int)] := by simp [downs, List.range_succ]
theorem downs_mem {top : Int} {k : Nat} {y : Int} : y ∈ downs top k ↔ y ≤ top ∧ top - (k : Int) < y := by
  unfold downs
  rw [List.mem_map]
  constructor
  · rintro ⟨i, hi, rfl⟩
    have := List.mem_range.1 hi
    omega
  · rintro ⟨h1, h2⟩
    exact ⟨(top - y).toNat, List.mem_range.2 (by omega), by omega⟩
theorem lastYearsE (x : Rl) (T : Int) (w : World) : Calls Tryz.prog 126 #[x.val, .int .i64 T] w (fun e w' => e = .returned (.func (.func 141) #[] #[.pointer (some ⟨w.heap.size + 1, 0, none⟩), .pointer (some ⟨w.heap.size, 0, none⟩)]) ∧ w' = (w.alloc (.cells x.vals.toArray 52)).alloc (.cells #[.int .i64 T] 2)) := by
  obtain ⟨nm, fr, last, ⟨mo, ki, wd, da, ti, re⟩, save, le⟩ := x
  show Calls Tryz.prog 126 #[.agg #[.string nm, .int .i64 fr, .int .i64 last, .int .i64 mo, .int .i64 ki, .int .i64 wd, .int .i64 da, .int .i64 ti, .int .i64 re, .int .i64 save, .string le], .int .i64 T] w (fun e w' => e = .returned (.func (.func 141) #[] #[.pointer (some ⟨w.heap.size + 1, 0, none⟩), .pointer (some ⟨w.heap.size, 0, none⟩)]) ∧ w' = (w.alloc (.cells #[.string nm, .int .i64 fr, .int .i64 last, .int .i64 mo, .int .i64 ki, .int .i64 wd, .int .i64 da, .int .i64 ti, .int .i64 re, .int .i64 save, .string le] 52)).alloc (.cells #[.int .i64 T] 2))
  go_enter Tryz.func126, Tryz.ntmps126
  go_wp2
  go_ret
  exact ⟨rfl, rfl⟩
def topS (top fr : Int) (ys : List Yr) : Prop := yrs ys = downs top (top - fr + 1).toNat
def topP (top fr : Int) (ys : List Yr) : Prop := ∃ k : Nat, yrs ys = downs top (k + 1) ∧ fr ≤ top - k
theorem ly_iter (n : Nat) (hn : 1 ≤ n) (l Bt Br n₀ : Nat) (fr last T Y : Int) (f1 : 1 ≤ fr) (f2 : fr ≤ 9999) (l1 : 1 ≤ last) (l2 : last ≤ 1000000) (YR : ∀ w, Lens w → Calls Tryz.prog 142 #[.int .i64 T] w (RetN w Y)) (y1 : -271821 ≤ Y) (y2 : Y ≤ 275760)
    (J Jx : List Yr → World → Prop) (W : World) (LE : Lens W) (hJ : AbidesFrom W.heap.size J)
    (hY : ∀ pre x W1, J pre W1 → pre.length < 300000 → YieldAt Fence.wide (n - 1) Tryz.prog l #[.int .i64 x.1] W1 fun e W' => (e = .returned (.bool true) ∧ J (pre ++ [x]) W' ∧ Below n₀ W1 W') ∨ (e = .returned (.bool false) ∧ Jx (pre ++ [x]) W'))
    (hr : Br < n₀) (hn0 : n₀ ≤ W.heap.size) (ct : W.cell? ⟨Bt, 0, none⟩ = some (.int .i64 T)) (c1 : W.cell? ⟨Br, 1, none⟩ = some (.int .i64 fr)) (c2 : W.cell? ⟨Br, 2, none⟩ = some (.int .i64 last)) (h0 : J [] W) :
    CallsIn Fence.wide n Tryz.prog 141 #[.func (.yield l) #[] #[], .pointer (some ⟨Bt, 0, none⟩), .pointer (some ⟨Br, 0, none⟩)] W fun e W' => (∃ v, e = .returned v) ∧ ((∃ ys, topS (min (Y + 1) last) fr ys ∧ J ys W') ∨ (∃ pre, topP (min (Y + 1) last) fr pre ∧ Jx pre W')) := by
  have mixed : Tryz.prog.follows Departure.mixedOrders = true := by kernel_rfl
  have YC := Lib.hid (fun (W' : World) (h : Below W.heap.size W W') => (callsIn_wide.2 (YR W' (LE.mono h)) : CallsIn Fence.wide (n - 1) Tryz.prog 142 #[.int .i64 T] W' (RetN W' Y)))
  have brW : Br < W.heap.size := by omega
  clear YR LE
  refine callsIn_of_wp Tryz.func141 rfl trivial ?_ rfl
  simp only [Tryz.ntmps141, List.size_toArray, List.length_cons, List.length_nil, Nat.reduceAdd, Nat.reduceSub, Array.replicate_succ, Array.replicate_zero, List.push_toArray, List.append_toArray, List.nil_append, List.cons_append]
  gi_upto_region 0 with (fail)
  gi_cut [4] from 5 (fun v4 wx => v4 = .int .i64 (min (Y + 1) last) ∧ Below W.heap.size W wx)
  case first =>
    gi_region_with_o
      (refine ⟨trivial, ?_⟩
       gi_at_call 142
       refine (YC.out _ (by first | exact Below.refl _ _ | exact (Below.refl _ _).drew | exact below_drewN (Below.refl _ _) _)).mono ?_
       rintro e W1 ⟨rfl, hk⟩
       have hb1 : Below W.heap.size W W1 := by first | exact hk | exact (below_drewN (Below.refl W.heap.size W) _).trans hk
       have c2' := (hb1.cell (p := ⟨Br, 2, none⟩) brW).trans c2)
    all_goals gi_wp2
    all_goals gi_meet
    all_goals exact ⟨by rw [IntWalk.i64_in _ (by omega)], hb1⟩
  case rest =>
    obtain ⟨rfl, hbx⟩ := hcut
    have hJx := hJ _ _ _ none h0 (below_own hbx) (fun r c => by cases c)
    have d1 := (hbx.cell (p := ⟨Br, 1, none⟩) brW).trans c1
    obtain ⟨top, htop⟩ : ∃ top, top = min (Y + 1) last := ⟨_, rfl⟩
    have t1 : -300000 ≤ top := by omega
    have t2 : top ≤ 275761 := by omega
    rw [← htop]
    have HT := Lib.hid htop
    clear htop c1 c2 ct YC hbx
    gi_wp2
    gi_loopw [4] (fun p wr => ∃ (pre : List Yr) (y : Int), p = .int .i64 y ∧ y = top - (pre.length : Int) ∧ yrs pre = downs top pre.length ∧ (pre.length = 0 ∨ fr - 1 ≤ y) ∧ J pre wr ∧ wr.cell? ⟨Br, 1, none⟩ = some (.int .i64 fr)) (fun p _ => (intOf p - fr + 1).toNat)
    case atStart => exact ⟨[], top, rfl, by simp, rfl, .inl rfl, hJx, d1⟩
    case round =>
      clear hJx d1
      obtain ⟨pre, y, rfl, hy0, hx, hp, hJs, z1⟩ := hrel
      have HX := Lib.hid hx
      have HP := Lib.hid hp
      clear hx hp
      by_cases h : fr ≤ y
      · have hl : pre.length < 300000 := by omega
        have hy1 : -300000 ≤ y := by omega
        have hy2 : y ≤ 300000 := by omega
        obtain ⟨fn, tmps, assign, body, hy, hR⟩ := hY pre ⟨y, hy1, hy2⟩ wr hJs hl
        dsimp only at hy
        have HY0 := Lib.hid hy0
        clear hy0
        gi_wp2
        refine hR.mono ?_
        rintro e W3 (⟨rfl, hJ3, hk3⟩ | ⟨rfl, hJx3⟩)
        · have z3 := (hk3.cell (p := ⟨Br, 1, none⟩) hr).trans z1
          have NX := Lib.hid (show yrs (pre ++ [⟨y, hy1, hy2⟩]) = downs top (pre ++ [(⟨y, hy1, hy2⟩ : Yr)]).length from by rw [yrs_snoc, List.length_append, List.length_singleton, downs_succ, ← HX.out, ← HY0.out])
          gi_wp2
          go_roundw
          case rel => exact ⟨pre ++ [⟨y, hy1, hy2⟩], y - 1, by first | rfl | exact int_eqS (by omega), by have := HY0.out; rw [List.length_append, List.length_singleton]; push_cast; omega, NX.out, .inr (by omega), hJ3, z3⟩
          case measure => simp only [intOf]; omega
        · have ST := Lib.hid (show topP top fr (pre ++ [⟨y, hy1, hy2⟩]) from ⟨pre.length, by rw [yrs_snoc, downs_succ, ← HX.out, ← HY0.out], by rw [← HY0.out]; exact h⟩)
          gi_wp2
          refine bodyPost_ret (results_none rfl _ _ _) rfl ?_
          exact ⟨⟨_, rfl⟩, .inr ⟨_, HT.out ▸ ST.out, hJx3⟩⟩
      · have ST := Lib.hid (show topS top fr pre from by
          have hp := HP.out
          unfold topS
          rw [HX.out, show (top - fr + 1).toNat = pre.length by omega])
        gi_wp2
        go_end0
        exact ⟨⟨_, rfl⟩, .inl ⟨pre, HT.out ▸ ST.out, hJs⟩⟩
theorem ly_stops (n : Nat) (hn : 1 ≤ n) (Bt Br n₀ : Nat) (fr last T Y : Int) (f1 : 1 ≤ fr) (f2 : fr ≤ 9999) (l1 : 1 ≤ last) (l2 : last ≤ 1000000) (YR : ∀ w, Lens w → Calls Tryz.prog 142 #[.int .i64 T] w (RetN w Y)) (y1 : -271821 ≤ Y) (y2 : Y ≤ 275760)
    (w : World) (LE : Lens w) (hr : Br < n₀) (ht : Bt < n₀) (hn0 : n₀ ≤ w.heap.size) (ct : w.cell? ⟨Bt, 0, none⟩ = some (.int .i64 T)) (c1 : w.cell? ⟨Br, 1, none⟩ = some (.int .i64 fr)) (c2 : w.cell? ⟨Br, 2, none⟩ = some (.int .i64 last)) :
    SeqStopsK Fence.wide n Tryz.prog 141 #[.pointer (some ⟨Bt, 0, none⟩), .pointer (some ⟨Br, 0, none⟩)] (fun x : Yr => #[Value.int .i64 x.1]) (Below n₀) (topS (min (Y + 1) last) fr) (topP (min (Y + 1) last) fr) 300000 w := fun l J Jx W hW hJ _ hY h0 =>
  ly_iter n hn l Bt Br n₀ fr last T Y f1 f2 l1 l2 YR y1 y2 J Jx W (LE.mono hW) hJ hY hr (Nat.le_trans hn0 hW.size) ((hW.cell (p := ⟨Bt, 0, none⟩) (by show Bt < _; omega)).trans ct) ((hW.cell (p := ⟨Br, 1, none⟩) (by show Br < _; omega)).trans c1) ((hW.cell (p := ⟨Br, 2, none⟩) (by show Br < _; omega)).trans c2) h0
end Go.Proofs.YtallclimljiplaaGreatDoor
namespace Go.Proofs.YtallclimljiplaaGreatDoor
open Go.RowKit Go.Shelf
attribute [local go_sem] Oper.semAt_some
structure LaW (w : World) (a : List Value) (tk : Value) (r : List Value) (f : Value) (X : World) : Prop where
  hb : Below w.heap.size w X
  k0 : Blk X w.heap.size a
  k1 : Blk X (w.heap.size + 1) [tk]
  k2 : Blk X (w.heap.size + 1 + 1) r
  k3 : Blk X (w.heap.size + 1 + 1 + 1) [f]
theorem LaW.below {w : World} {a : List Value} {tk : Value} {r : List Value} {f : Value} {X X' : World} (h : LaW w a tk r f X) (k : Below X.heap.size X X') : LaW w a tk r f X' := ⟨below_thru h.hb k, h.k0.below k, h.k1.below k, h.k2.below k, h.k3.below k⟩
theorem LaW.grown {w : World} {a : List Value} {tk : Value} {r : List Value} {f : Value} {X X' : World} {row : Option Nat} {b : Nat} (h : LaW w a tk r f X) (G : X.grownBy X' row) (hr : ∀ q, row = some q → b ≤ q) (hq : w.heap.size + 4 ≤ b) : LaW w a tk r f X' :=
  ⟨h.hb.grown G h.hb.size (fun k e => by have := hr k e; omega), blk_grown G (fun q e => by have := hr q e; omega) h.k0, blk_grown G (fun q e => by have := hr q e; omega) h.k1, blk_grown G (fun q e => by have := hr q e; omega) h.k2, blk_grown G (fun q e => by have := hr q e; omega) h.k3⟩
theorem la_boxes (w : World) (a : List Value) (tk : Value) (r : List Value) (f : Value) (s t u v : TypeId) : LaW w a tk r f ((((w.alloc (.cells a.toArray s)).alloc (.cells #[tk] t)).alloc (.cells r.toArray u)).alloc (.cells #[f] v)) := by
  have k1 := below_box w (.cells a.toArray s)
  have k2 := below_box (w.alloc (.cells a.toArray s)) (.cells #[tk] t)
  have k3 := below_box ((w.alloc (.cells a.toArray s)).alloc (.cells #[tk] t)) (.cells r.toArray u)
  have k4 := below_box (((w.alloc (.cells a.toArray s)).alloc (.cells #[tk] t)).alloc (.cells r.toArray u)) (.cells #[f] v)
  have b1 := blk_lit (w.alloc (.cells a.toArray s)) t [tk]
  have b2 := blk_lit ((w.alloc (.cells a.toArray s)).alloc (.cells #[tk] t)) u r
  have b3 := blk_lit (((w.alloc (.cells a.toArray s)).alloc (.cells #[tk] t)).alloc (.cells r.toArray u)) v [f]
  simp only [World.size_alloc] at b1 b2 b3
  exact ⟨below_thru (below_thru (below_thru k1 k2) k3) k4, (((blk_lit w s a).below k2).below k3).below k4, (b1.below k3).below k4, b2.below k4, b3⟩
theorem LaW.store {w : World} {a : List Value} {tk r0 r1 r2 r3 f : Value} {X : World} (h : LaW w a tk [r0, r1, r2, r3] f X) (u v x y g : Value) : LaW w a tk [u, v, x, y] g (((((X.setCell ⟨w.heap.size + 1 + 1, 0, none⟩ u).setCell ⟨w.heap.size + 1 + 1, 1, none⟩ v).setCell ⟨w.heap.size + 1 + 1, 2, none⟩ x).setCell ⟨w.heap.size + 1 + 1, 3, none⟩ y).setCell ⟨w.heap.size + 1 + 1 + 1, 0, none⟩ g) :=
  ⟨((((h.hb.setCell (p := ⟨w.heap.size + 1 + 1, 0, none⟩) (by show _ ≤ w.heap.size + 1 + 1; omega) u).setCell (p := ⟨w.heap.size + 1 + 1, 1, none⟩) (by show _ ≤ w.heap.size + 1 + 1; omega) v).setCell (p := ⟨w.heap.size + 1 + 1, 2, none⟩) (by show _ ≤ w.heap.size + 1 + 1; omega) x).setCell (p := ⟨w.heap.size + 1 + 1, 3, none⟩) (by show _ ≤ w.heap.size + 1 + 1; omega) y).setCell (p := ⟨w.heap.size + 1 + 1 + 1, 0, none⟩) (by show _ ≤ w.heap.size + 1 + 1 + 1; omega) g,
    ((((h.k0.far (by omega) 0 u).far (by omega) 1 v).far (by omega) 2 x).far (by omega) 3 y).far (by omega) 0 g, ((((h.k1.far (by omega) 0 u).far (by omega) 1 v).far (by omega) 2 x).far (by omega) 3 y).far (by omega) 0 g, (h.k2.self4 u v x y).far (by omega) 0 g, ((((h.k3.far (by omega) 0 u).far (by omega) 1 v).far (by omega) 2 x).far (by omega) 3 y).self1 g⟩
theorem others_of (W W' : World) (b : Below W.heap.size W W') : KeepsOthers W W' := ⟨b.size, fun k _ h _ => (b.block k (Array.getElem?_eq_some_iff.1 h).1).trans h⟩
theorem others_five (X : World) (p1 p2 p3 p4 p5 : Addr) (u v x y g : Value) : KeepsOthers X (((((X.setCell p1 u).setCell p2 v).setCell p3 x).setCell p4 y).setCell p5 g) :=
  ((((KeepsOthers.setCell _ _ _).trans (KeepsOthers.setCell _ _ _)).trans (KeepsOthers.setCell _ _ _)).trans (KeepsOthers.setCell _ _ _)).trans (KeepsOthers.setCell _ _ _)
theorem latest_none {x : Rl} {P : Tn → Prop} {top : Int} (h : noneFrom x P top) {ys : List Yr} (hS : topS top x.fr ys) (no : ∀ z ∈ yrs ys, ¬ (turnIn x z ∧ P (turnT x z))) : LatestOf x P none := fun z hz p => by
  by_cases l : top < z
  · exact h z hz l p
  · refine no z ?_ ⟨hz, p⟩
    rw [show yrs ys = _ from hS, downs_mem]
    have := hz.1.1
    omega
theorem latest_some {x : Rl} {P : Tn → Prop} {top : Int} (h : noneFrom x P top) {ys ys' : List Yr} {z : Int} (hS : topP top x.fr ys) (e : yrs ys = yrs ys' ++ [z]) (no : ∀ u ∈ yrs ys', ¬ (turnIn x u ∧ P (turnT x u))) (hit : turnIn x z ∧ P (turnT x z)) : LatestOf x P (some z) := by
  obtain ⟨k, hk, _⟩ := hS
  rw [hk, downs_succ] at e
  obtain ⟨e1, e2⟩ := List.append_inj' e rfl
  have e3 : top - (k : Int) = z := by simpa using e2
  refine ⟨hit.1, hit.2, fun u hu p => ?_⟩
  apply Classical.byContradiction
  intro l
  by_cases l2 : top < u
  · exact h u hu l2 p
  · refine no u ?_ ⟨hu, p⟩
    rw [← e1, downs_mem]
    omega
theorem lastE (x : Rl) (fx : x.fit) (T : Int) (hT : In64 T) (gT : Nat) (lbT : Array Value) (eg : ∀ args w, (callFunc gT args).run Tryz.prog w = .ok (.enter gT args) w) (PB : Tn → Bool) (hP : ∀ t, PB t = true → t.at_ ≤ T + 200000) (w : World) (LE : Lens w)
    (TK : ∀ W, Below w.heap.size w W → ∀ y, turnIn x y → Calls Tryz.prog gT (#[(turnT x y).val] ++ lbT) W (RetV W (.bool (PB (turnT x y))))) :
    Calls Tryz.prog 98 #[x.val, .int .i64 T, .func (.func gT) #[] lbT] w (fun e w' => ∃ r, LatestOf x (fun t => PB t = true) r ∧ RetTB w (r.map (turnT x)) e w') := by
  obtain ⟨Y, ⟨hY, y1, y2⟩, YR⟩ := yearE T hT
  have NT := Lib.hid (noneFrom_head (x := x) (P := fun t => PB t = true) hY hP)
  have LY := fun W => lastYearsE x T W
  have TE := Lib.hid (fun y W (L : Lens W) => turnE x y W L)
  have LE := Lib.hid LE
  have YR := Lib.hid YR
  have f1 := fx.1.1
  have f2 := fx.1.2
  have l1 := fx.2.1.1
  have l2 : x.last ≤ 1000000 := by have := fx.2.1.2; omega
  clear hY hT fx
  obtain ⟨X, hX⟩ : ∃ X, X = x := ⟨_, rfl⟩
  rw [← hX] at NT TE TK ⊢
  have HX := Lib.hid hX
  have TK := Lib.hid TK
  have FR := Lib.hid (show x.fr = X.fr by rw [hX])
  have LA := Lib.hid (show x.last = X.last by rw [hX])
  clear hX
  obtain ⟨nm, fr, last, ⟨mo, ki, wd, da, ti, re⟩, save, le⟩ := x
  simp only at f1 f2 l1 l2
  replace LY := Lib.hid (fun W => (show Calls Tryz.prog 126 #[.agg #[.string nm, .int .i64 fr, .int .i64 last, .int .i64 mo, .int .i64 ki, .int .i64 wd, .int .i64 da, .int .i64 ti, .int .i64 re, .int .i64 save, .string le], .int .i64 T] W (fun e w' => e = .returned (.func (.func 141) #[] #[.pointer (some ⟨W.heap.size + 1, 0, none⟩), .pointer (some ⟨W.heap.size, 0, none⟩)]) ∧ w' = (W.alloc (.cells #[.string nm, .int .i64 fr, .int .i64 last, .int .i64 mo, .int .i64 ki, .int .i64 wd, .int .i64 da, .int .i64 ti, .int .i64 re, .int .i64 save, .string le] 52)).alloc (.cells #[.int .i64 T] 2)) from LY W))
  rw [show X.val = .agg #[.string nm, .int .i64 fr, .int .i64 last, .int .i64 mo, .int .i64 ki, .int .i64 wd, .int .i64 da, .int .i64 ti, .int .i64 re, .int .i64 save, .string le] from by rw [HX.out]; rfl]
  refine (callsIn_wide (n := 7)).1 ?_
  refine callsIn_of_wp_marks Tryz.func98 rfl trivial ?_ rfl
  simp only [Tryz.ntmps98, List.size_toArray, List.length_cons, List.length_nil, Nat.reduceAdd, Nat.reduceSub, Array.replicate_succ, Array.replicate_zero, List.push_toArray, List.append_toArray, List.nil_append, List.cons_append]
  gi_upto_region 1 with (fail)
  have HW : LaW w [.string nm, .int .i64 fr, .int .i64 last, .int .i64 mo, .int .i64 ki, .int .i64 wd, .int .i64 da, .int .i64 ti, .int .i64 re, .int .i64 save, .string le] (.func (.func gT) #[] lbT) [.int .i64 0, .int .i64 0, .int .i64 0, .string ⟨#[]⟩] (.bool false) ((((w.alloc (.cells #[.string nm, .int .i64 fr, .int .i64 last, .int .i64 mo, .int .i64 ki, .int .i64 wd, .int .i64 da, .int .i64 ti, .int .i64 re, .int .i64 save, .string le] 52)).alloc (.cells #[.func (.func gT) #[] lbT] 106)).alloc (.cells #[.int .i64 0, .int .i64 0, .int .i64 0, .string ⟨#[]⟩] 65)).alloc (.cells #[.bool false] 4)) := la_boxes w _ _ _ _ _ _ _ _
  have sz : ((((w.alloc (.cells #[.string nm, .int .i64 fr, .int .i64 last, .int .i64 mo, .int .i64 ki, .int .i64 wd, .int .i64 da, .int .i64 ti, .int .i64 re, .int .i64 save, .string le] 52)).alloc (.cells #[.func (.func gT) #[] lbT] 106)).alloc (.cells #[.int .i64 0, .int .i64 0, .int .i64 0, .string ⟨#[]⟩] 65)).alloc (.cells #[.bool false] 4)).heap.size = w.heap.size + 4 := by simp
  generalize ((((w.alloc (.cells #[.string nm, .int .i64 fr, .int .i64 last, .int .i64 mo, .int .i64 ki, .int .i64 wd, .int .i64 da, .int .i64 ti, .int .i64 re, .int .i64 save, .string le] 52)).alloc (.cells #[.func (.func gT) #[] lbT] 106)).alloc (.cells #[.int .i64 0, .int .i64 0, .int .i64 0, .string ⟨#[]⟩] 65)).alloc (.cells #[.bool false] 4)) = W at *
  obtain ⟨x0, x1, x2, x3, x4, x5, x6, x7, x8, x9, x10⟩ := HW.k0.elevenC
  gi_wp2_with (refine ⟨trivial, ?_⟩; gi_at_call 126; refine (callsIn_wide.2 (LY.out _)).mono ?_; clear LY; rintro e w' ⟨rfl, rfl⟩)
  have HT := twoE_boxes W [.string nm, .int .i64 fr, .int .i64 last, .int .i64 mo, .int .i64 ki, .int .i64 wd, .int .i64 da, .int .i64 ti, .int .i64 re, .int .i64 save, .string le] [.int .i64 T] 52 2
  rw [show ([.string nm, .int .i64 fr, .int .i64 last, .int .i64 mo, .int .i64 ki, .int .i64 wd, .int .i64 da, .int .i64 ti, .int .i64 re, .int .i64 save, .string le] : List Value).toArray = #[.string nm, .int .i64 fr, .int .i64 last, .int .i64 mo, .int .i64 ki, .int .i64 wd, .int .i64 da, .int .i64 ti, .int .i64 re, .int .i64 save, .string le] from rfl, show ([.int .i64 T] : List Value).toArray = #[.int .i64 T] from rfl] at HT
  have hbW := HT.hb
  have c1 : ((W.alloc (.cells #[.string nm, .int .i64 fr, .int .i64 last, .int .i64 mo, .int .i64 ki, .int .i64 wd, .int .i64 da, .int .i64 ti, .int .i64 re, .int .i64 save, .string le] 52)).alloc (.cells #[.int .i64 T] 2)).cell? ⟨w.heap.size + 4, 1, none⟩ = some (.int .i64 fr) := by obtain ⟨_, h, _⟩ := HT.ka.elevenC; rw [sz] at h; exact h
  have c2 : ((W.alloc (.cells #[.string nm, .int .i64 fr, .int .i64 last, .int .i64 mo, .int .i64 ki, .int .i64 wd, .int .i64 da, .int .i64 ti, .int .i64 re, .int .i64 save, .string le] 52)).alloc (.cells #[.int .i64 T] 2)).cell? ⟨w.heap.size + 4, 2, none⟩ = some (.int .i64 last) := by obtain ⟨_, _, h, _⟩ := HT.ka.elevenC; rw [sz] at h; exact h
  have ct : ((W.alloc (.cells #[.string nm, .int .i64 fr, .int .i64 last, .int .i64 mo, .int .i64 ki, .int .i64 wd, .int .i64 da, .int .i64 ti, .int .i64 re, .int .i64 save, .string le] 52)).alloc (.cells #[.int .i64 T] 2)).cell? ⟨w.heap.size + 4 + 1, 0, none⟩ = some (.int .i64 T) := by have h := HT.kb.one.2.1; rw [sz] at h; exact h
  have sz0 : ((W.alloc (.cells #[.string nm, .int .i64 fr, .int .i64 last, .int .i64 mo, .int .i64 ki, .int .i64 wd, .int .i64 da, .int .i64 ti, .int .i64 re, .int .i64 save, .string le] 52)).alloc (.cells #[.int .i64 T] 2)).heap.size = w.heap.size + 4 + 1 + 1 := by simp [sz]
  generalize ((W.alloc (.cells #[.string nm, .int .i64 fr, .int .i64 last, .int .i64 mo, .int .i64 ki, .int .i64 wd, .int .i64 da, .int .i64 ti, .int .i64 re, .int .i64 save, .string le] 52)).alloc (.cells #[.int .i64 T] 2)) = W0 at *
  replace HW := HW.below hbW
  have LE0 := LE.out.mono HW.hb
  clear x0 x1 x2 x3 x4 x5 x6 x7 x8 x9 x10 HT hbW
  refine wpIn_rangeFunc_ownG (n := 7) rfl (by omega) (gf := 141) (lb := #[.pointer (some ⟨w.heap.size + 4 + 1, 0, none⟩), .pointer (some ⟨w.heap.size + 4, 0, none⟩)]) rfl trivial (enters_of Tryz.func141 (by kernel_rfl) rfl)
    (ly_stops (7 - 1) (by omega) (w.heap.size + 4 + 1) (w.heap.size + 4) W0.heap.size fr last T Y f1 f2 l1 l2 YR.out y1 y2 W0 LE0 (by omega) (by omega) (Nat.le_refl _) ct c1 c2) belowK_t (belowK_b (Nat.le_refl _)) (Below.refl _ _) (fun _ => rfl)
    (fun pre V => LaW w [.string nm, .int .i64 fr, .int .i64 last, .int .i64 mo, .int .i64 ki, .int .i64 wd, .int .i64 da, .int .i64 ti, .int .i64 re, .int .i64 save, .string le] (.func (.func gT) #[] lbT) [.int .i64 0, .int .i64 0, .int .i64 0, .string ⟨#[]⟩] (.bool false) V ∧ Below W0.heap.size W0 V ∧ ∀ z ∈ yrs pre, ¬ (turnIn X z ∧ PB (turnT X z) = true))
    (fun c pre V => c = .ret ∧ ∃ (pre' : List Yr) (z : Int), yrs pre = yrs pre' ++ [z] ∧ (∀ u ∈ yrs pre', ¬ (turnIn X u ∧ PB (turnT X u) = true)) ∧ (turnIn X z ∧ PB (turnT X z) = true) ∧ LaW w [.string nm, .int .i64 fr, .int .i64 last, .int .i64 mo, .int .i64 ki, .int .i64 wd, .int .i64 da, .int .i64 ti, .int .i64 re, .int .i64 save, .string le] (.func (.func gT) #[] lbT) (turnT X z).vals (.bool true) V)
    (fun s A B row hs hg hr => ⟨hs.1.grown hg (fun q e => (hr q e).1) (by omega), hs.2.1.grown hg hs.2.1.size (fun q e => (hr q e).1), hs.2.2⟩)
    (fun c s A B row hs hg hr => by
      obtain ⟨e, pre', z, h1, h2, h3, h4⟩ := hs
      exact ⟨e, pre', z, h1, h2, h3, h4.grown hg (fun q e => (hr q e).1) (by omega)⟩)
    ⟨HW, Below.refl _ _, fun z hz => by simp [yrs] at hz⟩
    (fun y => { tmps := #[.agg #[.string nm, .int .i64 fr, .int .i64 last, .int .i64 mo, .int .i64 ki, .int .i64 wd, .int .i64 da, .int .i64 ti, .int .i64 re, .int .i64 save, .string le], .int .i64 T, .func (.func gT) #[] lbT, .pointer (some ⟨w.heap.size, 0, none⟩), undef, .pointer (some ⟨w.heap.size + 1, 0, none⟩), .pointer (some ⟨w.heap.size + 1 + 1, 0, none⟩), .pointer (some ⟨w.heap.size + 1 + 1 + 1, 0, none⟩), .int .i64 y.1, undef, undef, .agg #[.string nm, .int .i64 fr, .int .i64 last, .int .i64 mo, .int .i64 ki, .int .i64 wd, .int .i64 da, .int .i64 ti, .int .i64 re, .int .i64 save, .string le], .int .i64 T, .func (.func 141) #[] #[.pointer (some ⟨w.heap.size + 4 + 1, 0, none⟩), .pointer (some ⟨w.heap.size + 4, 0, none⟩)], .int .i64 y.1, undef, undef, undef, undef, undef, undef, undef, undef, undef, undef, undef, undef, undef, undef], defers := [] }) ?assign ?body ?done ?stop
  case assign =>
    intro l x W K hK
    gi_wp2
    exact hK
  case body =>
    rintro l pre ⟨y, hy⟩ V ⟨HV, hbV, hno⟩ hlt
    have NO := Lib.hid hno
    clear hno HW
    dsimp only
    have LEV := Lib.hid (LE.out.mono HV.hb)
    have TC := fun W L => TE.out y W L
    have szV := hbV.size
    obtain ⟨x0, x1, x2, x3, x4, x5, x6, x7, x8, x9, x10⟩ := HV.k0.elevenC
    by_cases h1 : turnIn X y
    · rw [turnO_some h1] at TC
      have TKy := fun V' (k : Below w.heap.size w V') => TK.out V' k y h1
      obtain ⟨t, ht⟩ : ∃ t, t = turnT X y := ⟨_, rfl⟩
      rw [← ht] at TC TKy
      have HTT := Lib.hid ht
      clear ht
      obtain ⟨b, hb0⟩ : ∃ b, b = PB t := ⟨_, rfl⟩
      rw [← hb0] at TKy
      have HB := Lib.hid hb0
      clear hb0
      obtain ⟨ta, tr, ts, tl⟩ := t
      replace TC := Lib.hid (fun W (L : Lens W) => (show Calls Tryz.prog 100 #[.agg #[.string nm, .int .i64 fr, .int .i64 last, .int .i64 mo, .int .i64 ki, .int .i64 wd, .int .i64 da, .int .i64 ti, .int .i64 re, .int .i64 save, .string le], .int .i64 y] W (fun e w' => e = .returned (.tuple #[.agg #[.int .i64 ta, .int .i64 tr, .int .i64 ts, .string tl], .bool true]) ∧ Below W.heap.size W w') from by rw [show (Value.agg #[.string nm, .int .i64 fr, .int .i64 last, .int .i64 mo, .int .i64 ki, .int .i64 wd, .int .i64 da, .int .i64 ti, .int .i64 re, .int .i64 save, .string le]) = X.val from by rw [HX.out]; rfl]; exact TC W L))
      replace TKy := Lib.hid (fun V' (k : Below w.heap.size w V') => (show Calls Tryz.prog gT (#[.agg #[.int .i64 ta, .int .i64 tr, .int .i64 ts, .string tl]] ++ lbT) V' (RetV V' (.bool b)) from TKy V' k))
      gi_upto_region 4 with (refine ⟨trivial, ?_⟩; gi_at_call 100; refine (CallsIn.inRound l (callsIn_wide.2 (TC.out _ LEV.out))).mono ?_; clear TC; rintro e V1 ⟨rfl, hk⟩)
      have KX := Blk.new4 V1 (.int .i64 ta) (.int .i64 tr) (.int .i64 ts) (.string tl) 65
      have hkV := below_thru hk (below_box V1 (.cells #[.int .i64 ta, .int .i64 tr, .int .i64 ts, .string tl] 65))
      generalize V1.alloc (.cells #[.int .i64 ta, .int .i64 tr, .int .i64 ts, .string tl] 65) = V2 at *
      generalize V1.heap.size = q at *
      have HV2 := HV.below hkV
      clear hk x0 x1 x2 x3 x4 x5 x6 x7 x8 x9 x10
      have g1 := HV2.k1.one.2.1
      obtain ⟨_, t0, t1, t2, t3, _⟩ := KX.four
      cases b with
      | true =>
        have HIT := Lib.hid (show turnIn X y ∧ PB (turnT X y) = true from ⟨h1, by rw [← HTT.out]; exact HB.out.symm⟩)
        gi_wp2_with (refine ⟨trivial, ?_⟩; gi_at_fn gT; refine (CallsIn.inRound l (callsIn_wide.2 (TKy.out _ HV2.hb))).mono ?_; clear TKy; rintro e V3 ⟨rfl, hk3⟩; have HV3 := HV2.below hk3; have K3 := KX.below hk3; have hk4 := below_thru hkV hk3; clear t0 t1 t2 t3 g1 hk3 hkV; obtain ⟨_, t0, t1, t2, t3, _⟩ := K3.four; obtain ⟨_, r0, r1, r2, r3, e0, e1, e2, e3⟩ := HV3.k2.four; obtain ⟨_, s0, s1⟩ := HV3.k3.one)
        exact ⟨((others_of _ _ hk4).trans (others_five _ _ _ _ _ _ _ _ _ _ _)).from _, rfl, pre, y, yrs_snoc _ _, NO.out, HIT.out, by rw [← HTT.out]; exact HV3.store _ _ _ _ _⟩
      | false =>
        have MISS := Lib.hid (show ¬ (turnIn X y ∧ PB (turnT X y) = true) from fun c => by have := c.2; rw [← HTT.out, ← HB.out] at this; cases this)
        gi_wp2_with (refine ⟨trivial, ?_⟩; gi_at_fn gT; refine (CallsIn.inRound l (callsIn_wide.2 (TKy.out _ HV2.hb))).mono ?_; clear TKy; rintro e V3 ⟨rfl, hk3⟩; have HV3 := HV2.below hk3; have hk4 := below_thru hkV hk3; clear t0 t1 t2 t3 g1 hk3 hkV)
        exact ⟨(others_of _ _ hk4).from _, hk4.mono szV, HV3, hbV.trans (hk4.mono szV), fun z hz => by
          rw [yrs_snoc, List.mem_append, List.mem_singleton] at hz
          rcases hz with hz | rfl
          · exact NO.out z hz
          · exact MISS.out⟩
    · rw [turnO_none h1] at TC
      have MISS := Lib.hid (show ¬ (turnIn X y ∧ PB (turnT X y) = true) from fun c => h1 c.1)
      replace TC := Lib.hid (fun W (L : Lens W) => (show Calls Tryz.prog 100 #[.agg #[.string nm, .int .i64 fr, .int .i64 last, .int .i64 mo, .int .i64 ki, .int .i64 wd, .int .i64 da, .int .i64 ti, .int .i64 re, .int .i64 save, .string le], .int .i64 y] W (fun e w' => e = .returned (.tuple #[.agg #[.int .i64 0, .int .i64 0, .int .i64 0, .string ⟨#[]⟩], .bool false]) ∧ Below W.heap.size W w') from by rw [show (Value.agg #[.string nm, .int .i64 fr, .int .i64 last, .int .i64 mo, .int .i64 ki, .int .i64 wd, .int .i64 da, .int .i64 ti, .int .i64 re, .int .i64 save, .string le]) = X.val from by rw [HX.out]; rfl]; exact TC W L))
      gi_upto_region 4 with (refine ⟨trivial, ?_⟩; gi_at_call 100; refine (CallsIn.inRound l (callsIn_wide.2 (TC.out _ LEV.out))).mono ?_; clear TC; rintro e V1 ⟨rfl, hk⟩)
      have hkV := below_thru hk (below_box V1 (.cells #[.int .i64 0, .int .i64 0, .int .i64 0, .string ⟨#[]⟩] 65))
      generalize V1.alloc (.cells #[.int .i64 0, .int .i64 0, .int .i64 0, .string ⟨#[]⟩] 65) = V2 at *
      generalize V1.heap.size = q at *
      have HV2 := HV.below hkV
      clear hk x0 x1 x2 x3 x4 x5 x6 x7 x8 x9 x10
      gi_wp2
      refine ⟨fun _ h => (by cases h), ?_⟩
      gi_wp2
      exact ⟨(others_of _ _ hkV).from _, hkV.mono szV, HV2, hbV.trans (hkV.mono szV), fun z hz => by
          rw [yrs_snoc, List.mem_append, List.mem_singleton] at hz
          rcases hz with hz | rfl
          · exact NO.out z hz
          · exact MISS.out⟩
  case done =>
    rintro D ysl V hD hS ⟨HV, hbV, hno⟩ hK
    clear HW
    obtain ⟨_, r0, r1, r2, r3, e0, e1, e2, e3⟩ := HV.k2.four
    obtain ⟨_, s0, s1⟩ := HV.k3.one
    gi_wp2
    have HV5 := HV.store (.int .i64 0) (.int .i64 0) (.int .i64 0) (.string ⟨#[]⟩) (.bool false)
    have hK5 := (others_five V ⟨w.heap.size + 1 + 1, 0, none⟩ ⟨w.heap.size + 1 + 1, 1, none⟩ ⟨w.heap.size + 1 + 1, 2, none⟩ ⟨w.heap.size + 1 + 1, 3, none⟩ ⟨w.heap.size + 1 + 1 + 1, 0, none⟩ (.int .i64 0) (.int .i64 0) (.int .i64 0) (.string ⟨#[]⟩) (.bool false)).same D _ hK rfl
    generalize (((((V.setCell ⟨w.heap.size + 1 + 1, 0, none⟩ (.int .i64 0)).setCell ⟨w.heap.size + 1 + 1, 1, none⟩ (.int .i64 0)).setCell ⟨w.heap.size + 1 + 1, 2, none⟩ (.int .i64 0)).setCell ⟨w.heap.size + 1 + 1, 3, none⟩ (.string ⟨#[]⟩)).setCell ⟨w.heap.size + 1 + 1 + 1, 0, none⟩ (.bool false)) = V5 at *
    refine ⟨by simp, .inl ⟨_, _, rfl, run_takeDeferred hK5, ?_⟩⟩
    have HV6 := HV5.grown (grownBy_putObj' V5 D (.deferred none)) (b := D) (fun q e => by cases e; exact Nat.le_refl _) (by omega)
    obtain ⟨_, P0, P1, P2, P3, _⟩ := HV6.k2.four
    obtain ⟨_, P4, _⟩ := HV6.k3.one
    refine ⟨.tuple #[.agg #[.int .i64 0, .int .i64 0, .int .i64 0, .string ⟨#[]⟩], .bool false], by simp [results, Tryz.results98, go_sem, P0, P1, P2, P3, P4], none, ?_, rfl, HV6.hb⟩
    refine latest_none NT.out (ys := ysl) ?_ hno
    rw [← FR.out, ← LA.out]
    exact hS
  case stop =>
    rintro D c pre V hD hS ⟨rfl, pre', z, e1, no, hit, HV⟩ hK
    clear HW
    gi_wp2
    refine ⟨by simp, .inl ⟨_, _, rfl, run_takeDeferred hK, ?_⟩⟩
    have HV6 := HV.grown (grownBy_putObj' V D (.deferred none)) (b := D) (fun q e => by cases e; exact Nat.le_refl _) (by omega)
    obtain ⟨_, P0, P1, P2, P3, _⟩ := HV6.k2.four
    obtain ⟨_, P4, _⟩ := HV6.k3.one
    refine ⟨.tuple #[(turnT X z).val, .bool true], by simp [results, Tryz.results98, go_sem, P0, P1, P2, P3, P4, Tn.val, Tn.vals], some z, ?_, rfl, HV6.hb⟩
    refine latest_some NT.out (ys := pre) ?_ e1 no hit
    rw [← FR.out, ← LA.out]
    exact hS
end Go.Proofs.YtallclimljiplaaGreatDoor
namespace Go.Proofs.YtallclimljiplaaGreatDoor
open Go.RowKit
theorem latestE (L : List Rl) (hL : fitL L) (T : Int) (hT : In64 T) (gT : Nat) (lbT : Array Value) (eg : ∀ args w, (callFunc gT args).run Tryz.prog w = .ok (.enter gT args) w) (PB : Tn → Bool) (hP : ∀ t, PB t = true → t.at_ ≤ T + 200000) (A : Option Addr) (n c : Nat) (w : World) (hm : RulV w A n c L) (LE : Lens w)
    (TK : ∀ W, Below w.heap.size w W → ∀ i y t, isTurn L i y t → Calls Tryz.prog gT (#[t.val] ++ lbT) W (RetV W (.bool (PB t)))) :
    Calls Tryz.prog 74 #[.slice A n c, .int .i64 T, .func (.func gT) #[] lbT] w (RetTB w (latestO L (fun t => PB t = true))) := by
  have mx : n ≤ 9223372036854775807 := Nat.le_trans hm.cap hm.max
  have LN := Lib.hid (show L.length = n by have := hm.len; simpa using this)
  have HA := Lib.hid hm
  have FIT := Lib.hid hL
  have LC := Lib.hid (fun (k : Nat) (x : Rl) (hx : L[k]? = some x) W (hW : Below w.heap.size w W) => lastE x (hL x (List.mem_of_getElem? hx)) T hT gT lbT eg PB hP W (LE.mono hW) (fun V hV y hy => TK V (below_thru hW hV) k y (turnT x y) ⟨x, hx, hy, rfl⟩))
  clear hm hL TK eg hP LE hT
  go_enter Tryz.func74, Tryz.ntmps74
  go_upto_region 2 with (fail)
  have HW : AhW w [.int .i64 0, .int .i64 0, .int .i64 0, .string ⟨#[]⟩] ((w.alloc (.cells #[.int .i64 0, .int .i64 0, .int .i64 0, .string ⟨#[]⟩] 65)).alloc (.cells #[.int .i64 0, .int .i64 0, .int .i64 0, .string ⟨#[]⟩] 65)) := by
    have k1 := below_box w (.cells #[.int .i64 0, .int .i64 0, .int .i64 0, .string ⟨#[]⟩] 65)
    have k2 := below_box (w.alloc (.cells #[.int .i64 0, .int .i64 0, .int .i64 0, .string ⟨#[]⟩] 65)) (.cells #[.int .i64 0, .int .i64 0, .int .i64 0, .string ⟨#[]⟩] 65)
    have b1 := Blk.new4 (w.alloc (.cells #[.int .i64 0, .int .i64 0, .int .i64 0, .string ⟨#[]⟩] 65)) (.int .i64 0) (.int .i64 0) (.int .i64 0) (.string ⟨#[]⟩) 65
    simp only [World.size_alloc] at b1
    exact ⟨below_thru k1 k2, (Blk.new4 w (.int .i64 0) (.int .i64 0) (.int .i64 0) (.string ⟨#[]⟩) 65).below k2, b1⟩
  generalize ((w.alloc (.cells #[.int .i64 0, .int .i64 0, .int .i64 0, .string ⟨#[]⟩] 65)).alloc (.cells #[.int .i64 0, .int .i64 0, .int .i64 0, .string ⟨#[]⟩] 65)) = W0 at *
  go_wp2_with fail
  go_loopw [9, 16] (fun v9 v16 wr => ∃ (k : Nat) (b : Option Tn), k ≤ n ∧ v9 = .bool b.isSome ∧ v16 = .int .i64 k ∧ Latest (L.take k) (fun t => PB t = true) b ∧ AhW w (b.getD Tn.zero).vals wr) (fun _ v _ => n - (intOf v).toNat)
  case atStart => exact ⟨0, none, by omega, rfl, rfl, Latest.zero L _, HW⟩
  case round =>
    clear HW
    obtain ⟨k, b, hk, rfl, rfl, hR, HW⟩ := hrel
    have HR := Lib.hid hR
    clear hR
    obtain ⟨⟨ba, br, bs, bl⟩, hq⟩ : ∃ q, q = b.getD Tn.zero := ⟨_, rfl⟩
    have HQ := Lib.hid hq
    rw [← hq] at HW
    clear hq
    by_cases h4 : k < n
    · obtain ⟨x, hxx⟩ : ∃ x, L[k]? = some x := ⟨_, List.getElem?_eq_getElem (by rw [LN.out]; exact h4)⟩
      obtain ⟨g, o, ea0, hg, ca⟩ := (HA.out.below HW.hb).cells (by omega)
      subst ea0
      have ra := row_at ca (show (L.map Rl.vals)[k]? = some (Rl.vals x) by rw [List.getElem?_map, hxx]; rfl)
      have HN := Lib.hid (fun r (hr : LatestOf x (fun t => PB t = true) r) => latest_next hxx HR.out r hr)
      have LX := fun W hW => LC.out k x hxx W hW
      obtain ⟨X, hX⟩ : ∃ X, X = x := ⟨_, rfl⟩
      rw [← hX] at HN LX
      have HX := Lib.hid hX
      clear hX
      obtain ⟨nm, fr, last, ⟨mo, ki, wd, da, ti, re⟩, save, le⟩ := x
      replace LX := Lib.hid (fun W (hW : Below w.heap.size w W) => (show Calls Tryz.prog 98 #[.agg #[.string nm, .int .i64 fr, .int .i64 last, .int .i64 mo, .int .i64 ki, .int .i64 wd, .int .i64 da, .int .i64 ti, .int .i64 re, .int .i64 save, .string le], .int .i64 T, .func (.func gT) #[] lbT] W (fun e w' => ∃ r ta tr ts tl f, LatestOf X (fun t => PB t = true) r ∧ (⟨ta, tr, ts, tl⟩ : Tn) = (r.map (turnT X)).getD Tn.zero ∧ f = r.isSome ∧ e = .returned (.tuple #[.agg #[.int .i64 ta, .int .i64 tr, .int .i64 ts, .string tl], .bool f]) ∧ Below W.heap.size W w') from by
        rw [show (Value.agg #[.string nm, .int .i64 fr, .int .i64 last, .int .i64 mo, .int .i64 ki, .int .i64 wd, .int .i64 da, .int .i64 ti, .int .i64 re, .int .i64 save, .string le]) = X.val from by rw [HX.out]; rfl]
        refine (LX W hW).mono ?_
        rintro e w' ⟨r, hr, rfl, hk⟩
        exact ⟨r, _, _, _, _, _, hr, rfl, rfl, by cases r <;> rfl, hk⟩))
      have x0 : wr.cell? ⟨g, o + k * 11, none⟩ = some (.string nm) := ra 0 _ rfl
      have x1 : wr.cell? ⟨g, o + k * 11 + 1, none⟩ = some (.int .i64 fr) := ra 1 _ rfl
      have x2 : wr.cell? ⟨g, o + k * 11 + 2, none⟩ = some (.int .i64 last) := ra 2 _ rfl
      have x3 : wr.cell? ⟨g, o + k * 11 + 3, none⟩ = some (.int .i64 mo) := ra 3 _ rfl
      have x4 : wr.cell? ⟨g, o + k * 11 + 4, none⟩ = some (.int .i64 ki) := ra 4 _ rfl
      have x5 : wr.cell? ⟨g, o + k * 11 + 5, none⟩ = some (.int .i64 wd) := ra 5 _ rfl
      have x6 : wr.cell? ⟨g, o + k * 11 + 6, none⟩ = some (.int .i64 da) := ra 6 _ rfl
      have x7 : wr.cell? ⟨g, o + k * 11 + 7, none⟩ = some (.int .i64 ti) := ra 7 _ rfl
      have x8 : wr.cell? ⟨g, o + k * 11 + 8, none⟩ = some (.int .i64 re) := ra 8 _ rfl
      have x9 : wr.cell? ⟨g, o + k * 11 + 9, none⟩ = some (.int .i64 save) := ra 9 _ rfl
      have x10 : wr.cell? ⟨g, o + k * 11 + 10, none⟩ = some (.string le) := ra 10 _ rfl
      clear ca ra hxx
      go_upto_region 6 with (fail)
      have KR := blk_lit wr 52 [.string nm, .int .i64 fr, .int .i64 last, .int .i64 mo, .int .i64 ki, .int .i64 wd, .int .i64 da, .int .i64 ti, .int .i64 re, .int .i64 save, .string le]
      have hkR := below_box wr (.cells #[.string nm, .int .i64 fr, .int .i64 last, .int .i64 mo, .int .i64 ki, .int .i64 wd, .int .i64 da, .int .i64 ti, .int .i64 re, .int .i64 save, .string le] 52)
      rw [show ([.string nm, .int .i64 fr, .int .i64 last, .int .i64 mo, .int .i64 ki, .int .i64 wd, .int .i64 da, .int .i64 ti, .int .i64 re, .int .i64 save, .string le] : List Value).toArray = #[.string nm, .int .i64 fr, .int .i64 last, .int .i64 mo, .int .i64 ki, .int .i64 wd, .int .i64 da, .int .i64 ti, .int .i64 re, .int .i64 save, .string le] from rfl] at KR
      replace HW := HW.below hkR
      clear x0 x1 x2 x3 x4 x5 x6 x7 x8 x9 x10 hkR
      generalize wr.alloc (.cells #[.string nm, .int .i64 fr, .int .i64 last, .int .i64 mo, .int .i64 ki, .int .i64 wd, .int .i64 da, .int .i64 ti, .int .i64 re, .int .i64 save, .string le] 52) = W at *
      generalize wr.heap.size = q at *
      obtain ⟨y0, y1, y2, y3, y4, y5, y6, y7, y8, y9, y10⟩ := KR.elevenC
      go_upto_region 7 with (go_at_call 98; refine (LX.out _ HW.hb).mono ?_; clear LX; rintro e W9 ⟨r, ta, tr, ts, tl, f, hr, ht, hf, rfl, hk⟩; replace HW := HW.below hk; clear y0 y1 y2 y3 y4 y5 y6 y7 y8 y9 y10 hk KR)
      have KT := Blk.new4 W9 (.int .i64 ta) (.int .i64 tr) (.int .i64 ts) (.string tl) 65
      replace HW := HW.alloc (.cells #[.int .i64 ta, .int .i64 tr, .int .i64 ts, .string tl] 65)
      generalize W9.alloc (.cells #[.int .i64 ta, .int .i64 tr, .int .i64 ts, .string tl] 65) = W1 at *
      generalize W9.heap.size = q2 at *
      obtain ⟨_, q0, q1, q2, q3, _⟩ := KT.four
      obtain ⟨_, b0, b1, b2, b3, e0, e1, e2, e3⟩ := HW.k1.four
      have LO := Lib.hid (HN.out r hr)
      clear HN hr
      cases r with
      | none =>
        obtain rfl : f = false := hf
        clear ht
        go_wp2
        go_roundw
        case rel => exact ⟨k + 1, b, by omega, rfl, int_eqS (by omega), LO.out, HQ.out ▸ HW⟩
        case measure => simp only [intOf]; omega
      | some y =>
        obtain rfl : f = true := hf
        have HT := Lib.hid (show (⟨ta, tr, ts, tl⟩ : Tn) = turnT X y from ht)
        clear ht
        cases b with
        | none =>
          go_wp2
          go_roundw
          case rel => exact ⟨k + 1, some ⟨ta, tr, ts, tl⟩, by omega, rfl, int_eqS (by omega), by rw [HT.out]; exact LO.out, HW.store _ _ _ _⟩
          case measure => simp only [intOf]; omega
        | some bt =>
          by_cases h8 : ba ≤ ta
          · have d8 : decide (ba ≤ ta) = true := decide_eq_true h8
            have L2 := Lib.hid (show Latest (L.take (k + 1)) (fun t => PB t = true) (some ⟨ta, tr, ts, tl⟩) from by
              rw [HT.out, ← nextO_up (x := X) (y := y) (b := bt) (by rw [← HT.out, show bt = ⟨ba, br, bs, bl⟩ from HQ.out.symm]; exact h8)]
              exact LO.out)
            go_wp2
            go_roundw
            case rel => exact ⟨k + 1, some ⟨ta, tr, ts, tl⟩, by omega, rfl, int_eqS (by omega), L2.out, HW.store _ _ _ _⟩
            case measure => simp only [intOf]; omega
          · have d8 : decide (ba ≤ ta) = false := decide_eq_false h8
            have L2 := Lib.hid (show Latest (L.take (k + 1)) (fun t => PB t = true) (some bt) from by
              rw [← nextO_old (x := X) (y := y) (b := bt) (by rw [← HT.out, show bt = ⟨ba, br, bs, bl⟩ from HQ.out.symm]; exact h8)]
              exact LO.out)
            go_wp2
            go_roundw
            case rel => exact ⟨k + 1, some bt, by omega, rfl, int_eqS (by omega), L2.out, HQ.out ▸ HW⟩
            case measure => simp only [intOf]; omega
    · obtain rfl : k = n := by omega
      have E := Lib.hid (show latestO L (fun t => PB t = true) = b from latestO_of (by have := HR.out; rw [← LN.out, List.take_length] at this; exact this))
      clear HR
      obtain ⟨_, b0, b1, b2, b3, _⟩ := HW.k1.four
      obtain ⟨_, r0, r1, r2, r3, f0, f1, f2, f3⟩ := HW.k0.four
      go_wp2
      obtain ⟨_, P0, P1, P2, P3, _⟩ := (HW.k0.self4 (.int .i64 ba) (.int .i64 br) (.int .i64 bs) (.string bl)).four
      have HB := (((HW.hb.setCell (p := ⟨w.heap.size, 0, none⟩) (Nat.le_refl _) (.int .i64 ba)).setCell (p := ⟨w.heap.size, 1, none⟩) (Nat.le_refl _) (.int .i64 br)).setCell (p := ⟨w.heap.size, 2, none⟩) (Nat.le_refl _) (.int .i64 bs)).setCell (p := ⟨w.heap.size, 3, none⟩) (Nat.le_refl _) (.string bl)
      exact bodyPost_ret (v := .tuple #[.agg #[.int .i64 ba, .int .i64 br, .int .i64 bs, .string bl], .bool b.isSome]) (by simp [results, Tryz.results74, go_sem, P0, P1, P2, P3]) rfl ⟨by rw [E.out, ← HQ.out]; rfl, HB⟩
theorem aheadKE (t : Tn) (a : Int) (B : Nat) (W : World) (hc : W.cell? ⟨B, 0, none⟩ = some (.int .i64 a)) : Calls Tryz.prog 94 (#[t.val] ++ #[.pointer (some ⟨B, 0, none⟩)]) W (RetV W (.bool (decide (t.at_ < a)))) := by
  obtain ⟨ta, tr, ts, tl⟩ := t
  show Calls Tryz.prog 94 #[.agg #[.int .i64 ta, .int .i64 tr, .int .i64 ts, .string tl], .pointer (some ⟨B, 0, none⟩)] W (RetV W (.bool (decide (ta < a))))
  have lt := World.block_lt_of_cell? _ _ hc
  go_enter Tryz.func94, Tryz.ntmps94
  go_upto_region 1 with (fail)
  have KB := Blk.new4 W (.int .i64 ta) (.int .i64 tr) (.int .i64 ts) (.string tl) 65
  have hb := below_box W (.cells #[.int .i64 ta, .int .i64 tr, .int .i64 ts, .string tl] 65)
  have hc2 := (hb.cell (p := ⟨B, 0, none⟩) lt).trans hc
  generalize W.alloc (.cells #[.int .i64 ta, .int .i64 tr, .int .i64 ts, .string tl] 65) = W1 at *
  obtain ⟨_, b0, _⟩ := KB.four
  go_wp2
  go_ret
  exact ⟨rfl, hb⟩
theorem aheadO_B (L : List Rl) (a : Int) : latestO L (fun t => decide (t.at_ < a) = true) = aheadO L a := by
  unfold aheadO
  congr 1
  funext t
  exact propext decide_eq_true_iff
theorem RetTB.lit {o : Option Tn} {ta tr ts : Int} {tl : ByteArray} {f : Bool} (h : (⟨ta, tr, ts, tl⟩ : Tn) = o.getD Tn.zero) (k : f = o.isSome) {w : World} {e : Ending} {w' : World} (r : RetTB w o e w') : e = .returned (.tuple #[.agg #[.int .i64 ta, .int .i64 tr, .int .i64 ts, .string tl], .bool f]) ∧ Below w.heap.size w w' := by
  obtain ⟨h1, h2⟩ := r
  refine ⟨?_, h2⟩
  rw [h1, ← h, k]
  rfl
theorem aheadIE (L : List Rl) (hL : fitL L) (a : Int) (ha : In64 a) (A : Option Addr) (n c : Nat) (w : World) (hm : RulV w A n c L) (LE : Lens w) : Calls Tryz.prog 66 #[.slice A n c, .int .i64 a] w (RetTB w (aheadO L a)) := by
  have LC := fun W (hW : Below w.heap.size w W) B (hB : W.cell? ⟨B, 0, none⟩ = some (.int .i64 a)) => latestE L hL a ha 94 #[.pointer (some ⟨B, 0, none⟩)] (enters_of Tryz.func94 (by kernel_rfl) rfl) (fun t => decide (t.at_ < a)) (fun t h => by have := of_decide_eq_true h; omega) A n c W (hm.below hW) (LE.mono hW)
    (fun V hV _ _ t _ => aheadKE t a B V ((hV.cell (p := ⟨B, 0, none⟩) (World.block_lt_of_cell? _ _ hB)).trans hB))
  rw [aheadO_B] at LC
  clear hm hL LE ha
  generalize aheadO L a = r at *
  obtain ⟨⟨ta, tr, ts, tl⟩, hq⟩ : ∃ q, q = r.getD Tn.zero := ⟨_, rfl⟩
  obtain ⟨f, hf⟩ : ∃ f, f = r.isSome := ⟨_, rfl⟩
  have EN := Lib.hid (show ∀ w', Below w.heap.size w w' → RetTB w r (.returned (.tuple #[.agg #[.int .i64 ta, .int .i64 tr, .int .i64 ts, .string tl], .bool f])) w' from fun w' h => ⟨by rw [← hq, hf]; rfl, h⟩)
  replace LC := Lib.hid (fun W (hW : Below w.heap.size w W) B (hB : W.cell? ⟨B, 0, none⟩ = some (.int .i64 a)) => (LC W hW B hB).mono (fun _ _ h => h.lit hq hf))
  clear hq hf
  go_enter Tryz.func66, Tryz.ntmps66
  go_upto_region 1 with (fail)
  have HT := twoE_boxes w [.int .i64 a] [.int .i64 0, .int .i64 0, .int .i64 0, .string ⟨#[]⟩] 2 65
  rw [show ([.int .i64 a] : List Value).toArray = #[.int .i64 a] from rfl, show ([.int .i64 0, .int .i64 0, .int .i64 0, .string ⟨#[]⟩] : List Value).toArray = #[.int .i64 0, .int .i64 0, .int .i64 0, .string ⟨#[]⟩] from rfl] at HT
  generalize ((w.alloc (.cells #[.int .i64 a] 2)).alloc (.cells #[.int .i64 0, .int .i64 0, .int .i64 0, .string ⟨#[]⟩] 65)) = W0 at *
  have a0 := HT.ka.one.2.1
  go_wp2_with (go_at_call 74; refine (LC.out _ HT.hb _ a0).mono ?_; clear LC; rintro e W9 ⟨rfl, hk⟩; replace HT := HT.below hk; clear hk a0; obtain ⟨_, r0, r1, r2, r3, f0, f1, f2, f3⟩ := HT.kb.four)
  obtain ⟨_, P0, P1, P2, P3, _⟩ := (HT.kb.self4 (.int .i64 ta) (.int .i64 tr) (.int .i64 ts) (.string tl)).four
  have HB := (((HT.hb.setCell (p := ⟨w.heap.size + 1, 0, none⟩) (by show _ ≤ w.heap.size + 1; omega) (.int .i64 ta)).setCell (p := ⟨w.heap.size + 1, 1, none⟩) (by show _ ≤ w.heap.size + 1; omega) (.int .i64 tr)).setCell (p := ⟨w.heap.size + 1, 2, none⟩) (by show _ ≤ w.heap.size + 1; omega) (.int .i64 ts)).setCell (p := ⟨w.heap.size + 1, 3, none⟩) (by show _ ≤ w.heap.size + 1; omega) (.string tl)
  exact bodyPost_ret (v := .tuple #[.agg #[.int .i64 ta, .int .i64 tr, .int .i64 ts, .string tl], .bool f]) (by simp [results, Tryz.results66, go_sem, P0, P1, P2, P3]) rfl (EN.out _ HB)
theorem aheadAE (L : List Rl) (a : Int) (ha : In64 a) (A : Option Addr) (n c : Nat) (w : World) (hm : RulV w A n c L) (LE : Lens w) : Calls Tryz.prog 45 #[.slice A n c, .int .i64 a] w (RetTB w (aheadR L a)) := by
  have RP := fun W (h : RulV W A n c L) => rightPE L A n c W h
  have HA := Lib.hid hm
  cases hf : fitB L with
  | false =>
    rw [hf] at RP
    have EN := Lib.hid (show aheadR L a = none from by unfold aheadR; rw [if_neg (by rw [hf]; decide)])
    have RP := Lib.hid RP
    clear hf hm LE
    go_enter Tryz.func45, Tryz.ntmps45
    go_upto_region 1 with (fail)
    have KB := Blk.new4 w (.int .i64 0) (.int .i64 0) (.int .i64 0) (.string ⟨#[]⟩) 65
    have hb := below_box w (.cells #[.int .i64 0, .int .i64 0, .int .i64 0, .string ⟨#[]⟩] 65)
    generalize w.alloc (.cells #[.int .i64 0, .int .i64 0, .int .i64 0, .string ⟨#[]⟩] 65) = W0 at *
    go_wp2_with (go_at_call 65; refine (RP.out _ (HA.out.below hb)).mono ?_; clear RP; rintro e W9 ⟨rfl, hk⟩; replace hb := below_thru hb hk; replace KB := KB.below hk; clear hk; obtain ⟨_, r0, r1, r2, r3, f0, f1, f2, f3⟩ := KB.four)
    obtain ⟨_, P0, P1, P2, P3, _⟩ := (KB.self4 (.int .i64 0) (.int .i64 0) (.int .i64 0) (.string ⟨#[]⟩)).four
    have HB := (((hb.setCell (p := ⟨w.heap.size, 0, none⟩) (Nat.le_refl _) (.int .i64 0)).setCell (p := ⟨w.heap.size, 1, none⟩) (Nat.le_refl _) (.int .i64 0)).setCell (p := ⟨w.heap.size, 2, none⟩) (Nat.le_refl _) (.int .i64 0)).setCell (p := ⟨w.heap.size, 3, none⟩) (Nat.le_refl _) (.string ⟨#[]⟩)
    exact bodyPost_ret (v := .tuple #[.agg #[.int .i64 0, .int .i64 0, .int .i64 0, .string ⟨#[]⟩], .bool false]) (by simp [results, Tryz.results45, go_sem, P0, P1, P2, P3]) rfl ⟨by rw [EN.out]; rfl, HB⟩
  | true =>
    rw [hf] at RP
    have AI := fun W (hW : Below w.heap.size w W) => aheadIE L (fit_yes.1 hf) a ha A n c W (hm.below hW) (LE.mono hW)
    have ER := Lib.hid (show aheadR L a = aheadO L a from by unfold aheadR; rw [if_pos hf])
    clear hf hm LE ha
    generalize aheadO L a = r at *
    obtain ⟨⟨ta, tr, ts, tl⟩, hq⟩ : ∃ q, q = r.getD Tn.zero := ⟨_, rfl⟩
    obtain ⟨f, hf⟩ : ∃ f, f = r.isSome := ⟨_, rfl⟩
    have EN := Lib.hid (show ∀ w', Below w.heap.size w w' → RetTB w (aheadR L a) (.returned (.tuple #[.agg #[.int .i64 ta, .int .i64 tr, .int .i64 ts, .string tl], .bool f])) w' from fun w' h => ⟨by rw [ER.out, ← hq, hf]; rfl, h⟩)
    replace AI := Lib.hid (fun W (hW : Below w.heap.size w W) => (AI W hW).mono (fun _ _ h => h.lit hq hf))
    have RP := Lib.hid RP
    clear hq hf ER
    go_enter Tryz.func45, Tryz.ntmps45
    go_upto_region 1 with (fail)
    have KB := Blk.new4 w (.int .i64 0) (.int .i64 0) (.int .i64 0) (.string ⟨#[]⟩) 65
    have hb := below_box w (.cells #[.int .i64 0, .int .i64 0, .int .i64 0, .string ⟨#[]⟩] 65)
    generalize w.alloc (.cells #[.int .i64 0, .int .i64 0, .int .i64 0, .string ⟨#[]⟩] 65) = W0 at *
    go_wp2_with (first
      | (go_at_call 65; refine (RP.out _ (HA.out.below hb)).mono ?_; clear RP; rintro e W9 ⟨rfl, hk⟩; replace hb := below_thru hb hk; replace KB := KB.below hk; clear hk)
      | (go_at_call 66; refine (AI.out _ hb).mono ?_; clear AI; rintro e W8 ⟨rfl, hk⟩; replace hb := below_thru hb hk; replace KB := KB.below hk; clear hk; obtain ⟨_, r0, r1, r2, r3, f0, f1, f2, f3⟩ := KB.four))
    obtain ⟨_, P0, P1, P2, P3, _⟩ := (KB.self4 (.int .i64 ta) (.int .i64 tr) (.int .i64 ts) (.string tl)).four
    have HB := (((hb.setCell (p := ⟨w.heap.size, 0, none⟩) (Nat.le_refl _) (.int .i64 ta)).setCell (p := ⟨w.heap.size, 1, none⟩) (Nat.le_refl _) (.int .i64 tr)).setCell (p := ⟨w.heap.size, 2, none⟩) (Nat.le_refl _) (.int .i64 ts)).setCell (p := ⟨w.heap.size, 3, none⟩) (Nat.le_refl _) (.string tl)
    exact bodyPost_ret (v := .tuple #[.agg #[.int .i64 ta, .int .i64 tr, .int .i64 ts, .string tl], .bool f]) (by simp [results, Tryz.results45, go_sem, P0, P1, P2, P3]) rfl (EN.out _ HB)
theorem unE_a (ta tr ts : Int) (tl : ByteArray) (off : Int) (A : Option Addr) (n c : Nat) (h : (tr == 2) = true) (w : World) : Calls Tryz.prog 99 #[.slice A n c, .agg #[.int .i64 ta, .int .i64 tr, .int .i64 ts, .string tl], .int .i64 off] w (RetN w ta) := by
  go_enter Tryz.func99, Tryz.ntmps99
  go_upto_region 1 with (fail)
  have KB := Blk.new4 w (.int .i64 ta) (.int .i64 tr) (.int .i64 ts) (.string tl) 65
  have hb := below_box w (.cells #[.int .i64 ta, .int .i64 tr, .int .i64 ts, .string tl] 65)
  generalize w.alloc (.cells #[.int .i64 ta, .int .i64 tr, .int .i64 ts, .string tl] 65) = W0 at *
  obtain ⟨_, b0, b1, b2, b3, _⟩ := KB.four
  go_wp2
  go_ret
  exact ⟨rfl, hb⟩
theorem unE_b (ta tr ts : Int) (tl : ByteArray) (off : Int) (A : Option Addr) (n c : Nat) (h : (tr == 2) = false) (h2 : (tr == 1) = true) (a1 : -20000000000000 ≤ ta) (a2 : ta ≤ 20000000000000) (o1 : -86400 < off) (o2 : off < 86400) (w : World) : Calls Tryz.prog 99 #[.slice A n c, .agg #[.int .i64 ta, .int .i64 tr, .int .i64 ts, .string tl], .int .i64 off] w (RetN w (ta - off)) := by
  go_enter Tryz.func99, Tryz.ntmps99
  go_upto_region 1 with (fail)
  have KB := Blk.new4 w (.int .i64 ta) (.int .i64 tr) (.int .i64 ts) (.string tl) 65
  have hb := below_box w (.cells #[.int .i64 ta, .int .i64 tr, .int .i64 ts, .string tl] 65)
  generalize w.alloc (.cells #[.int .i64 ta, .int .i64 tr, .int .i64 ts, .string tl] 65) = W0 at *
  obtain ⟨_, b0, b1, b2, b3, _⟩ := KB.four
  go_wp2
  go_ret
  exact ⟨rfl, hb⟩
theorem unE_c (ta tr ts : Int) (tl : ByteArray) (off : Int) (A : Option Addr) (n c : Nat) (h : (tr == 2) = false) (h2 : (tr == 1) = false) (a1 : -20000000000000 ≤ ta) (a2 : ta ≤ 20000000000000) (o1 : -86400 < off) (o2 : off < 86400) (w : World) (s0 s1 s : Int) (l : ByteArray) (f : Bool) (q1 : -43200 ≤ s) (q2 : s ≤ 43200)
    (AH : Hid (∀ W, Below w.heap.size w W → Calls Tryz.prog 66 #[.slice A n c, .int .i64 ta] W (fun e w' => e = .returned (.tuple #[.agg #[.int .i64 s0, .int .i64 s1, .int .i64 s, .string l], .bool f]) ∧ Below W.heap.size W w'))) : Calls Tryz.prog 99 #[.slice A n c, .agg #[.int .i64 ta, .int .i64 tr, .int .i64 ts, .string tl], .int .i64 off] w (RetN w (ta - off - s)) := by
  go_enter Tryz.func99, Tryz.ntmps99
  go_upto_region 1 with (fail)
  have KB := Blk.new4 w (.int .i64 ta) (.int .i64 tr) (.int .i64 ts) (.string tl) 65
  have hb := below_box w (.cells #[.int .i64 ta, .int .i64 tr, .int .i64 ts, .string tl] 65)
  generalize w.alloc (.cells #[.int .i64 ta, .int .i64 tr, .int .i64 ts, .string tl] 65) = W0 at *
  obtain ⟨_, b0, b1, b2, b3, _⟩ := KB.four
  go_upto_region 7 with (go_at_call 66; refine (AH.out _ hb).mono ?_; clear AH; rintro e W9 ⟨rfl, hk⟩; replace hb := below_thru hb hk; replace KB := KB.below hk; clear hk b0 b1 b2 b3)
  have KN := Blk.new4 W9 (.int .i64 s0) (.int .i64 s1) (.int .i64 s) (.string l) 65
  have hk := below_box W9 (.cells #[.int .i64 s0, .int .i64 s1, .int .i64 s, .string l] 65)
  replace hb := below_thru hb hk
  replace KB := KB.below hk
  clear hk
  generalize W9.alloc (.cells #[.int .i64 s0, .int .i64 s1, .int .i64 s, .string l] 65) = W1 at *
  generalize W9.heap.size = q at *
  obtain ⟨_, b0, b1, b2, b3, _⟩ := KB.four
  obtain ⟨_, c0, c1, c2, c3, _⟩ := KN.four
  go_wp2
  go_ret
  exact ⟨rfl, hb⟩
theorem aheadSaveE (L : List Rl) (a : Int) : aheadSave L a = ((aheadO L a).getD Tn.zero).save := by
  unfold aheadSave
  cases aheadO L a <;> rfl
theorem universalE (L : List Rl) (hL : fitL L) (off : Int) (o1 : -86400 < off) (o2 : off < 86400) (t : Tn) (a1 : -20000000000000 ≤ t.at_) (a2 : t.at_ ≤ 20000000000000) (A : Option Addr) (n c : Nat) (w : World) (hm : RulV w A n c L) (LE : Lens w) :
    Calls Tryz.prog 99 #[.slice A n c, t.val, .int .i64 off] w (RetN w (uniT L off t)) := by
  have q := aheadSave_in hL t.at_
  have AI := fun W (hW : Below w.heap.size w W) => aheadIE L hL t.at_ (by unfold In64; omega) A n c W (hm.below hW) (LE.mono hW)
  rw [aheadSaveE] at q
  unfold uniT
  rw [aheadSaveE]
  obtain ⟨ta, tr, ts, tl⟩ := t
  simp only at a1 a2 q AI ⊢
  by_cases h : tr = 2
  · rw [if_pos h]
    exact unE_a ta tr ts tl off A n c (by simp [h]) w
  rw [if_neg h]
  by_cases h2 : tr = 1
  · rw [if_pos h2]
    exact unE_b ta tr ts tl off A n c (beq_false_of_ne h) (by simp [h2]) a1 a2 o1 o2 w
  rw [if_neg h2]
  exact unE_c ta tr ts tl off A n c (beq_false_of_ne h) (beq_false_of_ne h2) a1 a2 o1 o2 w _ _ _ _ _ q.1 q.2 (Lib.hid fun W hW => (AI W hW).mono (fun _ _ r => r.lit rfl rfl))
theorem bg_a (ta tr ts : Int) (tl : ByteArray) (off T : Int) (A : Option Addr) (n c : Nat) (a1 : -20000000000000 ≤ ta) (a2 : ta ≤ 20000000000000) (h : decide (ta + 129600 ≤ T) = true) (w : World) : Calls Tryz.prog 76 #[.slice A n c, .agg #[.int .i64 ta, .int .i64 tr, .int .i64 ts, .string tl], .int .i64 off, .int .i64 T] w (RetV w (.bool true)) := by
  go_enter Tryz.func76, Tryz.ntmps76
  go_upto_region 1 with (fail)
  have KB := Blk.new4 w (.int .i64 ta) (.int .i64 tr) (.int .i64 ts) (.string tl) 65
  have hb := below_box w (.cells #[.int .i64 ta, .int .i64 tr, .int .i64 ts, .string tl] 65)
  generalize w.alloc (.cells #[.int .i64 ta, .int .i64 tr, .int .i64 ts, .string tl] 65) = W0 at *
  obtain ⟨_, b0, b1, b2, b3, _⟩ := KB.four
  go_wp2
  go_ret
  exact ⟨rfl, hb⟩
theorem bg_b (ta tr ts : Int) (tl : ByteArray) (off T : Int) (A : Option Addr) (n c : Nat) (a1 : -20000000000000 ≤ ta) (a2 : ta ≤ 20000000000000) (h : decide (ta + 129600 ≤ T) = false) (h2 : decide (T < ta - 129600) = true) (w : World) : Calls Tryz.prog 76 #[.slice A n c, .agg #[.int .i64 ta, .int .i64 tr, .int .i64 ts, .string tl], .int .i64 off, .int .i64 T] w (RetV w (.bool false)) := by
  go_enter Tryz.func76, Tryz.ntmps76
  go_upto_region 1 with (fail)
  have KB := Blk.new4 w (.int .i64 ta) (.int .i64 tr) (.int .i64 ts) (.string tl) 65
  have hb := below_box w (.cells #[.int .i64 ta, .int .i64 tr, .int .i64 ts, .string tl] 65)
  generalize w.alloc (.cells #[.int .i64 ta, .int .i64 tr, .int .i64 ts, .string tl] 65) = W0 at *
  obtain ⟨_, b0, b1, b2, b3, _⟩ := KB.four
  go_wp2
  go_ret
  exact ⟨rfl, hb⟩
theorem bg_c (ta tr ts : Int) (tl : ByteArray) (off T : Int) (A : Option Addr) (n c : Nat) (a1 : -20000000000000 ≤ ta) (a2 : ta ≤ 20000000000000) (h : decide (ta + 129600 ≤ T) = false) (h2 : decide (T < ta - 129600) = false) (w : World) (u : Int)
    (UN : Hid (∀ W, Below w.heap.size w W → Calls Tryz.prog 99 #[.slice A n c, .agg #[.int .i64 ta, .int .i64 tr, .int .i64 ts, .string tl], .int .i64 off] W (RetN W u))) : Calls Tryz.prog 76 #[.slice A n c, .agg #[.int .i64 ta, .int .i64 tr, .int .i64 ts, .string tl], .int .i64 off, .int .i64 T] w (RetV w (.bool (decide (u ≤ T)))) := by
  go_enter Tryz.func76, Tryz.ntmps76
  go_upto_region 1 with (fail)
  have KB := Blk.new4 w (.int .i64 ta) (.int .i64 tr) (.int .i64 ts) (.string tl) 65
  have hb := below_box w (.cells #[.int .i64 ta, .int .i64 tr, .int .i64 ts, .string tl] 65)
  generalize w.alloc (.cells #[.int .i64 ta, .int .i64 tr, .int .i64 ts, .string tl] 65) = W0 at *
  obtain ⟨_, b0, b1, b2, b3, _⟩ := KB.four
  go_wp2_with (go_at_call 99; refine (UN.out _ hb).mono ?_; clear UN; rintro e W9 ⟨rfl, hk⟩; replace hb := below_thru hb hk; clear hk)
  go_ret
  exact ⟨rfl, hb⟩
theorem begunE (L : List Rl) (hL : fitL L) (off T : Int) (o1 : -86400 < off) (o2 : off < 86400) (t : Tn) (a1 : -20000000000000 ≤ t.at_) (a2 : t.at_ ≤ 20000000000000) (A : Option Addr) (n c : Nat) (w : World) (hm : RulV w A n c L) (LE : Lens w) :
    Calls Tryz.prog 76 #[.slice A n c, t.val, .int .i64 off, .int .i64 T] w (RetV w (.bool (decide (uniT L off t ≤ T)))) := by
  have nr := uniT_near hL o1 o2 t
  have UI := fun W (hW : Below w.heap.size w W) => universalE L hL off o1 o2 t a1 a2 A n c W (hm.below hW) (LE.mono hW)
  generalize uniT L off t = u at *
  obtain ⟨ta, tr, ts, tl⟩ := t
  simp only at a1 a2 nr
  by_cases h : ta + 129600 ≤ T
  · rw [decide_eq_true (by omega)]
    exact bg_a ta tr ts tl off T A n c a1 a2 (decide_eq_true h) w
  by_cases h2 : T < ta - 129600
  · rw [decide_eq_false (by omega)]
    exact bg_b ta tr ts tl off T A n c a1 a2 (decide_eq_false h) (decide_eq_true h2) w
  exact bg_c ta tr ts tl off T A n c a1 a2 (decide_eq_false h) (decide_eq_false h2) w u (Lib.hid UI)
theorem forceKE (L : List Rl) (hL : fitL L) (off T : Int) (o1 : -86400 < off) (o2 : off < 86400) (t : Tn) (a1 : -20000000000000 ≤ t.at_) (a2 : t.at_ ≤ 20000000000000) (A : Option Addr) (n c B0 B1 B2 : Nat) (w : World) (hm : RulV w A n c L) (LE : Lens w) (g0 : w.cell? ⟨B0, 0, none⟩ = some (.slice A n c)) (g1 : w.cell? ⟨B1, 0, none⟩ = some (.int .i64 off)) (g2 : w.cell? ⟨B2, 0, none⟩ = some (.int .i64 T)) :
    Calls Tryz.prog 75 (#[t.val] ++ #[.pointer (some ⟨B0, 0, none⟩), .pointer (some ⟨B1, 0, none⟩), .pointer (some ⟨B2, 0, none⟩)]) w (RetV w (.bool (decide (uniT L off t ≤ T)))) := by
  have BG := fun W (hW : Below w.heap.size w W) => begunE L hL off T o1 o2 t a1 a2 A n c W (hm.below hW) (LE.mono hW)
  generalize uniT L off t = u at *
  obtain ⟨ta, tr, ts, tl⟩ := t
  replace BG := Lib.hid (fun W (hW : Below w.heap.size w W) => (show Calls Tryz.prog 76 #[.slice A n c, .agg #[.int .i64 ta, .int .i64 tr, .int .i64 ts, .string tl], .int .i64 off, .int .i64 T] W (RetV W (.bool (decide (u ≤ T)))) from BG W hW))
  clear hm LE a1 a2
  show Calls Tryz.prog 75 #[.agg #[.int .i64 ta, .int .i64 tr, .int .i64 ts, .string tl], .pointer (some ⟨B0, 0, none⟩), .pointer (some ⟨B1, 0, none⟩), .pointer (some ⟨B2, 0, none⟩)] w (RetV w (.bool (decide (u ≤ T))))
  have l0 := World.block_lt_of_cell? _ _ g0
  have l1 := World.block_lt_of_cell? _ _ g1
  have l2 := World.block_lt_of_cell? _ _ g2
  go_enter Tryz.func75, Tryz.ntmps75
  go_upto_region 1 with (fail)
  have KB := Blk.new4 w (.int .i64 ta) (.int .i64 tr) (.int .i64 ts) (.string tl) 65
  have hb := below_box w (.cells #[.int .i64 ta, .int .i64 tr, .int .i64 ts, .string tl] 65)
  have k0 := (hb.cell (p := ⟨B0, 0, none⟩) l0).trans g0
  have k1 := (hb.cell (p := ⟨B1, 0, none⟩) l1).trans g1
  have k2 := (hb.cell (p := ⟨B2, 0, none⟩) l2).trans g2
  clear g0 g1 g2
  generalize w.alloc (.cells #[.int .i64 ta, .int .i64 tr, .int .i64 ts, .string tl] 65) = W0 at *
  obtain ⟨_, b0, b1, b2, b3, _⟩ := KB.four
  go_wp2_with (go_at_call 76; refine (BG.out _ hb).mono ?_; clear BG; rintro e W9 ⟨rfl, hk⟩; replace hb := below_thru hb hk; clear hk)
  go_ret
  exact ⟨rfl, hb⟩
theorem firstE_step {L : List Rl} {k : Nat} {x : Rl} (hx : L[k]? = some x) (b : Option Tn) : firstGo (L.drop k) b = firstGo (L.drop (k + 1)) (if turnIn x x.fr ∧ x.save = 0 ∧ earlier b (turnT x x.fr).at_ = true then some (turnT x x.fr) else b) := by
  obtain ⟨h, e⟩ := List.getElem?_eq_some_iff.1 hx
  rw [List.drop_eq_getElem_cons h, e]
  rfl
def firstL (L : List Rl) : ByteArray := match firstGo L none with | none => ⟨#[]⟩ | some t => t.letter
theorem firstL_is {L : List Rl} {b : Option Tn} (h : firstGo L none = b) : firstL L = (b.getD Tn.zero).letter := by
  unfold firstL
  rw [h]
  cases b <;> rfl
structure FiW (w : World) (b : List Value) (X : World) : Prop where
  hb : Below w.heap.size w X
  k1 : Blk X w.heap.size b
theorem FiW.below {w : World} {b : List Value} {X X' : World} (h : FiW w b X) (k : Below X.heap.size X X') : FiW w b X' := ⟨below_thru h.hb k, h.k1.below k⟩
theorem FiW.store {w : World} {u v x y : Value} {X : World} (h : FiW w [u, v, x, y] X) (u' v' x' y' : Value) : FiW w [u', v', x', y'] ((((X.setCell ⟨w.heap.size, 0, none⟩ u').setCell ⟨w.heap.size, 1, none⟩ v').setCell ⟨w.heap.size, 2, none⟩ x').setCell ⟨w.heap.size, 3, none⟩ y') :=
  ⟨(((h.hb.setCell (p := ⟨w.heap.size, 0, none⟩) (Nat.le_refl _) u').setCell (p := ⟨w.heap.size, 1, none⟩) (Nat.le_refl _) v').setCell (p := ⟨w.heap.size, 2, none⟩) (Nat.le_refl _) x').setCell (p := ⟨w.heap.size, 3, none⟩) (Nat.le_refl _) y', h.k1.self4 u' v' x' y'⟩
theorem firstE (L : List Rl) (A : Option Addr) (n c : Nat) (w : World) (hm : RulV w A n c L) (LE : Lens w) : Calls Tryz.prog 77 #[.slice A n c] w (RetV w (.string (firstL L))) := by
  have mx : n ≤ 9223372036854775807 := Nat.le_trans hm.cap hm.max
  have LN := Lib.hid (show L.length = n by have := hm.len; simpa using this)
  have HA := Lib.hid hm
  have LE := Lib.hid LE
  clear hm
  go_enter Tryz.func77, Tryz.ntmps77
  go_upto_region 2 with (fail)
  have HW : FiW w [.int .i64 0, .int .i64 0, .int .i64 0, .string ⟨#[]⟩] (w.alloc (.cells #[.int .i64 0, .int .i64 0, .int .i64 0, .string ⟨#[]⟩] 65)) := ⟨below_box w _, Blk.new4 w (.int .i64 0) (.int .i64 0) (.int .i64 0) (.string ⟨#[]⟩) 65⟩
  generalize w.alloc (.cells #[.int .i64 0, .int .i64 0, .int .i64 0, .string ⟨#[]⟩] 65) = W0 at *
  go_wp2_with fail
  go_loopw [4, 11] (fun v4 v11 wr => ∃ (k : Nat) (b : Option Tn), k ≤ n ∧ v4 = .bool b.isSome ∧ v11 = .int .i64 k ∧ firstGo L none = firstGo (L.drop k) b ∧ FiW w (b.getD Tn.zero).vals wr) (fun _ v _ => n - (intOf v).toNat)
  case atStart => exact ⟨0, none, by omega, rfl, rfl, rfl, HW⟩
  case round =>
    clear HW
    obtain ⟨k, b, hk, rfl, rfl, hR, HW⟩ := hrel
    have HR := Lib.hid hR
    clear hR
    obtain ⟨⟨ba, br, bs, bl⟩, hq⟩ : ∃ q, q = b.getD Tn.zero := ⟨_, rfl⟩
    have HQ := Lib.hid hq
    rw [← hq] at HW
    clear hq
    by_cases h4 : k < n
    · obtain ⟨x, hxx⟩ : ∃ x, L[k]? = some x := ⟨_, List.getElem?_eq_getElem (by rw [LN.out]; exact h4)⟩
      obtain ⟨g, o, ea0, hg, ca⟩ := (HA.out.below HW.hb).cells (by omega)
      subst ea0
      have ra := row_at ca (show (L.map Rl.vals)[k]? = some (Rl.vals x) by rw [List.getElem?_map, hxx]; rfl)
      have HN := HR.out.trans (firstE_step hxx b)
      have TC := fun W L => turnE x x.fr W L
      have TC2 : ∀ W, Lens W → ∃ (ta tr ts : Int) (tl : ByteArray) (f : Bool), True := fun _ _ => ⟨0, 0, 0, ⟨#[]⟩, true, trivial⟩
      clear TC2
      obtain ⟨X, hX⟩ : ∃ X, X = x := ⟨_, rfl⟩
      rw [← hX] at HN
      rw [← hX] at TC
      have HX := Lib.hid hX
      clear hX
      obtain ⟨⟨ta, tr, ts, tl⟩, ht⟩ : ∃ q, q = (turnO X X.fr).getD Tn.zero := ⟨_, rfl⟩
      obtain ⟨f, hf⟩ : ∃ f, f = (turnO X X.fr).isSome := ⟨_, rfl⟩
      obtain ⟨nm, fr, last, ⟨mo, ki, wd, da, ti, re⟩, save, le⟩ := x
      have SV := Lib.hid (show X.save = save by rw [HX.out])
      replace TC := Lib.hid (fun W (L : Lens W) => (show Calls Tryz.prog 100 #[.agg #[.string nm, .int .i64 fr, .int .i64 last, .int .i64 mo, .int .i64 ki, .int .i64 wd, .int .i64 da, .int .i64 ti, .int .i64 re, .int .i64 save, .string le], .int .i64 fr] W (fun e w' => e = .returned (.tuple #[.agg #[.int .i64 ta, .int .i64 tr, .int .i64 ts, .string tl], .bool f]) ∧ Below W.heap.size W w') from by
        rw [show (Value.agg #[.string nm, .int .i64 fr, .int .i64 last, .int .i64 mo, .int .i64 ki, .int .i64 wd, .int .i64 da, .int .i64 ti, .int .i64 re, .int .i64 save, .string le]) = X.val from by rw [HX.out]; rfl, show fr = X.fr from by rw [HX.out]]
        exact (TC W L).mono (fun _ _ r => r.lit ht hf)))
      replace hf := Lib.hid hf
      replace ht := Lib.hid ht
      have x0 : wr.cell? ⟨g, o + k * 11, none⟩ = some (.string nm) := ra 0 _ rfl
      have x1 : wr.cell? ⟨g, o + k * 11 + 1, none⟩ = some (.int .i64 fr) := ra 1 _ rfl
      have x2 : wr.cell? ⟨g, o + k * 11 + 2, none⟩ = some (.int .i64 last) := ra 2 _ rfl
      have x3 : wr.cell? ⟨g, o + k * 11 + 3, none⟩ = some (.int .i64 mo) := ra 3 _ rfl
      have x4 : wr.cell? ⟨g, o + k * 11 + 4, none⟩ = some (.int .i64 ki) := ra 4 _ rfl
      have x5 : wr.cell? ⟨g, o + k * 11 + 5, none⟩ = some (.int .i64 wd) := ra 5 _ rfl
      have x6 : wr.cell? ⟨g, o + k * 11 + 6, none⟩ = some (.int .i64 da) := ra 6 _ rfl
      have x7 : wr.cell? ⟨g, o + k * 11 + 7, none⟩ = some (.int .i64 ti) := ra 7 _ rfl
      have x8 : wr.cell? ⟨g, o + k * 11 + 8, none⟩ = some (.int .i64 re) := ra 8 _ rfl
      have x9 : wr.cell? ⟨g, o + k * 11 + 9, none⟩ = some (.int .i64 save) := ra 9 _ rfl
      have x10 : wr.cell? ⟨g, o + k * 11 + 10, none⟩ = some (.string le) := ra 10 _ rfl
      clear ca ra hxx
      go_upto_region 6 with (fail)
      have KR := blk_lit wr 52 [.string nm, .int .i64 fr, .int .i64 last, .int .i64 mo, .int .i64 ki, .int .i64 wd, .int .i64 da, .int .i64 ti, .int .i64 re, .int .i64 save, .string le]
      have hkR := below_box wr (.cells #[.string nm, .int .i64 fr, .int .i64 last, .int .i64 mo, .int .i64 ki, .int .i64 wd, .int .i64 da, .int .i64 ti, .int .i64 re, .int .i64 save, .string le] 52)
      rw [show ([.string nm, .int .i64 fr, .int .i64 last, .int .i64 mo, .int .i64 ki, .int .i64 wd, .int .i64 da, .int .i64 ti, .int .i64 re, .int .i64 save, .string le] : List Value).toArray = #[.string nm, .int .i64 fr, .int .i64 last, .int .i64 mo, .int .i64 ki, .int .i64 wd, .int .i64 da, .int .i64 ti, .int .i64 re, .int .i64 save, .string le] from rfl] at KR
      replace HW := HW.below hkR
      clear x0 x1 x2 x3 x4 x5 x6 x7 x8 x9 x10 hkR
      generalize wr.alloc (.cells #[.string nm, .int .i64 fr, .int .i64 last, .int .i64 mo, .int .i64 ki, .int .i64 wd, .int .i64 da, .int .i64 ti, .int .i64 re, .int .i64 save, .string le] 52) = W at *
      generalize wr.heap.size = q at *
      obtain ⟨y0, y1, y2, y3, y4, y5, y6, y7, y8, y9, y10⟩ := KR.elevenC
      go_upto_region 7 with (go_at_call 100; refine (TC.out _ (LE.out.mono HW.hb)).mono ?_; clear TC; rintro e W9 ⟨rfl, hk⟩; replace HW := HW.below hk; replace KR := KR.below hk; clear y0 y1 y2 y3 y4 y5 y6 y7 y8 y9 y10 hk)
      have KT := Blk.new4 W9 (.int .i64 ta) (.int .i64 tr) (.int .i64 ts) (.string tl) 65
      have hk9 := below_box W9 (.cells #[.int .i64 ta, .int .i64 tr, .int .i64 ts, .string tl] 65)
      replace HW := HW.below hk9
      replace KR := KR.below hk9
      clear hk9
      generalize W9.alloc (.cells #[.int .i64 ta, .int .i64 tr, .int .i64 ts, .string tl] 65) = W1 at *
      generalize W9.heap.size = q2 at *
      obtain ⟨_, q0, q1, q2, q3, _⟩ := KT.four
      obtain ⟨_, b0, b1, b2, b3, e0, e1, e2, e3⟩ := HW.k1.four
      obtain ⟨y0, y1, y2, y3, y4, y5, y6, y7, y8, y9, y10⟩ := KR.elevenC
      by_cases hit : turnIn X X.fr
      · replace hf := hf.out
        replace ht := ht.out
        rw [turnO_some hit] at hf ht
        obtain rfl : f = true := hf
        have HT := Lib.hid (show (⟨ta, tr, ts, tl⟩ : Tn) = turnT X X.fr from ht)
        clear ht
        by_cases hs : save = 0
        · have ds : (save == 0) = true := by simp [hs]
          cases b with
          | none =>
            have LO := Lib.hid (show firstGo L none = firstGo (L.drop (k + 1)) (some ⟨ta, tr, ts, tl⟩) from by rw [if_pos ⟨hit, by rw [SV.out]; exact hs, rfl⟩, ← HT.out] at HN; exact HN)
            clear HN hit hs
            go_wp2
            go_roundw
            case rel => exact ⟨k + 1, some ⟨ta, tr, ts, tl⟩, by omega, rfl, int_eqS (by omega), LO.out, HW.store _ _ _ _⟩
            case measure => simp only [intOf]; omega
          | some bt =>
            have eb : bt = ⟨ba, br, bs, bl⟩ := HQ.out.symm
            by_cases h8 : ta < ba
            · have d8 : decide (ta < ba) = true := decide_eq_true h8
              have LO := Lib.hid (show firstGo L none = firstGo (L.drop (k + 1)) (some ⟨ta, tr, ts, tl⟩) from by rw [if_pos ⟨hit, by rw [SV.out]; exact hs, by rw [← HT.out, eb]; exact decide_eq_true h8⟩, ← HT.out] at HN; exact HN)
              clear HN hit hs eb
              go_wp2
              go_roundw
              case rel => exact ⟨k + 1, some ⟨ta, tr, ts, tl⟩, by omega, rfl, int_eqS (by omega), LO.out, HW.store _ _ _ _⟩
              case measure => simp only [intOf]; omega
            · have d8 : decide (ta < ba) = false := decide_eq_false h8
              have LO := Lib.hid (show firstGo L none = firstGo (L.drop (k + 1)) (some bt) from by
                rw [if_neg (fun c => by have := c.2.2; rw [← HT.out, eb] at this; exact h8 (of_decide_eq_true this))] at HN
                exact HN)
              clear HN hit hs eb
              go_wp2
              go_roundw
              case rel => exact ⟨k + 1, some bt, by omega, rfl, int_eqS (by omega), LO.out, HQ.out ▸ HW⟩
              case measure => simp only [intOf]; omega
        · have ds : (save == 0) = false := beq_false_of_ne hs
          have LO := Lib.hid (show firstGo L none = firstGo (L.drop (k + 1)) b from by rw [if_neg (fun c => hs (by rw [← SV.out]; exact c.2.1))] at HN; exact HN)
          clear HN hit hs
          go_wp2
          go_roundw
          case rel => exact ⟨k + 1, b, by omega, rfl, int_eqS (by omega), LO.out, HQ.out ▸ HW⟩
          case measure => simp only [intOf]; omega
      · replace hf := hf.out
        rw [turnO_none hit] at hf
        obtain rfl : f = false := hf
        have LO := Lib.hid (show firstGo L none = firstGo (L.drop (k + 1)) b from by rw [if_neg (fun c => hit c.1)] at HN; exact HN)
        clear HN hit ht
        go_wp2
        go_roundw
        case rel => exact ⟨k + 1, b, by omega, rfl, int_eqS (by omega), LO.out, HQ.out ▸ HW⟩
        case measure => simp only [intOf]; omega
    · obtain rfl : k = n := by omega
      have E := Lib.hid (show firstL L = bl from by
        have h := HR.out
        rw [← LN.out, List.drop_length] at h
        rw [firstL_is (b := b) h, ← HQ.out])
      clear HR
      obtain ⟨_, b0, b1, b2, b3, e0, e1, e2, e3⟩ := HW.k1.four
      go_wp2
      go_ret
      exact ⟨by rw [E.out]; rfl, HW.hb⟩
structure ThW (w : World) (a b d : Value) (X : World) : Prop where
  hb : Below w.heap.size w X
  k0 : Blk X w.heap.size [a]
  k1 : Blk X (w.heap.size + 1) [b]
  k2 : Blk X (w.heap.size + 1 + 1) [d]
theorem ThW.below {w : World} {a b d : Value} {X X' : World} (h : ThW w a b d X) (k : Below X.heap.size X X') : ThW w a b d X' := ⟨below_thru h.hb k, h.k0.below k, h.k1.below k, h.k2.below k⟩
theorem th_boxes (w : World) (a b d : Value) (s t u : TypeId) : ThW w a b d (((w.alloc (.cells #[a] s)).alloc (.cells #[b] t)).alloc (.cells #[d] u)) := by
  have k1 := below_box w (.cells #[a] s)
  have k2 := below_box (w.alloc (.cells #[a] s)) (.cells #[b] t)
  have k3 := below_box ((w.alloc (.cells #[a] s)).alloc (.cells #[b] t)) (.cells #[d] u)
  have b1 := blk_lit (w.alloc (.cells #[a] s)) t [b]
  have b2 := blk_lit ((w.alloc (.cells #[a] s)).alloc (.cells #[b] t)) u [d]
  simp only [World.size_alloc] at b1 b2
  exact ⟨below_thru (below_thru k1 k2) k3, ((blk_lit w s [a]).below k2).below k3, b1.below k3, b2⟩
theorem forceF_no {L : List Rl} {off T : Int} (h : ¬ (fitB L = true ∧ -86400 < off ∧ off < 86400)) : forceF L off T = (0, ⟨#[]⟩) := if_neg h
theorem forceF_yes {L : List Rl} {off T : Int} (h : fitB L = true ∧ -86400 < off ∧ off < 86400) : forceF L off T = forceR L off T := if_pos h
theorem forceAE (L : List Rl) (off T : Int) (ho : In64 off) (hT : In64 T) (A : Option Addr) (n c : Nat) (w : World) (hm : RulV w A n c L) (LE : Lens w) : Calls Tryz.prog 56 #[.slice A n c, .int .i64 off, .int .i64 T] w (RetIS w (forceF L off T)) := by
  have RP := fun W (h : RulV W A n c L) => rightPE L A n c W h
  have HA := Lib.hid hm
  unfold In64 at ho
  cases hf : fitB L with
  | false =>
    have EN := Lib.hid (forceF_no (T := T) (off := off) (fun h => by rw [hf] at h; exact absurd h.1 (by decide)))
    rw [hf] at RP
    have RP := Lib.hid RP
    clear hf hm LE
    go_enter Tryz.func56, Tryz.ntmps56
    go_upto_region 1 with (fail)
    have HT := th_boxes w (.slice A n c) (.int .i64 off) (.int .i64 T) 25 3 2
    generalize (((w.alloc (.cells #[.slice A n c] 25)).alloc (.cells #[.int .i64 off] 3)).alloc (.cells #[.int .i64 T] 2)) = W0 at *
    have g0 := HT.k0.one.2.1
    have g1 := HT.k1.one.2.1
    have g2 := HT.k2.one.2.1
    go_wp2_with (go_at_call 65; refine (RP.out _ (HA.out.below HT.hb)).mono ?_; clear RP; rintro e W9 ⟨rfl, hk⟩; replace HT := HT.below hk; clear hk g0 g1 g2; have g0 := HT.k0.one.2.1; have g1 := HT.k1.one.2.1; have g2 := HT.k2.one.2.1)
    go_ret2
    exact ⟨by rw [EN.out]; rfl, HT.hb⟩
  | true =>
    rw [hf] at RP
    have RP := Lib.hid RP
    by_cases o1 : off ≤ -86400
    · have d1 : decide (off ≤ -86400) = true := decide_eq_true o1
      have EN := Lib.hid (forceF_no (T := T) (L := L) (off := off) (fun h => by omega))
      clear hf hm LE
      go_enter Tryz.func56, Tryz.ntmps56
      go_upto_region 1 with (fail)
      have HT := th_boxes w (.slice A n c) (.int .i64 off) (.int .i64 T) 25 3 2
      generalize (((w.alloc (.cells #[.slice A n c] 25)).alloc (.cells #[.int .i64 off] 3)).alloc (.cells #[.int .i64 T] 2)) = W0 at *
      have g0 := HT.k0.one.2.1
      have g1 := HT.k1.one.2.1
      have g2 := HT.k2.one.2.1
      go_wp2_with (go_at_call 65; refine (RP.out _ (HA.out.below HT.hb)).mono ?_; clear RP; rintro e W9 ⟨rfl, hk⟩; replace HT := HT.below hk; clear hk g0 g1 g2; have g0 := HT.k0.one.2.1; have g1 := HT.k1.one.2.1; have g2 := HT.k2.one.2.1)
      go_ret2
      exact ⟨by rw [EN.out]; rfl, HT.hb⟩
    have d1 : decide (off ≤ -86400) = false := decide_eq_false o1
    by_cases o2 : 86400 ≤ off
    · have d2 : decide (86400 ≤ off) = true := decide_eq_true o2
      have EN := Lib.hid (forceF_no (T := T) (L := L) (off := off) (fun h => by omega))
      clear hf hm LE
      go_enter Tryz.func56, Tryz.ntmps56
      go_upto_region 1 with (fail)
      have HT := th_boxes w (.slice A n c) (.int .i64 off) (.int .i64 T) 25 3 2
      generalize (((w.alloc (.cells #[.slice A n c] 25)).alloc (.cells #[.int .i64 off] 3)).alloc (.cells #[.int .i64 T] 2)) = W0 at *
      have g0 := HT.k0.one.2.1
      have g1 := HT.k1.one.2.1
      have g2 := HT.k2.one.2.1
      go_wp2_with (go_at_call 65; refine (RP.out _ (HA.out.below HT.hb)).mono ?_; clear RP; rintro e W9 ⟨rfl, hk⟩; replace HT := HT.below hk; clear hk g0 g1 g2; have g0 := HT.k0.one.2.1; have g1 := HT.k1.one.2.1; have g2 := HT.k2.one.2.1)
      go_ret2
      exact ⟨by rw [EN.out]; rfl, HT.hb⟩
    have d2 : decide (86400 ≤ off) = false := decide_eq_false o2
    have hL := fit_yes.1 hf
    have ER := Lib.hid (forceF_yes (T := T) ⟨hf, (by omega : -86400 < off), (by omega : off < 86400)⟩)
    have FI := Lib.hid (fun W (hW : Below w.heap.size w W) => firstE L A n c W (hm.below hW) (LE.mono hW))
    have LC := fun W (hW : Below w.heap.size w W) B0 B1 B2 (g0 : W.cell? ⟨B0, 0, none⟩ = some (.slice A n c)) (g1 : W.cell? ⟨B1, 0, none⟩ = some (.int .i64 off)) (g2 : W.cell? ⟨B2, 0, none⟩ = some (.int .i64 T)) =>
      latestE L hL T hT 75 #[.pointer (some ⟨B0, 0, none⟩), .pointer (some ⟨B1, 0, none⟩), .pointer (some ⟨B2, 0, none⟩)] (enters_of Tryz.func75 (by kernel_rfl) rfl) (fun t => decide (uniT L off t ≤ T)) (fun t h => by have h1 := of_decide_eq_true h; have h2 := uniT_near hL (off := off) (by omega) (by omega) t; omega) A n c W (hm.below hW) (LE.mono hW)
        (fun V hV i y t ht => by
          obtain ⟨x, _, tx, rfl⟩ := ht
          have sm := turn_small tx
          exact forceKE L hL off T (by omega) (by omega) _ (by omega) (by omega) A n c B0 B1 B2 V ((hm.below hW).below hV) ((LE.mono hW).mono hV) ((hV.cell (p := ⟨B0, 0, none⟩) (World.block_lt_of_cell? _ _ g0)).trans g0) ((hV.cell (p := ⟨B1, 0, none⟩) (World.block_lt_of_cell? _ _ g1)).trans g1) ((hV.cell (p := ⟨B2, 0, none⟩) (World.block_lt_of_cell? _ _ g2)).trans g2))
    have eL : latestO L (fun t => decide (uniT L off t ≤ T) = true) = lastO L off T := by
      unfold lastO
      congr 1
      funext t
      exact propext decide_eq_true_iff
    rw [eL] at LC
    have FR : forceR L off T = (match lastO L off T with | some t => (t.save, t.letter) | none => (0, firstL L)) := rfl
    clear hL hf hm LE eL hT
    generalize lastO L off T = r at *
    obtain ⟨⟨ta, tr, ts, tl⟩, hq⟩ : ∃ q, q = r.getD Tn.zero := ⟨_, rfl⟩
    obtain ⟨f, hf⟩ : ∃ f, f = r.isSome := ⟨_, rfl⟩
    replace LC := Lib.hid (fun W (hW : Below w.heap.size w W) B0 B1 B2 g0 g1 g2 => (LC W hW B0 B1 B2 g0 g1 g2).mono (fun _ _ h => h.lit hq hf))
    cases r with
    | none =>
      obtain rfl : f = false := hf
      have EN := Lib.hid (show forceF L off T = (0, firstL L) from ER.out.trans FR)
      clear ER FR hq
      generalize firstL L = fl at *
      go_enter Tryz.func56, Tryz.ntmps56
      go_upto_region 1 with (fail)
      have HT := th_boxes w (.slice A n c) (.int .i64 off) (.int .i64 T) 25 3 2
      generalize (((w.alloc (.cells #[.slice A n c] 25)).alloc (.cells #[.int .i64 off] 3)).alloc (.cells #[.int .i64 T] 2)) = W0 at *
      have g0 := HT.k0.one.2.1
      have g1 := HT.k1.one.2.1
      have g2 := HT.k2.one.2.1
      go_upto_region 4 with (first
        | (go_at_call 65; refine (RP.out _ (HA.out.below HT.hb)).mono ?_; clear RP; rintro e W9 ⟨rfl, hk⟩; replace HT := HT.below hk; clear hk g0 g1 g2; have g0 := HT.k0.one.2.1; have g1 := HT.k1.one.2.1; have g2 := HT.k2.one.2.1)
        | (go_at_call 74; refine (LC.out _ HT.hb _ _ _ g0 g1 g2).mono ?_; clear LC; rintro e W8 ⟨rfl, hk⟩; replace HT := HT.below hk; clear hk g0 g1 g2; have g0 := HT.k0.one.2.1; have g1 := HT.k1.one.2.1; have g2 := HT.k2.one.2.1))
      replace HT := HT.below (below_box W8 (.cells #[.int .i64 ta, .int .i64 tr, .int .i64 ts, .string tl] 65))
      generalize W8.alloc (.cells #[.int .i64 ta, .int .i64 tr, .int .i64 ts, .string tl] 65) = W7 at *
      clear g0 g1 g2
      have g0 := HT.k0.one.2.1
      go_wp2_with (go_at_call 77; refine (FI.out _ HT.hb).mono ?_; clear FI; rintro e W6 ⟨rfl, hk⟩; replace HT := HT.below hk; clear hk g0)
      go_ret2
      exact ⟨by rw [EN.out]; rfl, HT.hb⟩
    | some t =>
      obtain rfl : f = true := hf
      have EN := Lib.hid (show forceF L off T = (ts, tl) from by rw [ER.out, FR]; show (t.save, t.letter) = (ts, tl); rw [show t = ⟨ta, tr, ts, tl⟩ from hq.symm])
      clear ER FR hq FI
      go_enter Tryz.func56, Tryz.ntmps56
      go_upto_region 1 with (fail)
      have HT := th_boxes w (.slice A n c) (.int .i64 off) (.int .i64 T) 25 3 2
      generalize (((w.alloc (.cells #[.slice A n c] 25)).alloc (.cells #[.int .i64 off] 3)).alloc (.cells #[.int .i64 T] 2)) = W0 at *
      have g0 := HT.k0.one.2.1
      have g1 := HT.k1.one.2.1
      have g2 := HT.k2.one.2.1
      go_upto_region 4 with (first
        | (go_at_call 65; refine (RP.out _ (HA.out.below HT.hb)).mono ?_; clear RP; rintro e W9 ⟨rfl, hk⟩; replace HT := HT.below hk; clear hk g0 g1 g2; have g0 := HT.k0.one.2.1; have g1 := HT.k1.one.2.1; have g2 := HT.k2.one.2.1)
        | (go_at_call 74; refine (LC.out _ HT.hb _ _ _ g0 g1 g2).mono ?_; clear LC; rintro e W8 ⟨rfl, hk⟩; replace HT := HT.below hk; clear hk g0 g1 g2; have g0 := HT.k0.one.2.1; have g1 := HT.k1.one.2.1; have g2 := HT.k2.one.2.1))
      have KT := Blk.new4 W8 (.int .i64 ta) (.int .i64 tr) (.int .i64 ts) (.string tl) 65
      replace HT := HT.below (below_box W8 (.cells #[.int .i64 ta, .int .i64 tr, .int .i64 ts, .string tl] 65))
      generalize W8.alloc (.cells #[.int .i64 ta, .int .i64 tr, .int .i64 ts, .string tl] 65) = W7 at *
      generalize W8.heap.size = q at *
      clear g0 g1 g2
      obtain ⟨_, t0, t1, t2, t3, _⟩ := KT.four
      go_upto_region 6 with (fail)
      go_quiet (fail)
      rename_i nq
      have HB := below_drewN HT.hb nq
      go_wp2
      go_ret2
      exact ⟨by rw [EN.out]; rfl, HB⟩
end Go.Proofs.YtallclimljiplaaGreatDoor
