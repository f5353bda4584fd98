import Derived.Test.YtmhpnmlgfdomkaaGreatDoorZGi
import Derived.Test.YtmhpnmlgfdomkaaGreatDoorZGyp
import Derived.Test.YtmhpnmlgfdomkaaGreatDoorZGhs
import Derived.Test.YtmhpnmlgfdomkaaGreatDoorZGj
import Derived.Test.YtmhpnmlgfdomkaaGreatDoorZHspec
set_option maxRecDepth 100000
set_option maxHeartbeats 64000000
namespace Go.Proofs.YtmhpnmlgfdomkaaGreatDoor
open Go.RowKit
theorem rr_a (nm le : ByteArray) (fr last mo ki wd da ti re save : Int) (HA : Hid (∀ W, Calls Tryz.prog 49 #[.string nm] W (SameV W (.bool false)))) (w : World) : Calls Tryz.prog 25 #[.agg #[.string nm, .int .i64 fr, .int .i64 last, .int .i64 mo, .int .i64 ki, .int .i64 wd, .int .i64 da, .int .i64 ti, .int .i64 re, .int .i64 save, .string le]] w (RetV w (.bool false)) := by
  go_enter Tryz.func25, Tryz.ntmps25
  go_upto_region 1 with (fail)
  have KB := blk_lit w 36 [.string nm, .int .i64 fr, .int .i64 last, .int .i64 mo, .int .i64 ki, .int .i64 wd, .int .i64 da, .int .i64 ti, .int .i64 re, .int .i64 save, .string le]
  have hb := below_box w (.cells #[.string nm, .int .i64 fr, .int .i64 last, .int .i64 mo, .int .i64 ki, .int .i64 wd, .int .i64 da, .int .i64 ti, .int .i64 re, .int .i64 save, .string le] 36)
  generalize w.alloc (.cells #[.string nm, .int .i64 fr, .int .i64 last, .int .i64 mo, .int .i64 ki, .int .i64 wd, .int .i64 da, .int .i64 ti, .int .i64 re, .int .i64 save, .string le] 36) = W at *
  obtain ⟨x0, x1, x2, x3, x4, x5, x6, x7, x8, x9, x10⟩ := KB.elevenC
  go_wp2_with (go_at_call 49; refine (HA.out _).mono ?_; clear HA; rintro e w' ⟨rfl, rfl⟩)
  go_wp2
  go_ret
  exact ⟨by first | rfl | simp, hb⟩
theorem rr_b (nm le : ByteArray) (fr last mo ki wd da ti re save : Int) (HA : Hid (∀ W, Calls Tryz.prog 49 #[.string nm] W (SameV W (.bool true)))) (HB : Hid (∀ W, Calls Tryz.prog 50 #[.int .i64 fr] W (SameV W (.bool false)))) (w : World) : Calls Tryz.prog 25 #[.agg #[.string nm, .int .i64 fr, .int .i64 last, .int .i64 mo, .int .i64 ki, .int .i64 wd, .int .i64 da, .int .i64 ti, .int .i64 re, .int .i64 save, .string le]] w (RetV w (.bool false)) := by
  go_enter Tryz.func25, Tryz.ntmps25
  go_upto_region 1 with (fail)
  have KB := blk_lit w 36 [.string nm, .int .i64 fr, .int .i64 last, .int .i64 mo, .int .i64 ki, .int .i64 wd, .int .i64 da, .int .i64 ti, .int .i64 re, .int .i64 save, .string le]
  have hb := below_box w (.cells #[.string nm, .int .i64 fr, .int .i64 last, .int .i64 mo, .int .i64 ki, .int .i64 wd, .int .i64 da, .int .i64 ti, .int .i64 re, .int .i64 save, .string le] 36)
  generalize w.alloc (.cells #[.string nm, .int .i64 fr, .int .i64 last, .int .i64 mo, .int .i64 ki, .int .i64 wd, .int .i64 da, .int .i64 ti, .int .i64 re, .int .i64 save, .string le] 36) = W at *
  obtain ⟨x0, x1, x2, x3, x4, x5, x6, x7, x8, x9, x10⟩ := KB.elevenC
  go_wp2_with (go_at_call 49; refine (HA.out _).mono ?_; clear HA; rintro e w' ⟨rfl, rfl⟩)
  go_wp2_with (go_at_call 50; refine (HB.out _).mono ?_; clear HB; rintro e w' ⟨rfl, rfl⟩)
  go_wp2
  go_ret
  exact ⟨by first | rfl | simp, hb⟩
theorem rr_c (nm le : ByteArray) (fr last mo ki wd da ti re save : Int) (HA : Hid (∀ W, Calls Tryz.prog 49 #[.string nm] W (SameV W (.bool true)))) (HB : Hid (∀ W, Calls Tryz.prog 50 #[.int .i64 fr] W (SameV W (.bool true)))) (HC : Hid (∀ W, Calls Tryz.prog 50 #[.int .i64 last] W (SameV W (.bool false)))) (hl : (last == 1000000) = false) (w : World) : Calls Tryz.prog 25 #[.agg #[.string nm, .int .i64 fr, .int .i64 last, .int .i64 mo, .int .i64 ki, .int .i64 wd, .int .i64 da, .int .i64 ti, .int .i64 re, .int .i64 save, .string le]] w (RetV w (.bool false)) := by
  go_enter Tryz.func25, Tryz.ntmps25
  go_upto_region 1 with (fail)
  have KB := blk_lit w 36 [.string nm, .int .i64 fr, .int .i64 last, .int .i64 mo, .int .i64 ki, .int .i64 wd, .int .i64 da, .int .i64 ti, .int .i64 re, .int .i64 save, .string le]
  have hb := below_box w (.cells #[.string nm, .int .i64 fr, .int .i64 last, .int .i64 mo, .int .i64 ki, .int .i64 wd, .int .i64 da, .int .i64 ti, .int .i64 re, .int .i64 save, .string le] 36)
  generalize w.alloc (.cells #[.string nm, .int .i64 fr, .int .i64 last, .int .i64 mo, .int .i64 ki, .int .i64 wd, .int .i64 da, .int .i64 ti, .int .i64 re, .int .i64 save, .string le] 36) = W at *
  obtain ⟨x0, x1, x2, x3, x4, x5, x6, x7, x8, x9, x10⟩ := KB.elevenC
  go_wp2_with (go_at_call 49; refine (HA.out _).mono ?_; clear HA; rintro e w' ⟨rfl, rfl⟩)
  go_wp2_with (go_at_call 50; refine (HB.out _).mono ?_; clear HB; rintro e w' ⟨rfl, rfl⟩)
  go_wp2_with (go_at_call 50; refine (HC.out _).mono ?_; clear HC; rintro e w' ⟨rfl, rfl⟩)
  go_wp2
  go_ret
  exact ⟨by first | rfl | simp, hb⟩
theorem rr_td (nm le : ByteArray) (fr last mo ki wd da ti re save : Int) (HA : Hid (∀ W, Calls Tryz.prog 49 #[.string nm] W (SameV W (.bool true)))) (HB : Hid (∀ W, Calls Tryz.prog 50 #[.int .i64 fr] W (SameV W (.bool true)))) (HC : Hid (∀ W, Calls Tryz.prog 50 #[.int .i64 last] W (SameV W (.bool true)))) (HD : Hid (∀ W, Calls Tryz.prog 51 #[.agg #[.int .i64 mo, .int .i64 ki, .int .i64 wd, .int .i64 da, .int .i64 ti, .int .i64 re]] W (RetV W (.bool false)))) (w : World) : Calls Tryz.prog 25 #[.agg #[.string nm, .int .i64 fr, .int .i64 last, .int .i64 mo, .int .i64 ki, .int .i64 wd, .int .i64 da, .int .i64 ti, .int .i64 re, .int .i64 save, .string le]] w (RetV w (.bool false)) := by
  go_enter Tryz.func25, Tryz.ntmps25
  go_upto_region 1 with (fail)
  have KB := blk_lit w 36 [.string nm, .int .i64 fr, .int .i64 last, .int .i64 mo, .int .i64 ki, .int .i64 wd, .int .i64 da, .int .i64 ti, .int .i64 re, .int .i64 save, .string le]
  have hb := below_box w (.cells #[.string nm, .int .i64 fr, .int .i64 last, .int .i64 mo, .int .i64 ki, .int .i64 wd, .int .i64 da, .int .i64 ti, .int .i64 re, .int .i64 save, .string le] 36)
  generalize w.alloc (.cells #[.string nm, .int .i64 fr, .int .i64 last, .int .i64 mo, .int .i64 ki, .int .i64 wd, .int .i64 da, .int .i64 ti, .int .i64 re, .int .i64 save, .string le] 36) = W at *
  obtain ⟨x0, x1, x2, x3, x4, x5, x6, x7, x8, x9, x10⟩ := KB.elevenC
  go_wp2_with (go_at_call 49; refine (HA.out _).mono ?_; clear HA; rintro e w' ⟨rfl, rfl⟩)
  go_wp2_with (go_at_call 50; refine (HB.out _).mono ?_; clear HB; rintro e w' ⟨rfl, rfl⟩)
  go_wp2_with (go_at_call 50; refine (HC.out _).mono ?_; clear HC; rintro e w' ⟨rfl, rfl⟩)
  go_wp2_with (go_at_call 51; refine (HD.out _).mono ?_; clear HD; rintro e w' ⟨rfl, hk⟩; replace hb := below_thru hb hk; replace KB := KB.below hk; clear hk x0 x1 x2 x3 x4 x5 x6 x7 x8 x9 x10; obtain ⟨x0, x1, x2, x3, x4, x5, x6, x7, x8, x9, x10⟩ := KB.elevenC)
  go_wp2
  go_ret
  exact ⟨by first | rfl | simp, hb⟩
theorem rr_te (nm le : ByteArray) (fr last mo ki wd da ti re save : Int) (HA : Hid (∀ W, Calls Tryz.prog 49 #[.string nm] W (SameV W (.bool true)))) (HB : Hid (∀ W, Calls Tryz.prog 50 #[.int .i64 fr] W (SameV W (.bool true)))) (HC : Hid (∀ W, Calls Tryz.prog 50 #[.int .i64 last] W (SameV W (.bool true)))) (HD : Hid (∀ W, Calls Tryz.prog 51 #[.agg #[.int .i64 mo, .int .i64 ki, .int .i64 wd, .int .i64 da, .int .i64 ti, .int .i64 re]] W (RetV W (.bool true)))) (HE : Hid (∀ W, Calls Tryz.prog 52 #[.int .i64 save] W (SameV W (.bool false)))) (w : World) : Calls Tryz.prog 25 #[.agg #[.string nm, .int .i64 fr, .int .i64 last, .int .i64 mo, .int .i64 ki, .int .i64 wd, .int .i64 da, .int .i64 ti, .int .i64 re, .int .i64 save, .string le]] w (RetV w (.bool false)) := by
  go_enter Tryz.func25, Tryz.ntmps25
  go_upto_region 1 with (fail)
  have KB := blk_lit w 36 [.string nm, .int .i64 fr, .int .i64 last, .int .i64 mo, .int .i64 ki, .int .i64 wd, .int .i64 da, .int .i64 ti, .int .i64 re, .int .i64 save, .string le]
  have hb := below_box w (.cells #[.string nm, .int .i64 fr, .int .i64 last, .int .i64 mo, .int .i64 ki, .int .i64 wd, .int .i64 da, .int .i64 ti, .int .i64 re, .int .i64 save, .string le] 36)
  generalize w.alloc (.cells #[.string nm, .int .i64 fr, .int .i64 last, .int .i64 mo, .int .i64 ki, .int .i64 wd, .int .i64 da, .int .i64 ti, .int .i64 re, .int .i64 save, .string le] 36) = W at *
  obtain ⟨x0, x1, x2, x3, x4, x5, x6, x7, x8, x9, x10⟩ := KB.elevenC
  go_wp2_with (go_at_call 49; refine (HA.out _).mono ?_; clear HA; rintro e w' ⟨rfl, rfl⟩)
  go_wp2_with (go_at_call 50; refine (HB.out _).mono ?_; clear HB; rintro e w' ⟨rfl, rfl⟩)
  go_wp2_with (go_at_call 50; refine (HC.out _).mono ?_; clear HC; rintro e w' ⟨rfl, rfl⟩)
  go_wp2_with (go_at_call 51; refine (HD.out _).mono ?_; clear HD; rintro e w' ⟨rfl, hk⟩; replace hb := below_thru hb hk; replace KB := KB.below hk; clear hk x0 x1 x2 x3 x4 x5 x6 x7 x8 x9 x10; obtain ⟨x0, x1, x2, x3, x4, x5, x6, x7, x8, x9, x10⟩ := KB.elevenC)
  go_wp2_with (go_at_call 52; refine (HE.out _).mono ?_; clear HE; rintro e w' ⟨rfl, rfl⟩)
  go_wp2
  go_ret
  exact ⟨by first | rfl | simp, hb⟩
theorem rr_tf (nm le : ByteArray) (fr last mo ki wd da ti re save : Int) (HA : Hid (∀ W, Calls Tryz.prog 49 #[.string nm] W (SameV W (.bool true)))) (HB : Hid (∀ W, Calls Tryz.prog 50 #[.int .i64 fr] W (SameV W (.bool true)))) (HC : Hid (∀ W, Calls Tryz.prog 50 #[.int .i64 last] W (SameV W (.bool true)))) (HD : Hid (∀ W, Calls Tryz.prog 51 #[.agg #[.int .i64 mo, .int .i64 ki, .int .i64 wd, .int .i64 da, .int .i64 ti, .int .i64 re]] W (RetV W (.bool true)))) (HE : Hid (∀ W, Calls Tryz.prog 52 #[.int .i64 save] W (SameV W (.bool true)))) (hf : (le.toList == []) = true ∧ le.toList.isEmpty = true ∧ le.toList = []) (w : World) : Calls Tryz.prog 25 #[.agg #[.string nm, .int .i64 fr, .int .i64 last, .int .i64 mo, .int .i64 ki, .int .i64 wd, .int .i64 da, .int .i64 ti, .int .i64 re, .int .i64 save, .string le]] w (RetV w (.bool true)) := by
  obtain ⟨f1, f2, f3⟩ := hf
  go_enter Tryz.func25, Tryz.ntmps25
  go_upto_region 1 with (fail)
  have KB := blk_lit w 36 [.string nm, .int .i64 fr, .int .i64 last, .int .i64 mo, .int .i64 ki, .int .i64 wd, .int .i64 da, .int .i64 ti, .int .i64 re, .int .i64 save, .string le]
  have hb := below_box w (.cells #[.string nm, .int .i64 fr, .int .i64 last, .int .i64 mo, .int .i64 ki, .int .i64 wd, .int .i64 da, .int .i64 ti, .int .i64 re, .int .i64 save, .string le] 36)
  generalize w.alloc (.cells #[.string nm, .int .i64 fr, .int .i64 last, .int .i64 mo, .int .i64 ki, .int .i64 wd, .int .i64 da, .int .i64 ti, .int .i64 re, .int .i64 save, .string le] 36) = W at *
  obtain ⟨x0, x1, x2, x3, x4, x5, x6, x7, x8, x9, x10⟩ := KB.elevenC
  go_wp2_with (go_at_call 49; refine (HA.out _).mono ?_; clear HA; rintro e w' ⟨rfl, rfl⟩)
  go_wp2_with (go_at_call 50; refine (HB.out _).mono ?_; clear HB; rintro e w' ⟨rfl, rfl⟩)
  go_wp2_with (go_at_call 50; refine (HC.out _).mono ?_; clear HC; rintro e w' ⟨rfl, rfl⟩)
  go_wp2_with (go_at_call 51; refine (HD.out _).mono ?_; clear HD; rintro e w' ⟨rfl, hk⟩; replace hb := below_thru hb hk; replace KB := KB.below hk; clear hk x0 x1 x2 x3 x4 x5 x6 x7 x8 x9 x10; obtain ⟨x0, x1, x2, x3, x4, x5, x6, x7, x8, x9, x10⟩ := KB.elevenC)
  go_wp2_with (go_at_call 52; refine (HE.out _).mono ?_; clear HE; rintro e w' ⟨rfl, rfl⟩)
  go_wp2
  go_ret
  exact ⟨by first | rfl | simp, hb⟩
theorem rr_tg (nm le : ByteArray) (fr last mo ki wd da ti re save : Int) (HA : Hid (∀ W, Calls Tryz.prog 49 #[.string nm] W (SameV W (.bool true)))) (HB : Hid (∀ W, Calls Tryz.prog 50 #[.int .i64 fr] W (SameV W (.bool true)))) (HC : Hid (∀ W, Calls Tryz.prog 50 #[.int .i64 last] W (SameV W (.bool true)))) (HD : Hid (∀ W, Calls Tryz.prog 51 #[.agg #[.int .i64 mo, .int .i64 ki, .int .i64 wd, .int .i64 da, .int .i64 ti, .int .i64 re]] W (RetV W (.bool true)))) (HE : Hid (∀ W, Calls Tryz.prog 52 #[.int .i64 save] W (SameV W (.bool true)))) (hf : (le.toList == []) = false ∧ le.toList.isEmpty = false ∧ ¬ le.toList = []) (g : Bool) (HG : Hid (∀ W, Calls Tryz.prog 53 #[.string le] W (SameV W (.bool g)))) (w : World) : Calls Tryz.prog 25 #[.agg #[.string nm, .int .i64 fr, .int .i64 last, .int .i64 mo, .int .i64 ki, .int .i64 wd, .int .i64 da, .int .i64 ti, .int .i64 re, .int .i64 save, .string le]] w (RetV w (.bool g)) := by
  obtain ⟨f1, f2, f3⟩ := hf
  go_enter Tryz.func25, Tryz.ntmps25
  go_upto_region 1 with (fail)
  have KB := blk_lit w 36 [.string nm, .int .i64 fr, .int .i64 last, .int .i64 mo, .int .i64 ki, .int .i64 wd, .int .i64 da, .int .i64 ti, .int .i64 re, .int .i64 save, .string le]
  have hb := below_box w (.cells #[.string nm, .int .i64 fr, .int .i64 last, .int .i64 mo, .int .i64 ki, .int .i64 wd, .int .i64 da, .int .i64 ti, .int .i64 re, .int .i64 save, .string le] 36)
  generalize w.alloc (.cells #[.string nm, .int .i64 fr, .int .i64 last, .int .i64 mo, .int .i64 ki, .int .i64 wd, .int .i64 da, .int .i64 ti, .int .i64 re, .int .i64 save, .string le] 36) = W at *
  obtain ⟨x0, x1, x2, x3, x4, x5, x6, x7, x8, x9, x10⟩ := KB.elevenC
  go_wp2_with (go_at_call 49; refine (HA.out _).mono ?_; clear HA; rintro e w' ⟨rfl, rfl⟩)
  go_wp2_with (go_at_call 50; refine (HB.out _).mono ?_; clear HB; rintro e w' ⟨rfl, rfl⟩)
  go_wp2_with (go_at_call 50; refine (HC.out _).mono ?_; clear HC; rintro e w' ⟨rfl, rfl⟩)
  go_wp2_with (go_at_call 51; refine (HD.out _).mono ?_; clear HD; rintro e w' ⟨rfl, hk⟩; replace hb := below_thru hb hk; replace KB := KB.below hk; clear hk x0 x1 x2 x3 x4 x5 x6 x7 x8 x9 x10; obtain ⟨x0, x1, x2, x3, x4, x5, x6, x7, x8, x9, x10⟩ := KB.elevenC)
  go_wp2_with (go_at_call 52; refine (HE.out _).mono ?_; clear HE; rintro e w' ⟨rfl, rfl⟩)
  go_wp2_with (go_at_call 53; refine (HG.out _).mono ?_; clear HG; rintro e w' ⟨rfl, rfl⟩)
  go_wp2
  go_ret
  exact ⟨by first | rfl | simp, hb⟩
theorem rr_fd (nm le : ByteArray) (fr last mo ki wd da ti re save : Int) (HA : Hid (∀ W, Calls Tryz.prog 49 #[.string nm] W (SameV W (.bool true)))) (HB : Hid (∀ W, Calls Tryz.prog 50 #[.int .i64 fr] W (SameV W (.bool true)))) (HC : Hid (∀ W, Calls Tryz.prog 50 #[.int .i64 last] W (SameV W (.bool false)))) (hl : (last == 1000000) = true) (HD : Hid (∀ W, Calls Tryz.prog 51 #[.agg #[.int .i64 mo, .int .i64 ki, .int .i64 wd, .int .i64 da, .int .i64 ti, .int .i64 re]] W (RetV W (.bool false)))) (w : World) : Calls Tryz.prog 25 #[.agg #[.string nm, .int .i64 fr, .int .i64 last, .int .i64 mo, .int .i64 ki, .int .i64 wd, .int .i64 da, .int .i64 ti, .int .i64 re, .int .i64 save, .string le]] w (RetV w (.bool false)) := by
  go_enter Tryz.func25, Tryz.ntmps25
  go_upto_region 1 with (fail)
  have KB := blk_lit w 36 [.string nm, .int .i64 fr, .int .i64 last, .int .i64 mo, .int .i64 ki, .int .i64 wd, .int .i64 da, .int .i64 ti, .int .i64 re, .int .i64 save, .string le]
  have hb := below_box w (.cells #[.string nm, .int .i64 fr, .int .i64 last, .int .i64 mo, .int .i64 ki, .int .i64 wd, .int .i64 da, .int .i64 ti, .int .i64 re, .int .i64 save, .string le] 36)
  generalize w.alloc (.cells #[.string nm, .int .i64 fr, .int .i64 last, .int .i64 mo, .int .i64 ki, .int .i64 wd, .int .i64 da, .int .i64 ti, .int .i64 re, .int .i64 save, .string le] 36) = W at *
  obtain ⟨x0, x1, x2, x3, x4, x5, x6, x7, x8, x9, x10⟩ := KB.elevenC
  go_wp2_with (go_at_call 49; refine (HA.out _).mono ?_; clear HA; rintro e w' ⟨rfl, rfl⟩)
  go_wp2_with (go_at_call 50; refine (HB.out _).mono ?_; clear HB; rintro e w' ⟨rfl, rfl⟩)
  go_wp2_with (go_at_call 50; refine (HC.out _).mono ?_; clear HC; rintro e w' ⟨rfl, rfl⟩)
  go_wp2_with (go_at_call 51; refine (HD.out _).mono ?_; clear HD; rintro e w' ⟨rfl, hk⟩; replace hb := below_thru hb hk; replace KB := KB.below hk; clear hk x0 x1 x2 x3 x4 x5 x6 x7 x8 x9 x10; obtain ⟨x0, x1, x2, x3, x4, x5, x6, x7, x8, x9, x10⟩ := KB.elevenC)
  go_wp2
  go_ret
  exact ⟨by first | rfl | simp, hb⟩
theorem rr_fe (nm le : ByteArray) (fr last mo ki wd da ti re save : Int) (HA : Hid (∀ W, Calls Tryz.prog 49 #[.string nm] W (SameV W (.bool true)))) (HB : Hid (∀ W, Calls Tryz.prog 50 #[.int .i64 fr] W (SameV W (.bool true)))) (HC : Hid (∀ W, Calls Tryz.prog 50 #[.int .i64 last] W (SameV W (.bool false)))) (hl : (last == 1000000) = true) (HD : Hid (∀ W, Calls Tryz.prog 51 #[.agg #[.int .i64 mo, .int .i64 ki, .int .i64 wd, .int .i64 da, .int .i64 ti, .int .i64 re]] W (RetV W (.bool true)))) (HE : Hid (∀ W, Calls Tryz.prog 52 #[.int .i64 save] W (SameV W (.bool false)))) (w : World) : Calls Tryz.prog 25 #[.agg #[.string nm, .int .i64 fr, .int .i64 last, .int .i64 mo, .int .i64 ki, .int .i64 wd, .int .i64 da, .int .i64 ti, .int .i64 re, .int .i64 save, .string le]] w (RetV w (.bool false)) := by
  go_enter Tryz.func25, Tryz.ntmps25
  go_upto_region 1 with (fail)
  have KB := blk_lit w 36 [.string nm, .int .i64 fr, .int .i64 last, .int .i64 mo, .int .i64 ki, .int .i64 wd, .int .i64 da, .int .i64 ti, .int .i64 re, .int .i64 save, .string le]
  have hb := below_box w (.cells #[.string nm, .int .i64 fr, .int .i64 last, .int .i64 mo, .int .i64 ki, .int .i64 wd, .int .i64 da, .int .i64 ti, .int .i64 re, .int .i64 save, .string le] 36)
  generalize w.alloc (.cells #[.string nm, .int .i64 fr, .int .i64 last, .int .i64 mo, .int .i64 ki, .int .i64 wd, .int .i64 da, .int .i64 ti, .int .i64 re, .int .i64 save, .string le] 36) = W at *
  obtain ⟨x0, x1, x2, x3, x4, x5, x6, x7, x8, x9, x10⟩ := KB.elevenC
  go_wp2_with (go_at_call 49; refine (HA.out _).mono ?_; clear HA; rintro e w' ⟨rfl, rfl⟩)
  go_wp2_with (go_at_call 50; refine (HB.out _).mono ?_; clear HB; rintro e w' ⟨rfl, rfl⟩)
  go_wp2_with (go_at_call 50; refine (HC.out _).mono ?_; clear HC; rintro e w' ⟨rfl, rfl⟩)
  go_wp2_with (go_at_call 51; refine (HD.out _).mono ?_; clear HD; rintro e w' ⟨rfl, hk⟩; replace hb := below_thru hb hk; replace KB := KB.below hk; clear hk x0 x1 x2 x3 x4 x5 x6 x7 x8 x9 x10; obtain ⟨x0, x1, x2, x3, x4, x5, x6, x7, x8, x9, x10⟩ := KB.elevenC)
  go_wp2_with (go_at_call 52; refine (HE.out _).mono ?_; clear HE; rintro e w' ⟨rfl, rfl⟩)
  go_wp2
  go_ret
  exact ⟨by first | rfl | simp, hb⟩
theorem rr_ff (nm le : ByteArray) (fr last mo ki wd da ti re save : Int) (HA : Hid (∀ W, Calls Tryz.prog 49 #[.string nm] W (SameV W (.bool true)))) (HB : Hid (∀ W, Calls Tryz.prog 50 #[.int .i64 fr] W (SameV W (.bool true)))) (HC : Hid (∀ W, Calls Tryz.prog 50 #[.int .i64 last] W (SameV W (.bool false)))) (hl : (last == 1000000) = true) (HD : Hid (∀ W, Calls Tryz.prog 51 #[.agg #[.int .i64 mo, .int .i64 ki, .int .i64 wd, .int .i64 da, .int .i64 ti, .int .i64 re]] W (RetV W (.bool true)))) (HE : Hid (∀ W, Calls Tryz.prog 52 #[.int .i64 save] W (SameV W (.bool true)))) (hf : (le.toList == []) = true ∧ le.toList.isEmpty = true ∧ le.toList = []) (w : World) : Calls Tryz.prog 25 #[.agg #[.string nm, .int .i64 fr, .int .i64 last, .int .i64 mo, .int .i64 ki, .int .i64 wd, .int .i64 da, .int .i64 ti, .int .i64 re, .int .i64 save, .string le]] w (RetV w (.bool true)) := by
  obtain ⟨f1, f2, f3⟩ := hf
  go_enter Tryz.func25, Tryz.ntmps25
  go_upto_region 1 with (fail)
  have KB := blk_lit w 36 [.string nm, .int .i64 fr, .int .i64 last, .int .i64 mo, .int .i64 ki, .int .i64 wd, .int .i64 da, .int .i64 ti, .int .i64 re, .int .i64 save, .string le]
  have hb := below_box w (.cells #[.string nm, .int .i64 fr, .int .i64 last, .int .i64 mo, .int .i64 ki, .int .i64 wd, .int .i64 da, .int .i64 ti, .int .i64 re, .int .i64 save, .string le] 36)
  generalize w.alloc (.cells #[.string nm, .int .i64 fr, .int .i64 last, .int .i64 mo, .int .i64 ki, .int .i64 wd, .int .i64 da, .int .i64 ti, .int .i64 re, .int .i64 save, .string le] 36) = W at *
  obtain ⟨x0, x1, x2, x3, x4, x5, x6, x7, x8, x9, x10⟩ := KB.elevenC
  go_wp2_with (go_at_call 49; refine (HA.out _).mono ?_; clear HA; rintro e w' ⟨rfl, rfl⟩)
  go_wp2_with (go_at_call 50; refine (HB.out _).mono ?_; clear HB; rintro e w' ⟨rfl, rfl⟩)
  go_wp2_with (go_at_call 50; refine (HC.out _).mono ?_; clear HC; rintro e w' ⟨rfl, rfl⟩)
  go_wp2_with (go_at_call 51; refine (HD.out _).mono ?_; clear HD; rintro e w' ⟨rfl, hk⟩; replace hb := below_thru hb hk; replace KB := KB.below hk; clear hk x0 x1 x2 x3 x4 x5 x6 x7 x8 x9 x10; obtain ⟨x0, x1, x2, x3, x4, x5, x6, x7, x8, x9, x10⟩ := KB.elevenC)
  go_wp2_with (go_at_call 52; refine (HE.out _).mono ?_; clear HE; rintro e w' ⟨rfl, rfl⟩)
  go_wp2
  go_ret
  exact ⟨by first | rfl | simp, hb⟩
theorem rr_fg (nm le : ByteArray) (fr last mo ki wd da ti re save : Int) (HA : Hid (∀ W, Calls Tryz.prog 49 #[.string nm] W (SameV W (.bool true)))) (HB : Hid (∀ W, Calls Tryz.prog 50 #[.int .i64 fr] W (SameV W (.bool true)))) (HC : Hid (∀ W, Calls Tryz.prog 50 #[.int .i64 last] W (SameV W (.bool false)))) (hl : (last == 1000000) = true) (HD : Hid (∀ W, Calls Tryz.prog 51 #[.agg #[.int .i64 mo, .int .i64 ki, .int .i64 wd, .int .i64 da, .int .i64 ti, .int .i64 re]] W (RetV W (.bool true)))) (HE : Hid (∀ W, Calls Tryz.prog 52 #[.int .i64 save] W (SameV W (.bool true)))) (hf : (le.toList == []) = false ∧ le.toList.isEmpty = false ∧ ¬ le.toList = []) (g : Bool) (HG : Hid (∀ W, Calls Tryz.prog 53 #[.string le] W (SameV W (.bool g)))) (w : World) : Calls Tryz.prog 25 #[.agg #[.string nm, .int .i64 fr, .int .i64 last, .int .i64 mo, .int .i64 ki, .int .i64 wd, .int .i64 da, .int .i64 ti, .int .i64 re, .int .i64 save, .string le]] w (RetV w (.bool g)) := by
  obtain ⟨f1, f2, f3⟩ := hf
  go_enter Tryz.func25, Tryz.ntmps25
  go_upto_region 1 with (fail)
  have KB := blk_lit w 36 [.string nm, .int .i64 fr, .int .i64 last, .int .i64 mo, .int .i64 ki, .int .i64 wd, .int .i64 da, .int .i64 ti, .int .i64 re, .int .i64 save, .string le]
  have hb := below_box w (.cells #[.string nm, .int .i64 fr, .int .i64 last, .int .i64 mo, .int .i64 ki, .int .i64 wd, .int .i64 da, .int .i64 ti, .int .i64 re, .int .i64 save, .string le] 36)
  generalize w.alloc (.cells #[.string nm, .int .i64 fr, .int .i64 last, .int .i64 mo, .int .i64 ki, .int .i64 wd, .int .i64 da, .int .i64 ti, .int .i64 re, .int .i64 save, .string le] 36) = W at *
  obtain ⟨x0, x1, x2, x3, x4, x5, x6, x7, x8, x9, x10⟩ := KB.elevenC
  go_wp2_with (go_at_call 49; refine (HA.out _).mono ?_; clear HA; rintro e w' ⟨rfl, rfl⟩)
  go_wp2_with (go_at_call 50; refine (HB.out _).mono ?_; clear HB; rintro e w' ⟨rfl, rfl⟩)
  go_wp2_with (go_at_call 50; refine (HC.out _).mono ?_; clear HC; rintro e w' ⟨rfl, rfl⟩)
  go_wp2_with (go_at_call 51; refine (HD.out _).mono ?_; clear HD; rintro e w' ⟨rfl, hk⟩; replace hb := below_thru hb hk; replace KB := KB.below hk; clear hk x0 x1 x2 x3 x4 x5 x6 x7 x8 x9 x10; obtain ⟨x0, x1, x2, x3, x4, x5, x6, x7, x8, x9, x10⟩ := KB.elevenC)
  go_wp2_with (go_at_call 52; refine (HE.out _).mono ?_; clear HE; rintro e w' ⟨rfl, rfl⟩)
  go_wp2_with (go_at_call 53; refine (HG.out _).mono ?_; clear HG; rintro e w' ⟨rfl, rfl⟩)
  go_wp2
  go_ret
  exact ⟨by first | rfl | simp, hb⟩
theorem no_textP {s : ByteArray} (h : s = ⟨#[]⟩) : (s.toList == []) = true ∧ s.toList.isEmpty = true ∧ s.toList = [] := by
  subst h
  rw [ByteArray.toList_eq]
  exact ⟨rfl, rfl, rfl⟩
theorem some_textP {s : ByteArray} (h : ¬ s = ⟨#[]⟩) : (s.toList == []) = false ∧ s.toList.isEmpty = false ∧ ¬ s.toList = [] :=
  full_text fun c => h (ByteArray.ext (Array.eq_empty_of_size_eq_zero c))
noncomputable def rlOk (x : Rl) : Bool := @decide x.ok (Classical.propDecidable _)
theorem rl_yes {x : Rl} (h : x.ok) : rlOk x = true := @decide_eq_true _ (Classical.propDecidable _) h
theorem rl_no {x : Rl} (h : ¬ x.ok) : rlOk x = false := @decide_eq_false _ (Classical.propDecidable _) h
theorem yr_yes {n : Int} : yrB n = true ↔ 1 ≤ n ∧ n ≤ 9999 := decide_eq_true_iff
theorem sv_yes {n : Int} : svB n = true ↔ -43200 ≤ n ∧ n ≤ 43200 := decide_eq_true_iff
theorem rl_letter {s : ByteArray} : rlB s = true ↔ ¬ s = dashT ∧ lettersB s = true := by
  unfold rlB
  rw [Bool.and_eq_true, decide_eq_true_iff]
  rfl
theorem rightRuleP (x : Rl) (hx : x.in64) (w : World) : Calls Tryz.prog 25 #[x.val] w (RetV w (.bool (rlOk x))) := by
  obtain ⟨nm, fr, last, ⟨mo, ki, wd, da, ti, re⟩, save, le⟩ := x
  obtain ⟨zn, _, _, _, _, zl⟩ := hx
  have hA := fun W => setP nm zn W
  have hB := fun W => rightYearP fr W
  have hC := fun W => rightYearP last W
  have hD := fun W => rightMP ⟨mo, ki, wd, da, ti, re⟩ W
  have hE := fun W => rightSaveP save W
  have hG := fun W => rightLetterP le zl W
  cases a : setB nm with
  | false =>
    rw [a] at hA
    rw [rl_no (fun k => by have := k.2.2.2.2.1; simp only at this; rw [a] at this; cases this)]
    exact rr_a _ _ _ _ _ _ _ _ _ _ _ (Lib.hid hA) w
  | true =>
  rw [a] at hA
  cases b : yrB fr with
  | false =>
    rw [b] at hB
    rw [rl_no (fun k => by have := yr_yes.2 k.1; simp only at this; rw [b] at this; cases this)]
    exact rr_b _ _ _ _ _ _ _ _ _ _ _ (Lib.hid hA) (Lib.hid hB) w
  | true =>
  rw [b] at hB
  have kb := yr_yes.1 b
  by_cases lk : yrB last = false ∧ ¬ last = 1000000
  · rw [lk.1] at hC
    rw [rl_no (fun k => by
      rcases k.2.1.2 with h | h
      · have := yr_yes.2 ⟨k.2.1.1, h⟩; simp only at this; rw [lk.1] at this; cases this
      · exact lk.2 h)]
    exact rr_c _ _ _ _ _ _ _ _ _ _ _ (Lib.hid hA) (Lib.hid hB) (Lib.hid hC) (beq_eq_false_iff_ne.2 lk.2) w
  have kl : 1 ≤ last ∧ (last ≤ 9999 ∨ last = 1000000) := by
    cases c : yrB last with
    | true => have := yr_yes.1 c; exact ⟨this.1, .inl this.2⟩
    | false =>
      have : last = 1000000 := Classical.byContradiction fun h => lk ⟨c, h⟩
      exact ⟨by omega, .inr this⟩
  clear lk
  cases c : yrB last with
  | true =>
    rw [c] at hC
    by_cases d : Sp.ok ⟨mo, ki, wd, da, ti, re⟩
    case neg =>
      rw [decide_eq_false d] at hD
      rw [rl_no (fun k => d k.2.2.1)]
      exact rr_td _ _ _ _ _ _ _ _ _ _ _ (Lib.hid hA) (Lib.hid hB) (Lib.hid hC) (Lib.hid hD) w
    rw [decide_eq_true d] at hD
    cases e : svB save with
    | false =>
      rw [e] at hE
      rw [rl_no (fun k => by have := sv_yes.2 k.2.2.2.1; simp only at this; rw [e] at this; cases this)]
      exact rr_te _ _ _ _ _ _ _ _ _ _ _ (Lib.hid hA) (Lib.hid hB) (Lib.hid hC) (Lib.hid hD) (Lib.hid hE) w
    | true =>
    rw [e] at hE
    by_cases f : le = ⟨#[]⟩
    · rw [rl_yes ⟨kb, kl, d, sv_yes.1 e, a, by simp only; rw [f]; decide, .inl f⟩]
      exact rr_tf _ _ _ _ _ _ _ _ _ _ _ (Lib.hid hA) (Lib.hid hB) (Lib.hid hC) (Lib.hid hD) (Lib.hid hE) (no_textP f) w
    · have eg : rlOk ⟨nm, fr, last, ⟨mo, ki, wd, da, ti, re⟩, save, le⟩ = rlB le := by
        cases g : rlB le with
        | true => exact rl_yes ⟨kb, kl, d, sv_yes.1 e, a, (rl_letter.1 g).1, .inr (rl_letter.1 g).2⟩
        | false =>
          refine rl_no fun k => ?_
          have := rl_letter.2 ⟨k.2.2.2.2.2.1, k.2.2.2.2.2.2.resolve_left f⟩
          simp only at this
          rw [g] at this
          cases this
      rw [eg]
      exact rr_tg _ _ _ _ _ _ _ _ _ _ _ (Lib.hid hA) (Lib.hid hB) (Lib.hid hC) (Lib.hid hD) (Lib.hid hE) (some_textP f) _ (Lib.hid hG) w
  | false =>
    rw [c] at hC
    have hl : last = 1000000 := by
      rcases kl.2 with h | h
      · have := yr_yes.2 ⟨kl.1, h⟩; rw [c] at this; cases this
      · exact h
    by_cases d : Sp.ok ⟨mo, ki, wd, da, ti, re⟩
    case neg =>
      rw [decide_eq_false d] at hD
      rw [rl_no (fun k => d k.2.2.1)]
      exact rr_fd _ _ _ _ _ _ _ _ _ _ _ (Lib.hid hA) (Lib.hid hB) (Lib.hid hC) (beq_iff_eq.2 hl) (Lib.hid hD) w
    rw [decide_eq_true d] at hD
    cases e : svB save with
    | false =>
      rw [e] at hE
      rw [rl_no (fun k => by have := sv_yes.2 k.2.2.2.1; simp only at this; rw [e] at this; cases this)]
      exact rr_fe _ _ _ _ _ _ _ _ _ _ _ (Lib.hid hA) (Lib.hid hB) (Lib.hid hC) (beq_iff_eq.2 hl) (Lib.hid hD) (Lib.hid hE) w
    | true =>
    rw [e] at hE
    by_cases f : le = ⟨#[]⟩
    · rw [rl_yes ⟨kb, kl, d, sv_yes.1 e, a, by simp only; rw [f]; decide, .inl f⟩]
      exact rr_ff _ _ _ _ _ _ _ _ _ _ _ (Lib.hid hA) (Lib.hid hB) (Lib.hid hC) (beq_iff_eq.2 hl) (Lib.hid hD) (Lib.hid hE) (no_textP f) w
    · have eg : rlOk ⟨nm, fr, last, ⟨mo, ki, wd, da, ti, re⟩, save, le⟩ = rlB le := by
        cases g : rlB le with
        | true => exact rl_yes ⟨kb, kl, d, sv_yes.1 e, a, (rl_letter.1 g).1, .inr (rl_letter.1 g).2⟩
        | false =>
          refine rl_no fun k => ?_
          have := rl_letter.2 ⟨k.2.2.2.2.2.1, k.2.2.2.2.2.2.resolve_left f⟩
          simp only at this
          rw [g] at this
          cases this
      rw [eg]
      exact rr_fg _ _ _ _ _ _ _ _ _ _ _ (Lib.hid hA) (Lib.hid hB) (Lib.hid hC) (beq_iff_eq.2 hl) (Lib.hid hD) (Lib.hid hE) (some_textP f) _ (Lib.hid hG) w
theorem lk_0 (t n : ByteArray) (HA : Hid (∀ W, Calls Tryz.prog 54 #[.string t] W (RetV W (.bool false)))) (w : World) : Calls Tryz.prog 29 #[.agg #[.string t, .string n]] w (RetV w (.bool false)) := by
  go_enter Tryz.func29, Tryz.ntmps29
  go_upto_region 1 with (fail)
  have KB := blk_lit w 43 [.string t, .string n]
  have hb := below_box w (.cells #[.string t, .string n] 43)
  generalize w.alloc (.cells #[.string t, .string n] 43) = W at *
  obtain ⟨_, x0, x1, _⟩ := KB.two
  go_wp2_with (go_at_call 54; refine (HA.out _).mono ?_; clear HA; rintro e w' ⟨rfl, hk⟩; replace hb := below_thru hb hk)
  go_wp2
  go_ret
  exact ⟨rfl, hb⟩
theorem lk_1 (t n : ByteArray) (b : Bool) (HA : Hid (∀ W, Calls Tryz.prog 54 #[.string t] W (RetV W (.bool true)))) (HB : Hid (∀ W, Calls Tryz.prog 54 #[.string n] W (RetV W (.bool b)))) (w : World) : Calls Tryz.prog 29 #[.agg #[.string t, .string n]] w (RetV w (.bool b)) := by
  go_enter Tryz.func29, Tryz.ntmps29
  go_upto_region 1 with (fail)
  have KB := blk_lit w 43 [.string t, .string n]
  have hb := below_box w (.cells #[.string t, .string n] 43)
  generalize w.alloc (.cells #[.string t, .string n] 43) = W at *
  obtain ⟨_, x0, x1, _⟩ := KB.two
  go_wp2_with (go_at_call 54; refine (HA.out _).mono ?_; clear HA; rintro e w' ⟨rfl, hk⟩; replace hb := below_thru hb hk; replace KB := KB.below hk; clear x0 x1; obtain ⟨_, x0, x1, _⟩ := KB.two)
  go_wp2_with (go_at_call 54; refine (HB.out _).mono ?_; clear HB; rintro e w' ⟨rfl, hk⟩; replace hb := below_thru hb hk)
  go_wp2
  go_ret
  exact ⟨rfl, hb⟩
noncomputable def lkOk (x : Lk) : Bool := placeB x.target && placeB x.name
theorem rightLinkP (x : Lk) (hx : x.in64) (w : World) : Calls Tryz.prog 29 #[.agg x.vals.toArray] w (RetV w (.bool (lkOk x))) := by
  obtain ⟨t, n⟩ := x
  have hA := fun W => placeP t hx.1 W
  have hB := fun W => placeP n hx.2 W
  unfold lkOk
  simp only
  cases a : placeB t with
  | false => rw [a] at hA; exact lk_0 t n (Lib.hid hA) w
  | true => rw [a] at hA; rw [Bool.true_and]; exact lk_1 t n _ (Lib.hid hA) (Lib.hid hB) w
theorem hs_n (rls fm : ByteArray) (til : Bool) (off kind save year mo ki wd da ti re : Int) (k0 : (kind == 0) = false) (k1 : (kind == 1) = false) (k2 : (kind == 2) = false) (w : World) : Calls Tryz.prog 85 #[.agg #[.int .i64 off, .int .i64 kind, .int .i64 save, .string rls, .string fm, .bool til, .int .i64 year, .int .i64 mo, .int .i64 ki, .int .i64 wd, .int .i64 da, .int .i64 ti, .int .i64 re]] w (RetV w (.bool false)) := by
  go_enter Tryz.func85, Tryz.ntmps85
  go_upto_region 1 with (fail)
  have KB := blk_lit w 41 [.int .i64 off, .int .i64 kind, .int .i64 save, .string rls, .string fm, .bool til, .int .i64 year, .int .i64 mo, .int .i64 ki, .int .i64 wd, .int .i64 da, .int .i64 ti, .int .i64 re]
  have hb := below_box w (.cells #[.int .i64 off, .int .i64 kind, .int .i64 save, .string rls, .string fm, .bool til, .int .i64 year, .int .i64 mo, .int .i64 ki, .int .i64 wd, .int .i64 da, .int .i64 ti, .int .i64 re] 41)
  generalize w.alloc (.cells #[.int .i64 off, .int .i64 kind, .int .i64 save, .string rls, .string fm, .bool til, .int .i64 year, .int .i64 mo, .int .i64 ki, .int .i64 wd, .int .i64 da, .int .i64 ti, .int .i64 re] 41) = W at *
  obtain ⟨x0, x1, x2, x3, x4, x5, x6, x7, x8, x9, x10, x11, x12⟩ := KB.thirteenC
  go_wp2
  go_ret
  exact ⟨by first | rfl | simp, hb⟩
theorem hs_0a (rls fm : ByteArray) (til : Bool) (off kind save year mo ki wd da ti re : Int) (k0 : (kind == 0) = true) (s0 : (save == 0) = false) (w : World) : Calls Tryz.prog 85 #[.agg #[.int .i64 off, .int .i64 kind, .int .i64 save, .string rls, .string fm, .bool til, .int .i64 year, .int .i64 mo, .int .i64 ki, .int .i64 wd, .int .i64 da, .int .i64 ti, .int .i64 re]] w (RetV w (.bool false)) := by
  go_enter Tryz.func85, Tryz.ntmps85
  go_upto_region 1 with (fail)
  have KB := blk_lit w 41 [.int .i64 off, .int .i64 kind, .int .i64 save, .string rls, .string fm, .bool til, .int .i64 year, .int .i64 mo, .int .i64 ki, .int .i64 wd, .int .i64 da, .int .i64 ti, .int .i64 re]
  have hb := below_box w (.cells #[.int .i64 off, .int .i64 kind, .int .i64 save, .string rls, .string fm, .bool til, .int .i64 year, .int .i64 mo, .int .i64 ki, .int .i64 wd, .int .i64 da, .int .i64 ti, .int .i64 re] 41)
  generalize w.alloc (.cells #[.int .i64 off, .int .i64 kind, .int .i64 save, .string rls, .string fm, .bool til, .int .i64 year, .int .i64 mo, .int .i64 ki, .int .i64 wd, .int .i64 da, .int .i64 ti, .int .i64 re] 41) = W at *
  obtain ⟨x0, x1, x2, x3, x4, x5, x6, x7, x8, x9, x10, x11, x12⟩ := KB.thirteenC
  go_wp2
  go_ret
  exact ⟨by first | rfl | simp, hb⟩
theorem hs_0b (rls fm : ByteArray) (til : Bool) (off kind save year mo ki wd da ti re : Int) (k0 : (kind == 0) = true) (s0 : (save == 0) = true) (f : Bool) (hf : (rls.toList == []) = f ∧ rls.toList.isEmpty = f ∧ (rls.toList = [] ↔ f = true)) (w : World) : Calls Tryz.prog 85 #[.agg #[.int .i64 off, .int .i64 kind, .int .i64 save, .string rls, .string fm, .bool til, .int .i64 year, .int .i64 mo, .int .i64 ki, .int .i64 wd, .int .i64 da, .int .i64 ti, .int .i64 re]] w (RetV w (.bool f)) := by
  obtain ⟨f1, f2, f3⟩ := hf
  go_enter Tryz.func85, Tryz.ntmps85
  go_upto_region 1 with (fail)
  have KB := blk_lit w 41 [.int .i64 off, .int .i64 kind, .int .i64 save, .string rls, .string fm, .bool til, .int .i64 year, .int .i64 mo, .int .i64 ki, .int .i64 wd, .int .i64 da, .int .i64 ti, .int .i64 re]
  have hb := below_box w (.cells #[.int .i64 off, .int .i64 kind, .int .i64 save, .string rls, .string fm, .bool til, .int .i64 year, .int .i64 mo, .int .i64 ki, .int .i64 wd, .int .i64 da, .int .i64 ti, .int .i64 re] 41)
  generalize w.alloc (.cells #[.int .i64 off, .int .i64 kind, .int .i64 save, .string rls, .string fm, .bool til, .int .i64 year, .int .i64 mo, .int .i64 ki, .int .i64 wd, .int .i64 da, .int .i64 ti, .int .i64 re] 41) = W at *
  obtain ⟨x0, x1, x2, x3, x4, x5, x6, x7, x8, x9, x10, x11, x12⟩ := KB.thirteenC
  go_wp2
  go_ret
  exact ⟨by first | rfl | simp, hb⟩
theorem hs_1a (rls fm : ByteArray) (til : Bool) (off kind save year mo ki wd da ti re : Int) (k0 : (kind == 0) = false) (k1 : (kind == 1) = true) (HE : Hid (∀ W, Calls Tryz.prog 52 #[.int .i64 save] W (SameV W (.bool false)))) (w : World) : Calls Tryz.prog 85 #[.agg #[.int .i64 off, .int .i64 kind, .int .i64 save, .string rls, .string fm, .bool til, .int .i64 year, .int .i64 mo, .int .i64 ki, .int .i64 wd, .int .i64 da, .int .i64 ti, .int .i64 re]] w (RetV w (.bool false)) := by
  go_enter Tryz.func85, Tryz.ntmps85
  go_upto_region 1 with (fail)
  have KB := blk_lit w 41 [.int .i64 off, .int .i64 kind, .int .i64 save, .string rls, .string fm, .bool til, .int .i64 year, .int .i64 mo, .int .i64 ki, .int .i64 wd, .int .i64 da, .int .i64 ti, .int .i64 re]
  have hb := below_box w (.cells #[.int .i64 off, .int .i64 kind, .int .i64 save, .string rls, .string fm, .bool til, .int .i64 year, .int .i64 mo, .int .i64 ki, .int .i64 wd, .int .i64 da, .int .i64 ti, .int .i64 re] 41)
  generalize w.alloc (.cells #[.int .i64 off, .int .i64 kind, .int .i64 save, .string rls, .string fm, .bool til, .int .i64 year, .int .i64 mo, .int .i64 ki, .int .i64 wd, .int .i64 da, .int .i64 ti, .int .i64 re] 41) = W at *
  obtain ⟨x0, x1, x2, x3, x4, x5, x6, x7, x8, x9, x10, x11, x12⟩ := KB.thirteenC
  go_wp2_with (go_at_call 52; refine (HE.out _).mono ?_; clear HE; rintro e w' ⟨rfl, rfl⟩)
  go_wp2
  go_ret
  exact ⟨by first | rfl | simp, hb⟩
theorem hs_1b (rls fm : ByteArray) (til : Bool) (off kind save year mo ki wd da ti re : Int) (k0 : (kind == 0) = false) (k1 : (kind == 1) = true) (f : Bool) (hf : (rls.toList == []) = f ∧ rls.toList.isEmpty = f ∧ (rls.toList = [] ↔ f = true)) (HE : Hid (∀ W, Calls Tryz.prog 52 #[.int .i64 save] W (SameV W (.bool true)))) (w : World) : Calls Tryz.prog 85 #[.agg #[.int .i64 off, .int .i64 kind, .int .i64 save, .string rls, .string fm, .bool til, .int .i64 year, .int .i64 mo, .int .i64 ki, .int .i64 wd, .int .i64 da, .int .i64 ti, .int .i64 re]] w (RetV w (.bool f)) := by
  obtain ⟨f1, f2, f3⟩ := hf
  go_enter Tryz.func85, Tryz.ntmps85
  go_upto_region 1 with (fail)
  have KB := blk_lit w 41 [.int .i64 off, .int .i64 kind, .int .i64 save, .string rls, .string fm, .bool til, .int .i64 year, .int .i64 mo, .int .i64 ki, .int .i64 wd, .int .i64 da, .int .i64 ti, .int .i64 re]
  have hb := below_box w (.cells #[.int .i64 off, .int .i64 kind, .int .i64 save, .string rls, .string fm, .bool til, .int .i64 year, .int .i64 mo, .int .i64 ki, .int .i64 wd, .int .i64 da, .int .i64 ti, .int .i64 re] 41)
  generalize w.alloc (.cells #[.int .i64 off, .int .i64 kind, .int .i64 save, .string rls, .string fm, .bool til, .int .i64 year, .int .i64 mo, .int .i64 ki, .int .i64 wd, .int .i64 da, .int .i64 ti, .int .i64 re] 41) = W at *
  obtain ⟨x0, x1, x2, x3, x4, x5, x6, x7, x8, x9, x10, x11, x12⟩ := KB.thirteenC
  go_wp2_with (go_at_call 52; refine (HE.out _).mono ?_; clear HE; rintro e w' ⟨rfl, rfl⟩)
  go_wp2
  go_ret
  exact ⟨by first | rfl | simp, hb⟩
theorem hs_2a (rls fm : ByteArray) (til : Bool) (off kind save year mo ki wd da ti re : Int) (k0 : (kind == 0) = false) (k1 : (kind == 1) = false) (k2 : (kind == 2) = true) (s0 : (save == 0) = false) (w : World) : Calls Tryz.prog 85 #[.agg #[.int .i64 off, .int .i64 kind, .int .i64 save, .string rls, .string fm, .bool til, .int .i64 year, .int .i64 mo, .int .i64 ki, .int .i64 wd, .int .i64 da, .int .i64 ti, .int .i64 re]] w (RetV w (.bool false)) := by
  go_enter Tryz.func85, Tryz.ntmps85
  go_upto_region 1 with (fail)
  have KB := blk_lit w 41 [.int .i64 off, .int .i64 kind, .int .i64 save, .string rls, .string fm, .bool til, .int .i64 year, .int .i64 mo, .int .i64 ki, .int .i64 wd, .int .i64 da, .int .i64 ti, .int .i64 re]
  have hb := below_box w (.cells #[.int .i64 off, .int .i64 kind, .int .i64 save, .string rls, .string fm, .bool til, .int .i64 year, .int .i64 mo, .int .i64 ki, .int .i64 wd, .int .i64 da, .int .i64 ti, .int .i64 re] 41)
  generalize w.alloc (.cells #[.int .i64 off, .int .i64 kind, .int .i64 save, .string rls, .string fm, .bool til, .int .i64 year, .int .i64 mo, .int .i64 ki, .int .i64 wd, .int .i64 da, .int .i64 ti, .int .i64 re] 41) = W at *
  obtain ⟨x0, x1, x2, x3, x4, x5, x6, x7, x8, x9, x10, x11, x12⟩ := KB.thirteenC
  go_wp2
  go_ret
  exact ⟨by first | rfl | simp, hb⟩
theorem hs_2b (rls fm : ByteArray) (til : Bool) (off kind save year mo ki wd da ti re : Int) (k0 : (kind == 0) = false) (k1 : (kind == 1) = false) (k2 : (kind == 2) = true) (s0 : (save == 0) = true) (f : Bool) (HA : Hid (∀ W, Calls Tryz.prog 49 #[.string rls] W (SameV W (.bool f)))) (w : World) : Calls Tryz.prog 85 #[.agg #[.int .i64 off, .int .i64 kind, .int .i64 save, .string rls, .string fm, .bool til, .int .i64 year, .int .i64 mo, .int .i64 ki, .int .i64 wd, .int .i64 da, .int .i64 ti, .int .i64 re]] w (RetV w (.bool f)) := by
  go_enter Tryz.func85, Tryz.ntmps85
  go_upto_region 1 with (fail)
  have KB := blk_lit w 41 [.int .i64 off, .int .i64 kind, .int .i64 save, .string rls, .string fm, .bool til, .int .i64 year, .int .i64 mo, .int .i64 ki, .int .i64 wd, .int .i64 da, .int .i64 ti, .int .i64 re]
  have hb := below_box w (.cells #[.int .i64 off, .int .i64 kind, .int .i64 save, .string rls, .string fm, .bool til, .int .i64 year, .int .i64 mo, .int .i64 ki, .int .i64 wd, .int .i64 da, .int .i64 ti, .int .i64 re] 41)
  generalize w.alloc (.cells #[.int .i64 off, .int .i64 kind, .int .i64 save, .string rls, .string fm, .bool til, .int .i64 year, .int .i64 mo, .int .i64 ki, .int .i64 wd, .int .i64 da, .int .i64 ti, .int .i64 re] 41) = W at *
  obtain ⟨x0, x1, x2, x3, x4, x5, x6, x7, x8, x9, x10, x11, x12⟩ := KB.thirteenC
  go_wp2_with (go_at_call 49; refine (HA.out _).mono ?_; clear HA; rintro e w' ⟨rfl, rfl⟩)
  go_wp2
  go_ret
  exact ⟨by first | rfl | simp, hb⟩
def hsOk (x : Er) : Bool := if x.kind = 0 then decide (x.save = 0) && decide (x.rules = ⟨#[]⟩) else if x.kind = 1 then svB x.save && decide (x.rules = ⟨#[]⟩) else if x.kind = 2 then decide (x.save = 0) && setB x.rules else false
theorem any_textP (s : ByteArray) : (s.toList == []) = decide (s = ⟨#[]⟩) ∧ s.toList.isEmpty = decide (s = ⟨#[]⟩) ∧ (s.toList = [] ↔ decide (s = ⟨#[]⟩) = true) := by
  by_cases h : s = ⟨#[]⟩
  · obtain ⟨a, b, c⟩ := no_textP h
    rw [decide_eq_true h]
    exact ⟨a, b, fun _ => rfl, fun _ => c⟩
  · obtain ⟨a, b, c⟩ := some_textP h
    rw [decide_eq_false h]
    exact ⟨a, b, fun k => absurd k c, fun k => by cases k⟩
theorem hasSavingP (x : Er) (hx : x.in64) (w : World) : Calls Tryz.prog 85 #[x.val] w (RetV w (.bool (hsOk x))) := by
  obtain ⟨off, kind, save, rls, fm, til, year, ⟨mo, ki, wd, da, ti, re⟩⟩ := x
  have zr : rls.size ≤ maxLen := hx.2.2.2.1
  have hE := fun W => rightSaveP save W
  have hA := fun W => setP rls zr W
  unfold hsOk
  simp only
  by_cases k0 : kind = 0
  · rw [if_pos k0]
    by_cases s0 : save = 0
    · rw [decide_eq_true s0, Bool.true_and]
      exact hs_0b _ _ _ _ _ _ _ _ _ _ _ _ _ (beq_iff_eq.2 k0) (beq_iff_eq.2 s0) _ (any_textP rls) w
    · rw [decide_eq_false s0, Bool.false_and]
      exact hs_0a _ _ _ _ _ _ _ _ _ _ _ _ _ (beq_iff_eq.2 k0) (beq_eq_false_iff_ne.2 s0) w
  rw [if_neg k0]
  by_cases k1 : kind = 1
  · rw [if_pos k1]
    cases e : svB save with
    | false =>
      rw [e] at hE
      exact hs_1a _ _ _ _ _ _ _ _ _ _ _ _ _ (beq_eq_false_iff_ne.2 k0) (beq_iff_eq.2 k1) (Lib.hid hE) w
    | true =>
      rw [e] at hE
      rw [Bool.true_and]
      exact hs_1b _ _ _ _ _ _ _ _ _ _ _ _ _ (beq_eq_false_iff_ne.2 k0) (beq_iff_eq.2 k1) _ (any_textP rls) (Lib.hid hE) w
  rw [if_neg k1]
  by_cases k2 : kind = 2
  · rw [if_pos k2]
    by_cases s0 : save = 0
    · rw [decide_eq_true s0, Bool.true_and]
      exact hs_2b _ _ _ _ _ _ _ _ _ _ _ _ _ (beq_eq_false_iff_ne.2 k0) (beq_eq_false_iff_ne.2 k1) (beq_iff_eq.2 k2) (beq_iff_eq.2 s0) _ (Lib.hid hA) w
    · rw [decide_eq_false s0, Bool.false_and]
      exact hs_2a _ _ _ _ _ _ _ _ _ _ _ _ _ (beq_eq_false_iff_ne.2 k0) (beq_eq_false_iff_ne.2 k1) (beq_iff_eq.2 k2) (beq_eq_false_iff_ne.2 s0) w
  rw [if_neg k2]
  exact hs_n _ _ _ _ _ _ _ _ _ _ _ _ _ (beq_eq_false_iff_ne.2 k0) (beq_eq_false_iff_ne.2 k1) (beq_eq_false_iff_ne.2 k2) w
theorem he_ta (rls fm : ByteArray) (off kind save year mo ki wd da ti re : Int) (HY : Hid (∀ W, Calls Tryz.prog 50 #[.int .i64 year] W (SameV W (.bool false)))) (w : World) : Calls Tryz.prog 87 #[.agg #[.int .i64 off, .int .i64 kind, .int .i64 save, .string rls, .string fm, .bool true, .int .i64 year, .int .i64 mo, .int .i64 ki, .int .i64 wd, .int .i64 da, .int .i64 ti, .int .i64 re]] w (RetV w (.bool false)) := by
  go_enter Tryz.func87, Tryz.ntmps87
  go_upto_region 1 with (fail)
  have KB := blk_lit w 41 [.int .i64 off, .int .i64 kind, .int .i64 save, .string rls, .string fm, .bool true, .int .i64 year, .int .i64 mo, .int .i64 ki, .int .i64 wd, .int .i64 da, .int .i64 ti, .int .i64 re]
  have hb := below_box w (.cells #[.int .i64 off, .int .i64 kind, .int .i64 save, .string rls, .string fm, .bool true, .int .i64 year, .int .i64 mo, .int .i64 ki, .int .i64 wd, .int .i64 da, .int .i64 ti, .int .i64 re] 41)
  generalize w.alloc (.cells #[.int .i64 off, .int .i64 kind, .int .i64 save, .string rls, .string fm, .bool true, .int .i64 year, .int .i64 mo, .int .i64 ki, .int .i64 wd, .int .i64 da, .int .i64 ti, .int .i64 re] 41) = W at *
  obtain ⟨x0, x1, x2, x3, x4, x5, x6, x7, x8, x9, x10, x11, x12⟩ := KB.thirteenC
  go_wp2_with (go_at_call 50; refine (HY.out _).mono ?_; clear HY; rintro e w' ⟨rfl, rfl⟩)
  go_wp2
  go_ret
  exact ⟨by first | rfl | simp, hb⟩
theorem he_tb (rls fm : ByteArray) (off kind save year mo ki wd da ti re : Int) (f : Bool) (HY : Hid (∀ W, Calls Tryz.prog 50 #[.int .i64 year] W (SameV W (.bool true)))) (HD : Hid (∀ W, Calls Tryz.prog 51 #[.agg #[.int .i64 mo, .int .i64 ki, .int .i64 wd, .int .i64 da, .int .i64 ti, .int .i64 re]] W (RetV W (.bool f)))) (w : World) : Calls Tryz.prog 87 #[.agg #[.int .i64 off, .int .i64 kind, .int .i64 save, .string rls, .string fm, .bool true, .int .i64 year, .int .i64 mo, .int .i64 ki, .int .i64 wd, .int .i64 da, .int .i64 ti, .int .i64 re]] w (RetV w (.bool f)) := by
  go_enter Tryz.func87, Tryz.ntmps87
  go_upto_region 1 with (fail)
  have KB := blk_lit w 41 [.int .i64 off, .int .i64 kind, .int .i64 save, .string rls, .string fm, .bool true, .int .i64 year, .int .i64 mo, .int .i64 ki, .int .i64 wd, .int .i64 da, .int .i64 ti, .int .i64 re]
  have hb := below_box w (.cells #[.int .i64 off, .int .i64 kind, .int .i64 save, .string rls, .string fm, .bool true, .int .i64 year, .int .i64 mo, .int .i64 ki, .int .i64 wd, .int .i64 da, .int .i64 ti, .int .i64 re] 41)
  generalize w.alloc (.cells #[.int .i64 off, .int .i64 kind, .int .i64 save, .string rls, .string fm, .bool true, .int .i64 year, .int .i64 mo, .int .i64 ki, .int .i64 wd, .int .i64 da, .int .i64 ti, .int .i64 re] 41) = W at *
  obtain ⟨x0, x1, x2, x3, x4, x5, x6, x7, x8, x9, x10, x11, x12⟩ := KB.thirteenC
  go_wp2_with (go_at_call 50; refine (HY.out _).mono ?_; clear HY; rintro e w' ⟨rfl, rfl⟩)
  go_wp2_with (go_at_call 51; refine (HD.out _).mono ?_; clear HD; rintro e w' ⟨rfl, hk⟩; replace hb := below_thru hb hk; replace KB := KB.below hk; clear hk x0 x1 x2 x3 x4 x5 x6 x7 x8 x9 x10 x11 x12; obtain ⟨x0, x1, x2, x3, x4, x5, x6, x7, x8, x9, x10, x11, x12⟩ := KB.thirteenC)
  go_wp2
  go_ret
  exact ⟨by first | rfl | simp, hb⟩
theorem he_fa (rls fm : ByteArray) (off kind save year mo ki wd da ti re : Int) (y0 : (year == 0) = false) (w : World) : Calls Tryz.prog 87 #[.agg #[.int .i64 off, .int .i64 kind, .int .i64 save, .string rls, .string fm, .bool false, .int .i64 year, .int .i64 mo, .int .i64 ki, .int .i64 wd, .int .i64 da, .int .i64 ti, .int .i64 re]] w (RetV w (.bool false)) := by
  go_enter Tryz.func87, Tryz.ntmps87
  go_upto_region 1 with (fail)
  have KB := blk_lit w 41 [.int .i64 off, .int .i64 kind, .int .i64 save, .string rls, .string fm, .bool false, .int .i64 year, .int .i64 mo, .int .i64 ki, .int .i64 wd, .int .i64 da, .int .i64 ti, .int .i64 re]
  have hb := below_box w (.cells #[.int .i64 off, .int .i64 kind, .int .i64 save, .string rls, .string fm, .bool false, .int .i64 year, .int .i64 mo, .int .i64 ki, .int .i64 wd, .int .i64 da, .int .i64 ti, .int .i64 re] 41)
  generalize w.alloc (.cells #[.int .i64 off, .int .i64 kind, .int .i64 save, .string rls, .string fm, .bool false, .int .i64 year, .int .i64 mo, .int .i64 ki, .int .i64 wd, .int .i64 da, .int .i64 ti, .int .i64 re] 41) = W at *
  obtain ⟨x0, x1, x2, x3, x4, x5, x6, x7, x8, x9, x10, x11, x12⟩ := KB.thirteenC
  go_wp2
  go_ret
  exact ⟨by first | rfl | simp, hb⟩
theorem he_f0 (rls fm : ByteArray) (off kind save year mo ki wd da ti re : Int) (y0 : (year == 0) = true) (z0 : (mo == 0) = false) (w : World) : Calls Tryz.prog 87 #[.agg #[.int .i64 off, .int .i64 kind, .int .i64 save, .string rls, .string fm, .bool false, .int .i64 year, .int .i64 mo, .int .i64 ki, .int .i64 wd, .int .i64 da, .int .i64 ti, .int .i64 re]] w (RetV w (.bool false)) := by
  go_enter Tryz.func87, Tryz.ntmps87
  go_upto_region 1 with (fail)
  have KB := blk_lit w 41 [.int .i64 off, .int .i64 kind, .int .i64 save, .string rls, .string fm, .bool false, .int .i64 year, .int .i64 mo, .int .i64 ki, .int .i64 wd, .int .i64 da, .int .i64 ti, .int .i64 re]
  have hb := below_box w (.cells #[.int .i64 off, .int .i64 kind, .int .i64 save, .string rls, .string fm, .bool false, .int .i64 year, .int .i64 mo, .int .i64 ki, .int .i64 wd, .int .i64 da, .int .i64 ti, .int .i64 re] 41)
  generalize w.alloc (.cells #[.int .i64 off, .int .i64 kind, .int .i64 save, .string rls, .string fm, .bool false, .int .i64 year, .int .i64 mo, .int .i64 ki, .int .i64 wd, .int .i64 da, .int .i64 ti, .int .i64 re] 41) = W at *
  obtain ⟨x0, x1, x2, x3, x4, x5, x6, x7, x8, x9, x10, x11, x12⟩ := KB.thirteenC
  go_wp2
  go_ret
  exact ⟨by first | rfl | simp, hb⟩
theorem he_f1 (rls fm : ByteArray) (off kind save year mo ki wd da ti re : Int) (y0 : (year == 0) = true) (z0 : (mo == 0) = true) (z1 : (ki == 0) = false) (w : World) : Calls Tryz.prog 87 #[.agg #[.int .i64 off, .int .i64 kind, .int .i64 save, .string rls, .string fm, .bool false, .int .i64 year, .int .i64 mo, .int .i64 ki, .int .i64 wd, .int .i64 da, .int .i64 ti, .int .i64 re]] w (RetV w (.bool false)) := by
  go_enter Tryz.func87, Tryz.ntmps87
  go_upto_region 1 with (fail)
  have KB := blk_lit w 41 [.int .i64 off, .int .i64 kind, .int .i64 save, .string rls, .string fm, .bool false, .int .i64 year, .int .i64 mo, .int .i64 ki, .int .i64 wd, .int .i64 da, .int .i64 ti, .int .i64 re]
  have hb := below_box w (.cells #[.int .i64 off, .int .i64 kind, .int .i64 save, .string rls, .string fm, .bool false, .int .i64 year, .int .i64 mo, .int .i64 ki, .int .i64 wd, .int .i64 da, .int .i64 ti, .int .i64 re] 41)
  generalize w.alloc (.cells #[.int .i64 off, .int .i64 kind, .int .i64 save, .string rls, .string fm, .bool false, .int .i64 year, .int .i64 mo, .int .i64 ki, .int .i64 wd, .int .i64 da, .int .i64 ti, .int .i64 re] 41) = W at *
  obtain ⟨x0, x1, x2, x3, x4, x5, x6, x7, x8, x9, x10, x11, x12⟩ := KB.thirteenC
  go_wp2
  go_ret
  exact ⟨by first | rfl | simp, hb⟩
theorem he_f2 (rls fm : ByteArray) (off kind save year mo ki wd da ti re : Int) (y0 : (year == 0) = true) (z0 : (mo == 0) = true) (z1 : (ki == 0) = true) (z2 : (wd == 0) = false) (w : World) : Calls Tryz.prog 87 #[.agg #[.int .i64 off, .int .i64 kind, .int .i64 save, .string rls, .string fm, .bool false, .int .i64 year, .int .i64 mo, .int .i64 ki, .int .i64 wd, .int .i64 da, .int .i64 ti, .int .i64 re]] w (RetV w (.bool false)) := by
  go_enter Tryz.func87, Tryz.ntmps87
  go_upto_region 1 with (fail)
  have KB := blk_lit w 41 [.int .i64 off, .int .i64 kind, .int .i64 save, .string rls, .string fm, .bool false, .int .i64 year, .int .i64 mo, .int .i64 ki, .int .i64 wd, .int .i64 da, .int .i64 ti, .int .i64 re]
  have hb := below_box w (.cells #[.int .i64 off, .int .i64 kind, .int .i64 save, .string rls, .string fm, .bool false, .int .i64 year, .int .i64 mo, .int .i64 ki, .int .i64 wd, .int .i64 da, .int .i64 ti, .int .i64 re] 41)
  generalize w.alloc (.cells #[.int .i64 off, .int .i64 kind, .int .i64 save, .string rls, .string fm, .bool false, .int .i64 year, .int .i64 mo, .int .i64 ki, .int .i64 wd, .int .i64 da, .int .i64 ti, .int .i64 re] 41) = W at *
  obtain ⟨x0, x1, x2, x3, x4, x5, x6, x7, x8, x9, x10, x11, x12⟩ := KB.thirteenC
  go_wp2
  go_ret
  exact ⟨by first | rfl | simp, hb⟩
theorem he_f3 (rls fm : ByteArray) (off kind save year mo ki wd da ti re : Int) (y0 : (year == 0) = true) (z0 : (mo == 0) = true) (z1 : (ki == 0) = true) (z2 : (wd == 0) = true) (z3 : (da == 0) = false) (w : World) : Calls Tryz.prog 87 #[.agg #[.int .i64 off, .int .i64 kind, .int .i64 save, .string rls, .string fm, .bool false, .int .i64 year, .int .i64 mo, .int .i64 ki, .int .i64 wd, .int .i64 da, .int .i64 ti, .int .i64 re]] w (RetV w (.bool false)) := by
  go_enter Tryz.func87, Tryz.ntmps87
  go_upto_region 1 with (fail)
  have KB := blk_lit w 41 [.int .i64 off, .int .i64 kind, .int .i64 save, .string rls, .string fm, .bool false, .int .i64 year, .int .i64 mo, .int .i64 ki, .int .i64 wd, .int .i64 da, .int .i64 ti, .int .i64 re]
  have hb := below_box w (.cells #[.int .i64 off, .int .i64 kind, .int .i64 save, .string rls, .string fm, .bool false, .int .i64 year, .int .i64 mo, .int .i64 ki, .int .i64 wd, .int .i64 da, .int .i64 ti, .int .i64 re] 41)
  generalize w.alloc (.cells #[.int .i64 off, .int .i64 kind, .int .i64 save, .string rls, .string fm, .bool false, .int .i64 year, .int .i64 mo, .int .i64 ki, .int .i64 wd, .int .i64 da, .int .i64 ti, .int .i64 re] 41) = W at *
  obtain ⟨x0, x1, x2, x3, x4, x5, x6, x7, x8, x9, x10, x11, x12⟩ := KB.thirteenC
  go_wp2
  go_ret
  exact ⟨by first | rfl | simp, hb⟩
theorem he_f4 (rls fm : ByteArray) (off kind save year mo ki wd da ti re : Int) (y0 : (year == 0) = true) (z0 : (mo == 0) = true) (z1 : (ki == 0) = true) (z2 : (wd == 0) = true) (z3 : (da == 0) = true) (z4 : (ti == 0) = false) (w : World) : Calls Tryz.prog 87 #[.agg #[.int .i64 off, .int .i64 kind, .int .i64 save, .string rls, .string fm, .bool false, .int .i64 year, .int .i64 mo, .int .i64 ki, .int .i64 wd, .int .i64 da, .int .i64 ti, .int .i64 re]] w (RetV w (.bool false)) := by
  go_enter Tryz.func87, Tryz.ntmps87
  go_upto_region 1 with (fail)
  have KB := blk_lit w 41 [.int .i64 off, .int .i64 kind, .int .i64 save, .string rls, .string fm, .bool false, .int .i64 year, .int .i64 mo, .int .i64 ki, .int .i64 wd, .int .i64 da, .int .i64 ti, .int .i64 re]
  have hb := below_box w (.cells #[.int .i64 off, .int .i64 kind, .int .i64 save, .string rls, .string fm, .bool false, .int .i64 year, .int .i64 mo, .int .i64 ki, .int .i64 wd, .int .i64 da, .int .i64 ti, .int .i64 re] 41)
  generalize w.alloc (.cells #[.int .i64 off, .int .i64 kind, .int .i64 save, .string rls, .string fm, .bool false, .int .i64 year, .int .i64 mo, .int .i64 ki, .int .i64 wd, .int .i64 da, .int .i64 ti, .int .i64 re] 41) = W at *
  obtain ⟨x0, x1, x2, x3, x4, x5, x6, x7, x8, x9, x10, x11, x12⟩ := KB.thirteenC
  go_wp2
  go_ret
  exact ⟨by first | rfl | simp, hb⟩
theorem he_f5 (rls fm : ByteArray) (off kind save year mo ki wd da ti re : Int) (y0 : (year == 0) = true) (z0 : (mo == 0) = true) (z1 : (ki == 0) = true) (z2 : (wd == 0) = true) (z3 : (da == 0) = true) (z4 : (ti == 0) = true) (z5 : (re == 0) = false) (w : World) : Calls Tryz.prog 87 #[.agg #[.int .i64 off, .int .i64 kind, .int .i64 save, .string rls, .string fm, .bool false, .int .i64 year, .int .i64 mo, .int .i64 ki, .int .i64 wd, .int .i64 da, .int .i64 ti, .int .i64 re]] w (RetV w (.bool false)) := by
  go_enter Tryz.func87, Tryz.ntmps87
  go_upto_region 1 with (fail)
  have KB := blk_lit w 41 [.int .i64 off, .int .i64 kind, .int .i64 save, .string rls, .string fm, .bool false, .int .i64 year, .int .i64 mo, .int .i64 ki, .int .i64 wd, .int .i64 da, .int .i64 ti, .int .i64 re]
  have hb := below_box w (.cells #[.int .i64 off, .int .i64 kind, .int .i64 save, .string rls, .string fm, .bool false, .int .i64 year, .int .i64 mo, .int .i64 ki, .int .i64 wd, .int .i64 da, .int .i64 ti, .int .i64 re] 41)
  generalize w.alloc (.cells #[.int .i64 off, .int .i64 kind, .int .i64 save, .string rls, .string fm, .bool false, .int .i64 year, .int .i64 mo, .int .i64 ki, .int .i64 wd, .int .i64 da, .int .i64 ti, .int .i64 re] 41) = W at *
  obtain ⟨x0, x1, x2, x3, x4, x5, x6, x7, x8, x9, x10, x11, x12⟩ := KB.thirteenC
  go_wp2
  go_ret
  exact ⟨by first | rfl | simp, hb⟩
theorem he_fz (rls fm : ByteArray) (off kind save year mo ki wd da ti re : Int) (y0 : (year == 0) = true) (z0 : (mo == 0) = true) (z1 : (ki == 0) = true) (z2 : (wd == 0) = true) (z3 : (da == 0) = true) (z4 : (ti == 0) = true) (z5 : (re == 0) = true) (w : World) : Calls Tryz.prog 87 #[.agg #[.int .i64 off, .int .i64 kind, .int .i64 save, .string rls, .string fm, .bool false, .int .i64 year, .int .i64 mo, .int .i64 ki, .int .i64 wd, .int .i64 da, .int .i64 ti, .int .i64 re]] w (RetV w (.bool true)) := by
  go_enter Tryz.func87, Tryz.ntmps87
  go_upto_region 1 with (fail)
  have KB := blk_lit w 41 [.int .i64 off, .int .i64 kind, .int .i64 save, .string rls, .string fm, .bool false, .int .i64 year, .int .i64 mo, .int .i64 ki, .int .i64 wd, .int .i64 da, .int .i64 ti, .int .i64 re]
  have hb := below_box w (.cells #[.int .i64 off, .int .i64 kind, .int .i64 save, .string rls, .string fm, .bool false, .int .i64 year, .int .i64 mo, .int .i64 ki, .int .i64 wd, .int .i64 da, .int .i64 ti, .int .i64 re] 41)
  generalize w.alloc (.cells #[.int .i64 off, .int .i64 kind, .int .i64 save, .string rls, .string fm, .bool false, .int .i64 year, .int .i64 mo, .int .i64 ki, .int .i64 wd, .int .i64 da, .int .i64 ti, .int .i64 re] 41) = W at *
  obtain ⟨x0, x1, x2, x3, x4, x5, x6, x7, x8, x9, x10, x11, x12⟩ := KB.thirteenC
  go_wp2
  go_ret
  exact ⟨by first | rfl | simp, hb⟩
def heOk (x : Er) : Bool := if x.til = true then yrB x.year && decide x.sp.ok else decide (x.year = 0) && decide (x.sp = .zero)
theorem hasEndP (x : Er) (w : World) : Calls Tryz.prog 87 #[x.val] w (RetV w (.bool (heOk x))) := by
  obtain ⟨off, kind, save, rls, fm, til, year, ⟨mo, ki, wd, da, ti, re⟩⟩ := x
  have hY := fun W => rightYearP year W
  have hD := fun W => rightMP ⟨mo, ki, wd, da, ti, re⟩ W
  unfold heOk
  simp only
  cases til with
  | true =>
    rw [if_pos rfl]
    cases e : yrB year with
    | false => rw [e] at hY; exact he_ta _ _ _ _ _ _ _ _ _ _ _ _ (Lib.hid hY) w
    | true => rw [e] at hY; rw [Bool.true_and]; exact he_tb _ _ _ _ _ _ _ _ _ _ _ _ _ (Lib.hid hY) (Lib.hid hD) w
  | false =>
    rw [if_neg (by decide)]
    by_cases y0 : year = 0
    case neg => rw [decide_eq_false y0, Bool.false_and]; exact he_fa _ _ _ _ _ _ _ _ _ _ _ _ (beq_eq_false_iff_ne.2 y0) w
    rw [decide_eq_true y0, Bool.true_and]
    by_cases z0 : mo = 0
    case neg =>
      rw [decide_eq_false (fun c : Sp.mk mo ki wd da ti re = .zero => z0 (congrArg Sp.mo c))]
      exact he_f0 _ _ _ _ _ _ _ _ _ _ _ _ (beq_iff_eq.2 y0)  (beq_eq_false_iff_ne.2 z0) w
    by_cases z1 : ki = 0
    case neg =>
      rw [decide_eq_false (fun c : Sp.mk mo ki wd da ti re = .zero => z1 (congrArg Sp.ki c))]
      exact he_f1 _ _ _ _ _ _ _ _ _ _ _ _ (beq_iff_eq.2 y0) (beq_iff_eq.2 z0) (beq_eq_false_iff_ne.2 z1) w
    by_cases z2 : wd = 0
    case neg =>
      rw [decide_eq_false (fun c : Sp.mk mo ki wd da ti re = .zero => z2 (congrArg Sp.wd c))]
      exact he_f2 _ _ _ _ _ _ _ _ _ _ _ _ (beq_iff_eq.2 y0) (beq_iff_eq.2 z0) (beq_iff_eq.2 z1) (beq_eq_false_iff_ne.2 z2) w
    by_cases z3 : da = 0
    case neg =>
      rw [decide_eq_false (fun c : Sp.mk mo ki wd da ti re = .zero => z3 (congrArg Sp.da c))]
      exact he_f3 _ _ _ _ _ _ _ _ _ _ _ _ (beq_iff_eq.2 y0) (beq_iff_eq.2 z0) (beq_iff_eq.2 z1) (beq_iff_eq.2 z2) (beq_eq_false_iff_ne.2 z3) w
    by_cases z4 : ti = 0
    case neg =>
      rw [decide_eq_false (fun c : Sp.mk mo ki wd da ti re = .zero => z4 (congrArg Sp.ti c))]
      exact he_f4 _ _ _ _ _ _ _ _ _ _ _ _ (beq_iff_eq.2 y0) (beq_iff_eq.2 z0) (beq_iff_eq.2 z1) (beq_iff_eq.2 z2) (beq_iff_eq.2 z3) (beq_eq_false_iff_ne.2 z4) w
    by_cases z5 : re = 0
    case neg =>
      rw [decide_eq_false (fun c : Sp.mk mo ki wd da ti re = .zero => z5 (congrArg Sp.re c))]
      exact he_f5 _ _ _ _ _ _ _ _ _ _ _ _ (beq_iff_eq.2 y0) (beq_iff_eq.2 z0) (beq_iff_eq.2 z1) (beq_iff_eq.2 z2) (beq_iff_eq.2 z3) (beq_iff_eq.2 z4) (beq_eq_false_iff_ne.2 z5) w
    rw [decide_eq_true (show Sp.mk mo ki wd da ti re = .zero by rw [z0, z1, z2, z3, z4, z5]; rfl)]
    exact he_fz _ _ _ _ _ _ _ _ _ _ _ _ (beq_iff_eq.2 y0) (beq_iff_eq.2 z0) (beq_iff_eq.2 z1) (beq_iff_eq.2 z2) (beq_iff_eq.2 z3) (beq_iff_eq.2 z4) (beq_iff_eq.2 z5) w
theorem re_a (rls fm : ByteArray) (til : Bool) (off kind save year mo ki wd da ti re : Int) (o1 : decide (-86400 < off) = false) (w : World) : Calls Tryz.prog 56 #[.agg #[.int .i64 off, .int .i64 kind, .int .i64 save, .string rls, .string fm, .bool til, .int .i64 year, .int .i64 mo, .int .i64 ki, .int .i64 wd, .int .i64 da, .int .i64 ti, .int .i64 re]] w (RetV w (.bool false)) := by
  go_enter Tryz.func56, Tryz.ntmps56
  go_upto_region 1 with (fail)
  have KB := blk_lit w 41 [.int .i64 off, .int .i64 kind, .int .i64 save, .string rls, .string fm, .bool til, .int .i64 year, .int .i64 mo, .int .i64 ki, .int .i64 wd, .int .i64 da, .int .i64 ti, .int .i64 re]
  have hb := below_box w (.cells #[.int .i64 off, .int .i64 kind, .int .i64 save, .string rls, .string fm, .bool til, .int .i64 year, .int .i64 mo, .int .i64 ki, .int .i64 wd, .int .i64 da, .int .i64 ti, .int .i64 re] 41)
  generalize w.alloc (.cells #[.int .i64 off, .int .i64 kind, .int .i64 save, .string rls, .string fm, .bool til, .int .i64 year, .int .i64 mo, .int .i64 ki, .int .i64 wd, .int .i64 da, .int .i64 ti, .int .i64 re] 41) = W at *
  obtain ⟨x0, x1, x2, x3, x4, x5, x6, x7, x8, x9, x10, x11, x12⟩ := KB.thirteenC
  go_wp2
  go_ret
  exact ⟨by first | rfl | simp, hb⟩
theorem re_b (rls fm : ByteArray) (til : Bool) (off kind save year mo ki wd da ti re : Int) (o1 : decide (-86400 < off) = true) (o2 : decide (off < 86400) = false) (w : World) : Calls Tryz.prog 56 #[.agg #[.int .i64 off, .int .i64 kind, .int .i64 save, .string rls, .string fm, .bool til, .int .i64 year, .int .i64 mo, .int .i64 ki, .int .i64 wd, .int .i64 da, .int .i64 ti, .int .i64 re]] w (RetV w (.bool false)) := by
  go_enter Tryz.func56, Tryz.ntmps56
  go_upto_region 1 with (fail)
  have KB := blk_lit w 41 [.int .i64 off, .int .i64 kind, .int .i64 save, .string rls, .string fm, .bool til, .int .i64 year, .int .i64 mo, .int .i64 ki, .int .i64 wd, .int .i64 da, .int .i64 ti, .int .i64 re]
  have hb := below_box w (.cells #[.int .i64 off, .int .i64 kind, .int .i64 save, .string rls, .string fm, .bool til, .int .i64 year, .int .i64 mo, .int .i64 ki, .int .i64 wd, .int .i64 da, .int .i64 ti, .int .i64 re] 41)
  generalize w.alloc (.cells #[.int .i64 off, .int .i64 kind, .int .i64 save, .string rls, .string fm, .bool til, .int .i64 year, .int .i64 mo, .int .i64 ki, .int .i64 wd, .int .i64 da, .int .i64 ti, .int .i64 re] 41) = W at *
  obtain ⟨x0, x1, x2, x3, x4, x5, x6, x7, x8, x9, x10, x11, x12⟩ := KB.thirteenC
  go_wp2
  go_ret
  exact ⟨by first | rfl | simp, hb⟩
theorem re_c (rls fm : ByteArray) (til : Bool) (off kind save year mo ki wd da ti re : Int) (o1 : decide (-86400 < off) = true) (o2 : decide (off < 86400) = true) (H1 : Hid (∀ W, Calls Tryz.prog 85 #[.agg #[.int .i64 off, .int .i64 kind, .int .i64 save, .string rls, .string fm, .bool til, .int .i64 year, .int .i64 mo, .int .i64 ki, .int .i64 wd, .int .i64 da, .int .i64 ti, .int .i64 re]] W (RetV W (.bool false)))) (w : World) : Calls Tryz.prog 56 #[.agg #[.int .i64 off, .int .i64 kind, .int .i64 save, .string rls, .string fm, .bool til, .int .i64 year, .int .i64 mo, .int .i64 ki, .int .i64 wd, .int .i64 da, .int .i64 ti, .int .i64 re]] w (RetV w (.bool false)) := by
  go_enter Tryz.func56, Tryz.ntmps56
  go_upto_region 1 with (fail)
  have KB := blk_lit w 41 [.int .i64 off, .int .i64 kind, .int .i64 save, .string rls, .string fm, .bool til, .int .i64 year, .int .i64 mo, .int .i64 ki, .int .i64 wd, .int .i64 da, .int .i64 ti, .int .i64 re]
  have hb := below_box w (.cells #[.int .i64 off, .int .i64 kind, .int .i64 save, .string rls, .string fm, .bool til, .int .i64 year, .int .i64 mo, .int .i64 ki, .int .i64 wd, .int .i64 da, .int .i64 ti, .int .i64 re] 41)
  generalize w.alloc (.cells #[.int .i64 off, .int .i64 kind, .int .i64 save, .string rls, .string fm, .bool til, .int .i64 year, .int .i64 mo, .int .i64 ki, .int .i64 wd, .int .i64 da, .int .i64 ti, .int .i64 re] 41) = W at *
  obtain ⟨x0, x1, x2, x3, x4, x5, x6, x7, x8, x9, x10, x11, x12⟩ := KB.thirteenC
  go_wp2_with (go_at_call 85; refine (H1.out _).mono ?_; clear H1; rintro e w' ⟨rfl, hk⟩; replace hb := below_thru hb hk; replace KB := KB.below hk; clear hk x0 x1 x2 x3 x4 x5 x6 x7 x8 x9 x10 x11 x12; obtain ⟨x0, x1, x2, x3, x4, x5, x6, x7, x8, x9, x10, x11, x12⟩ := KB.thirteenC)
  go_wp2
  go_ret
  exact ⟨by first | rfl | simp, hb⟩
theorem re_d (rls fm : ByteArray) (til : Bool) (off kind save year mo ki wd da ti re : Int) (o1 : decide (-86400 < off) = true) (o2 : decide (off < 86400) = true) (H1 : Hid (∀ W, Calls Tryz.prog 85 #[.agg #[.int .i64 off, .int .i64 kind, .int .i64 save, .string rls, .string fm, .bool til, .int .i64 year, .int .i64 mo, .int .i64 ki, .int .i64 wd, .int .i64 da, .int .i64 ti, .int .i64 re]] W (RetV W (.bool true)))) (H2 : Hid (∀ W, Calls Tryz.prog 86 #[.string fm] W (RetDr W (.bool false)))) (w : World) : Calls Tryz.prog 56 #[.agg #[.int .i64 off, .int .i64 kind, .int .i64 save, .string rls, .string fm, .bool til, .int .i64 year, .int .i64 mo, .int .i64 ki, .int .i64 wd, .int .i64 da, .int .i64 ti, .int .i64 re]] w (RetV w (.bool false)) := by
  go_enter Tryz.func56, Tryz.ntmps56
  go_upto_region 1 with (fail)
  have KB := blk_lit w 41 [.int .i64 off, .int .i64 kind, .int .i64 save, .string rls, .string fm, .bool til, .int .i64 year, .int .i64 mo, .int .i64 ki, .int .i64 wd, .int .i64 da, .int .i64 ti, .int .i64 re]
  have hb := below_box w (.cells #[.int .i64 off, .int .i64 kind, .int .i64 save, .string rls, .string fm, .bool til, .int .i64 year, .int .i64 mo, .int .i64 ki, .int .i64 wd, .int .i64 da, .int .i64 ti, .int .i64 re] 41)
  generalize w.alloc (.cells #[.int .i64 off, .int .i64 kind, .int .i64 save, .string rls, .string fm, .bool til, .int .i64 year, .int .i64 mo, .int .i64 ki, .int .i64 wd, .int .i64 da, .int .i64 ti, .int .i64 re] 41) = W at *
  obtain ⟨x0, x1, x2, x3, x4, x5, x6, x7, x8, x9, x10, x11, x12⟩ := KB.thirteenC
  go_wp2_with (go_at_call 85; refine (H1.out _).mono ?_; clear H1; rintro e w' ⟨rfl, hk⟩; replace hb := below_thru hb hk; replace KB := KB.below hk; clear hk x0 x1 x2 x3 x4 x5 x6 x7 x8 x9 x10 x11 x12; obtain ⟨x0, x1, x2, x3, x4, x5, x6, x7, x8, x9, x10, x11, x12⟩ := KB.thirteenC)
  go_wp2_with (go_at_call 86; refine (H2.out _).mono ?_; clear H2; rintro e w' ⟨rfl, m, rfl⟩; replace hb := below_thru hb (below_drewN (Below.refl _ _) m); replace KB := KB.below (below_drewN (Below.refl _ _) m); clear x0 x1 x2 x3 x4 x5 x6 x7 x8 x9 x10 x11 x12; obtain ⟨x0, x1, x2, x3, x4, x5, x6, x7, x8, x9, x10, x11, x12⟩ := KB.thirteenC)
  go_wp2
  go_ret
  exact ⟨by first | rfl | simp, hb⟩
theorem re_e (rls fm : ByteArray) (til : Bool) (off kind save year mo ki wd da ti re : Int) (o1 : decide (-86400 < off) = true) (o2 : decide (off < 86400) = true) (f : Bool) (H1 : Hid (∀ W, Calls Tryz.prog 85 #[.agg #[.int .i64 off, .int .i64 kind, .int .i64 save, .string rls, .string fm, .bool til, .int .i64 year, .int .i64 mo, .int .i64 ki, .int .i64 wd, .int .i64 da, .int .i64 ti, .int .i64 re]] W (RetV W (.bool true)))) (H2 : Hid (∀ W, Calls Tryz.prog 86 #[.string fm] W (RetDr W (.bool true)))) (H3 : Hid (∀ W, Calls Tryz.prog 87 #[.agg #[.int .i64 off, .int .i64 kind, .int .i64 save, .string rls, .string fm, .bool til, .int .i64 year, .int .i64 mo, .int .i64 ki, .int .i64 wd, .int .i64 da, .int .i64 ti, .int .i64 re]] W (RetV W (.bool f)))) (w : World) : Calls Tryz.prog 56 #[.agg #[.int .i64 off, .int .i64 kind, .int .i64 save, .string rls, .string fm, .bool til, .int .i64 year, .int .i64 mo, .int .i64 ki, .int .i64 wd, .int .i64 da, .int .i64 ti, .int .i64 re]] w (RetV w (.bool f)) := by
  go_enter Tryz.func56, Tryz.ntmps56
  go_upto_region 1 with (fail)
  have KB := blk_lit w 41 [.int .i64 off, .int .i64 kind, .int .i64 save, .string rls, .string fm, .bool til, .int .i64 year, .int .i64 mo, .int .i64 ki, .int .i64 wd, .int .i64 da, .int .i64 ti, .int .i64 re]
  have hb := below_box w (.cells #[.int .i64 off, .int .i64 kind, .int .i64 save, .string rls, .string fm, .bool til, .int .i64 year, .int .i64 mo, .int .i64 ki, .int .i64 wd, .int .i64 da, .int .i64 ti, .int .i64 re] 41)
  generalize w.alloc (.cells #[.int .i64 off, .int .i64 kind, .int .i64 save, .string rls, .string fm, .bool til, .int .i64 year, .int .i64 mo, .int .i64 ki, .int .i64 wd, .int .i64 da, .int .i64 ti, .int .i64 re] 41) = W at *
  obtain ⟨x0, x1, x2, x3, x4, x5, x6, x7, x8, x9, x10, x11, x12⟩ := KB.thirteenC
  go_wp2_with (go_at_call 85; refine (H1.out _).mono ?_; clear H1; rintro e w' ⟨rfl, hk⟩; replace hb := below_thru hb hk; replace KB := KB.below hk; clear hk x0 x1 x2 x3 x4 x5 x6 x7 x8 x9 x10 x11 x12; obtain ⟨x0, x1, x2, x3, x4, x5, x6, x7, x8, x9, x10, x11, x12⟩ := KB.thirteenC)
  go_wp2_with (go_at_call 86; refine (H2.out _).mono ?_; clear H2; rintro e w' ⟨rfl, m, rfl⟩; replace hb := below_thru hb (below_drewN (Below.refl _ _) m); replace KB := KB.below (below_drewN (Below.refl _ _) m); clear x0 x1 x2 x3 x4 x5 x6 x7 x8 x9 x10 x11 x12; obtain ⟨x0, x1, x2, x3, x4, x5, x6, x7, x8, x9, x10, x11, x12⟩ := KB.thirteenC)
  go_wp2_with (go_at_call 87; refine (H3.out _).mono ?_; clear H3; rintro e w' ⟨rfl, hk⟩; replace hb := below_thru hb hk; replace KB := KB.below hk; clear hk x0 x1 x2 x3 x4 x5 x6 x7 x8 x9 x10 x11 x12; obtain ⟨x0, x1, x2, x3, x4, x5, x6, x7, x8, x9, x10, x11, x12⟩ := KB.thirteenC)
  go_wp2
  go_ret
  exact ⟨by first | rfl | simp, hb⟩
noncomputable def erOk (x : Er) : Bool := @decide x.ok (Classical.propDecidable _)
theorem er_is (x : Er) : erOk x = (decide (-86400 < x.off) && (decide (x.off < 86400) && (hsOk x && (formatB x.fmt && heOk x)))) := by
  rw [Bool.eq_iff_iff]
  unfold erOk
  rw [@decide_eq_true_iff _ (Classical.propDecidable _)]
  simp only [Bool.and_eq_true, decide_eq_true_eq]
  constructor
  · rintro ⟨⟨o1, o2⟩, s, f, ⟨k0, k2⟩, n1, n2, n3, t1, t0⟩
    refine ⟨o1, o2, ?_, f, ?_⟩
    · unfold hsOk
      by_cases e0 : x.kind = 0
      · rw [if_pos e0, n1 (by omega), n2 (by omega)]; rfl
      rw [if_neg e0]
      by_cases e1 : x.kind = 1
      · rw [if_pos e1, sv_yes.2 s, n2 (by omega)]; rfl
      rw [if_neg e1, if_pos (show x.kind = 2 by omega), n1 e1, n3 (by omega)]; rfl
    · unfold heOk
      cases ht : x.til with
      | true => rw [if_pos rfl, yr_yes.2 (t1 ht).1, decide_eq_true (t1 ht).2]; rfl
      | false => rw [if_neg (by decide), (t0 ht).1, (t0 ht).2]; rfl
  · rintro ⟨o1, o2, s, f, h⟩
    unfold hsOk at s
    have sv : (-43200 ≤ x.save ∧ x.save ≤ 43200) ∧ (0 ≤ x.kind ∧ x.kind ≤ 2) ∧ (x.kind ≠ 1 → x.save = 0) ∧ (x.kind ≠ 2 → x.rules = ⟨#[]⟩) ∧ (x.kind = 2 → setB x.rules = true) := by
      by_cases e0 : x.kind = 0
      · rw [if_pos e0, Bool.and_eq_true, decide_eq_true_eq, decide_eq_true_eq] at s
        exact ⟨by omega, by omega, fun _ => s.1, fun _ => s.2, fun c => by omega⟩
      rw [if_neg e0] at s
      by_cases e1 : x.kind = 1
      · rw [if_pos e1, Bool.and_eq_true, decide_eq_true_eq] at s
        exact ⟨sv_yes.1 s.1, by omega, fun c => absurd e1 c, fun _ => s.2, fun c => by omega⟩
      rw [if_neg e1] at s
      by_cases e2 : x.kind = 2
      · rw [if_pos e2, Bool.and_eq_true, decide_eq_true_eq] at s
        exact ⟨by omega, by omega, fun _ => s.1, fun c => absurd e2 c, fun _ => s.2⟩
      rw [if_neg e2] at s
      cases s
    refine ⟨⟨o1, o2⟩, sv.1, f, sv.2.1, sv.2.2.1, sv.2.2.2.1, sv.2.2.2.2, fun ht => ?_, fun ht => ?_⟩
    · unfold heOk at h
      rw [if_pos ht, Bool.and_eq_true, decide_eq_true_eq] at h
      exact ⟨yr_yes.1 h.1, h.2⟩
    · unfold heOk at h
      rw [if_neg (by rw [ht]; decide), Bool.and_eq_true, decide_eq_true_eq, decide_eq_true_eq] at h
      exact h
theorem rightEraP (x : Er) (hx : x.in64) (w : World) : Calls Tryz.prog 56 #[x.val] w (RetV w (.bool (erOk x))) := by
  rw [er_is]
  have h1 := fun W => hasSavingP x hx W
  have h2 := fun W => formatP x.fmt hx.2.2.2.2.1 W
  have h3 := fun W => hasEndP x W
  generalize hsOk x = s at *
  generalize heOk x = h at *
  obtain ⟨off, kind, save, rls, fm, til, year, ⟨mo, ki, wd, da, ti, re⟩⟩ := x
  simp only at h2 ⊢
  generalize formatB fm = f at *
  by_cases o1 : -86400 < off
  case neg => rw [decide_eq_false o1, Bool.false_and]; exact re_a _ _ _ _ _ _ _ _ _ _ _ _ _ (decide_eq_false o1) w
  by_cases o2 : off < 86400
  case neg => rw [decide_eq_false o2, Bool.false_and, Bool.and_false]; exact re_b _ _ _ _ _ _ _ _ _ _ _ _ _ (decide_eq_true o1) (decide_eq_false o2) w
  rw [decide_eq_true o1, decide_eq_true o2, Bool.true_and, Bool.true_and]
  cases s with
  | false => rw [Bool.false_and]; exact re_c _ _ _ _ _ _ _ _ _ _ _ _ _ (decide_eq_true o1) (decide_eq_true o2) (Lib.hid h1) w
  | true =>
  rw [Bool.true_and]
  cases f with
  | false => rw [Bool.false_and]; exact re_d _ _ _ _ _ _ _ _ _ _ _ _ _ (decide_eq_true o1) (decide_eq_true o2) (Lib.hid h1) (Lib.hid h2) w
  | true =>
  rw [Bool.true_and]
  exact re_e _ _ _ _ _ _ _ _ _ _ _ _ _ (decide_eq_true o1) (decide_eq_true o2) _ (Lib.hid h1) (Lib.hid h2) (Lib.hid h3) w
def listB {α : Type} (l : List α) (few most : Int) (ok : α → Bool) : Bool := decide (few ≤ (l.length : Int)) && (decide ((l.length : Int) ≤ most) && l.all ok)
theorem all_no {α : Type} {l : List α} {ok : α → Bool} {k : Nat} {x : α} (h : l[k]? = some x) (b : ok x = false) : l.all ok = false := by
  rw [← Bool.not_eq_true, List.all_eq_true]
  intro c
  rw [c x (List.mem_of_getElem? h)] at b
  cases b
theorem all_yes {α : Type} {l : List α} {ok : α → Bool} (h : ∀ j x, j < l.length → l[j]? = some x → ok x = true) : l.all ok = true := by
  rw [List.all_eq_true]
  intro x hx
  obtain ⟨j, hj, e⟩ := List.mem_iff_getElem.1 hx
  exact h j x hj (by rw [List.getElem?_eq_getElem hj, e])
theorem listRuleP (few most : Int) (K : FuncId) (eK : ∀ args w, (callFunc K args).run Tryz.prog w = .ok (.enter K args) w) (ok : Rl → Bool) (A : Option Addr) (n c : Nat) (l : List Rl) (w : World) (ha : Rs 11 w A n c (l.map Rl.vals))
    (RK : ∀ x ∈ l, ∀ W, Below w.heap.size w W → Calls Tryz.prog K #[x.val] W (RetV W (.bool (ok x)))) :
    Calls Tryz.prog 24 #[.slice A n c, .int .i64 few, .int .i64 most, .func (.func K) #[] #[]] w (RetV w (.bool (listB l few most ok))) := by
  have ln : l.length = n := by have := ha.len; simpa using this
  have mx : n ≤ 9223372036854775807 := Nat.le_trans ha.cap ha.max
  have E0 := Lib.hid (show listB l few most ok = (decide (few ≤ (n : Int)) && (decide ((n : Int) ≤ most) && l.all ok)) by unfold listB; rw [ln])
  have LN := Lib.hid ln
  clear ln
  by_cases h1 : (n : Int) < few
  · have d1 : decide ((n : Int) < few) = true := decide_eq_true h1
    have E := Lib.hid (show listB l few most ok = false by rw [E0.out, decide_eq_false (p := few ≤ (n : Int)) (by omega), Bool.false_and])
    clear E0 h1 ha RK
    go_enter Tryz.func24, Tryz.ntmps24
    go_wp2
    go_ret
    exact ⟨by rw [E.out]; rfl, Below.refl _ _⟩
  have d1 : decide ((n : Int) < few) = false := decide_eq_false h1
  by_cases h2 : most < (n : Int)
  · have d2 : decide (most < (n : Int)) = true := decide_eq_true h2
    have E := Lib.hid (show listB l few most ok = false by rw [E0.out, decide_eq_false (p := (n : Int) ≤ most) (by omega), Bool.false_and, Bool.and_false])
    clear E0 h1 h2 ha RK
    go_enter Tryz.func24, Tryz.ntmps24
    go_wp2
    go_ret
    exact ⟨by rw [E.out]; rfl, Below.refl _ _⟩
  have d2 : decide (most < (n : Int)) = false := decide_eq_false h2
  have E := Lib.hid (show listB l few most ok = l.all ok by rw [E0.out, decide_eq_true (p := few ≤ (n : Int)) (by omega), decide_eq_true (p := (n : Int) ≤ most) (by omega), Bool.true_and, Bool.true_and])
  clear E0 h1 h2
  have HA := Lib.hid ha
  have HK := Lib.hid RK
  clear ha RK
  go_enter Tryz.func24, Tryz.ntmps24
  go_wp2_with fail
  go_loopw [10, 23] (fun v10 v23 wr => ∃ k : Nat, k ≤ n ∧ v23 = .int .i64 k ∧ (∀ j x, j < k → l[j]? = some x → ok x = true) ∧ Below w.heap.size w wr) (fun _ v _ => n - (intOf v).toNat)
  case atStart => exact ⟨0, by omega, rfl, fun j x h => absurd h (by omega), Below.refl _ _⟩
  case round =>
    obtain ⟨k, hk, rfl, hR, hbel⟩ := hrel
    have HR := Lib.hid hR
    clear hR
    by_cases h4 : k < n
    · obtain ⟨x, hxx⟩ : ∃ x, l[k]? = some x := ⟨_, List.getElem?_eq_getElem (by rw [LN.out]; exact h4)⟩
      obtain ⟨g, o, ea0, hg, ca⟩ := (HA.out.below hbel).cells (by omega)
      subst ea0
      have STEP := Lib.hid (show ok x = true → ∀ j y, j < k + 1 → l[j]? = some y → ok y = true from fun h j y hj hy => by
        by_cases e : j = k
        · subst e; rw [hxx] at hy; cases hy; exact h
        · exact HR.out j y (by omega) hy)
      have BAD := Lib.hid (fun h : ok x = false => all_no hxx h)
      have RX := HK.out x (List.mem_of_getElem? hxx)
      have ra := row_at ca (show (l.map Rl.vals)[k]? = some (Rl.vals x) by rw [List.getElem?_map, hxx]; rfl)
      generalize ok x = b at *
      obtain ⟨nm, fr, last, ⟨mo, ki, wd, da, ti, re⟩, save, le⟩ := x
      have x0 : wr.cell? ⟨g, o + k * 11, none⟩ = some (.string nm) := ra 0 _ rfl
      have x1 : wr.cell? ⟨g, o + k * 11 + 1, none⟩ = some (.int .i64 fr) := ra 1 _ rfl
      have x2 : wr.cell? ⟨g, o + k * 11 + 2, none⟩ = some (.int .i64 last) := ra 2 _ rfl
      have x3 : wr.cell? ⟨g, o + k * 11 + 3, none⟩ = some (.int .i64 mo) := ra 3 _ rfl
      have x4 : wr.cell? ⟨g, o + k * 11 + 4, none⟩ = some (.int .i64 ki) := ra 4 _ rfl
      have x5 : wr.cell? ⟨g, o + k * 11 + 5, none⟩ = some (.int .i64 wd) := ra 5 _ rfl
      have x6 : wr.cell? ⟨g, o + k * 11 + 6, none⟩ = some (.int .i64 da) := ra 6 _ rfl
      have x7 : wr.cell? ⟨g, o + k * 11 + 7, none⟩ = some (.int .i64 ti) := ra 7 _ rfl
      have x8 : wr.cell? ⟨g, o + k * 11 + 8, none⟩ = some (.int .i64 re) := ra 8 _ rfl
      have x9 : wr.cell? ⟨g, o + k * 11 + 9, none⟩ = some (.int .i64 save) := ra 9 _ rfl
      have x10 : wr.cell? ⟨g, o + k * 11 + 10, none⟩ = some (.string le) := ra 10 _ rfl
      clear ca ra hxx
      have RX0 := fun X (h : Below w.heap.size w X) => (show Calls Tryz.prog K #[.agg #[.string nm, .int .i64 fr, .int .i64 last, .int .i64 mo, .int .i64 ki, .int .i64 wd, .int .i64 da, .int .i64 ti, .int .i64 re, .int .i64 save, .string le]] X (RetV X (.bool b)) from RX X h)
      clear RX
      go_upto_region 6 with (fail)
      have KB := blk_lit wr 36 [.string nm, .int .i64 fr, .int .i64 last, .int .i64 mo, .int .i64 ki, .int .i64 wd, .int .i64 da, .int .i64 ti, .int .i64 re, .int .i64 save, .string le]
      have hb := below_thru hbel (below_box wr (.cells #[.string nm, .int .i64 fr, .int .i64 last, .int .i64 mo, .int .i64 ki, .int .i64 wd, .int .i64 da, .int .i64 ti, .int .i64 re, .int .i64 save, .string le] 36))
      generalize wr.alloc (.cells #[.string nm, .int .i64 fr, .int .i64 last, .int .i64 mo, .int .i64 ki, .int .i64 wd, .int .i64 da, .int .i64 ti, .int .i64 re, .int .i64 save, .string le] 36) = W at *
      generalize wr.heap.size = bb at *
      clear x0 x1 x2 x3 x4 x5 x6 x7 x8 x9 x10 hg hbel
      obtain ⟨y0, y1, y2, y3, y4, y5, y6, y7, y8, y9, y10⟩ := KB.elevenC
      have RX := Lib.hid (RX0 W hb)
      clear RX0
      cases b with
      | true =>
        go_wp2_with fail
        refine RX.out.mono ?_
        clear RX
        rintro e W2 ⟨rfl, hk2⟩
        go_wp2
        go_roundw
        case rel => exact ⟨k + 1, by omega, int_eqS (by omega), STEP.out (by first | rfl | trivial), below_thru hb hk2⟩
        case measure => simp only [intOf]; omega
      | false =>
        go_wp2_with fail
        refine RX.out.mono ?_
        clear RX
        rintro e W2 ⟨rfl, hk2⟩
        go_wp2
        go_ret
        exact ⟨by rw [E.out, BAD.out (by first | rfl | trivial)]; rfl, below_thru hb hk2⟩
    · obtain rfl : k = n := by omega
      have Y := Lib.hid (show l.all ok = true from all_yes fun j x hj hx => HR.out j x (by rw [LN.out] at hj; exact hj) hx)
      go_wp2
      go_ret
      exact ⟨by rw [E.out, Y.out]; rfl, hbel⟩
theorem listEraP (few most : Int) (K : FuncId) (eK : ∀ args w, (callFunc K args).run Tryz.prog w = .ok (.enter K args) w) (ok : Er → Bool) (A : Option Addr) (n c : Nat) (l : List Er) (w : World) (ha : Rs 13 w A n c (l.map Er.vals))
    (RK : ∀ x ∈ l, ∀ W, Below w.heap.size w W → Calls Tryz.prog K #[x.val] W (RetV W (.bool (ok x)))) :
    Calls Tryz.prog 55 #[.slice A n c, .int .i64 few, .int .i64 most, .func (.func K) #[] #[]] w (RetV w (.bool (listB l few most ok))) := by
  have ln : l.length = n := by have := ha.len; simpa using this
  have mx : n ≤ 9223372036854775807 := Nat.le_trans ha.cap ha.max
  have E0 := Lib.hid (show listB l few most ok = (decide (few ≤ (n : Int)) && (decide ((n : Int) ≤ most) && l.all ok)) by unfold listB; rw [ln])
  have LN := Lib.hid ln
  clear ln
  by_cases h1 : (n : Int) < few
  · have d1 : decide ((n : Int) < few) = true := decide_eq_true h1
    have E := Lib.hid (show listB l few most ok = false by rw [E0.out, decide_eq_false (p := few ≤ (n : Int)) (by omega), Bool.false_and])
    clear E0 h1 ha RK
    go_enter Tryz.func55, Tryz.ntmps55
    go_wp2
    go_ret
    exact ⟨by rw [E.out]; rfl, Below.refl _ _⟩
  have d1 : decide ((n : Int) < few) = false := decide_eq_false h1
  by_cases h2 : most < (n : Int)
  · have d2 : decide (most < (n : Int)) = true := decide_eq_true h2
    have E := Lib.hid (show listB l few most ok = false by rw [E0.out, decide_eq_false (p := (n : Int) ≤ most) (by omega), Bool.false_and, Bool.and_false])
    clear E0 h1 h2 ha RK
    go_enter Tryz.func55, Tryz.ntmps55
    go_wp2
    go_ret
    exact ⟨by rw [E.out]; rfl, Below.refl _ _⟩
  have d2 : decide (most < (n : Int)) = false := decide_eq_false h2
  have E := Lib.hid (show listB l few most ok = l.all ok by rw [E0.out, decide_eq_true (p := few ≤ (n : Int)) (by omega), decide_eq_true (p := (n : Int) ≤ most) (by omega), Bool.true_and, Bool.true_and])
  clear E0 h1 h2
  have HA := Lib.hid ha
  have HK := Lib.hid RK
  clear ha RK
  go_enter Tryz.func55, Tryz.ntmps55
  go_wp2_with fail
  go_loopw [10, 23] (fun v10 v23 wr => ∃ k : Nat, k ≤ n ∧ v23 = .int .i64 k ∧ (∀ j x, j < k → l[j]? = some x → ok x = true) ∧ Below w.heap.size w wr) (fun _ v _ => n - (intOf v).toNat)
  case atStart => exact ⟨0, by omega, rfl, fun j x h => absurd h (by omega), Below.refl _ _⟩
  case round =>
    obtain ⟨k, hk, rfl, hR, hbel⟩ := hrel
    have HR := Lib.hid hR
    clear hR
    by_cases h4 : k < n
    · obtain ⟨x, hxx⟩ : ∃ x, l[k]? = some x := ⟨_, List.getElem?_eq_getElem (by rw [LN.out]; exact h4)⟩
      obtain ⟨g, o, ea0, hg, ca⟩ := (HA.out.below hbel).cells (by omega)
      subst ea0
      have STEP := Lib.hid (show ok x = true → ∀ j y, j < k + 1 → l[j]? = some y → ok y = true from fun h j y hj hy => by
        by_cases e : j = k
        · subst e; rw [hxx] at hy; cases hy; exact h
        · exact HR.out j y (by omega) hy)
      have BAD := Lib.hid (fun h : ok x = false => all_no hxx h)
      have RX := HK.out x (List.mem_of_getElem? hxx)
      have ra := row_at ca (show (l.map Er.vals)[k]? = some (Er.vals x) by rw [List.getElem?_map, hxx]; rfl)
      generalize ok x = b at *
      obtain ⟨off, kind, save, rls, fm, til, year, ⟨mo, ki, wd, da, ti, re⟩⟩ := x
      have x0 : wr.cell? ⟨g, o + k * 13, none⟩ = some (.int .i64 off) := ra 0 _ rfl
      have x1 : wr.cell? ⟨g, o + k * 13 + 1, none⟩ = some (.int .i64 kind) := ra 1 _ rfl
      have x2 : wr.cell? ⟨g, o + k * 13 + 2, none⟩ = some (.int .i64 save) := ra 2 _ rfl
      have x3 : wr.cell? ⟨g, o + k * 13 + 3, none⟩ = some (.string rls) := ra 3 _ rfl
      have x4 : wr.cell? ⟨g, o + k * 13 + 4, none⟩ = some (.string fm) := ra 4 _ rfl
      have x5 : wr.cell? ⟨g, o + k * 13 + 5, none⟩ = some (.bool til) := ra 5 _ rfl
      have x6 : wr.cell? ⟨g, o + k * 13 + 6, none⟩ = some (.int .i64 year) := ra 6 _ rfl
      have x7 : wr.cell? ⟨g, o + k * 13 + 7, none⟩ = some (.int .i64 mo) := ra 7 _ rfl
      have x8 : wr.cell? ⟨g, o + k * 13 + 8, none⟩ = some (.int .i64 ki) := ra 8 _ rfl
      have x9 : wr.cell? ⟨g, o + k * 13 + 9, none⟩ = some (.int .i64 wd) := ra 9 _ rfl
      have x10 : wr.cell? ⟨g, o + k * 13 + 10, none⟩ = some (.int .i64 da) := ra 10 _ rfl
      have x11 : wr.cell? ⟨g, o + k * 13 + 11, none⟩ = some (.int .i64 ti) := ra 11 _ rfl
      have x12 : wr.cell? ⟨g, o + k * 13 + 12, none⟩ = some (.int .i64 re) := ra 12 _ rfl
      clear ca ra hxx
      have RX0 := fun X (h : Below w.heap.size w X) => (show Calls Tryz.prog K #[.agg #[.int .i64 off, .int .i64 kind, .int .i64 save, .string rls, .string fm, .bool til, .int .i64 year, .int .i64 mo, .int .i64 ki, .int .i64 wd, .int .i64 da, .int .i64 ti, .int .i64 re]] X (RetV X (.bool b)) from RX X h)
      clear RX
      go_upto_region 6 with (fail)
      have KB := blk_lit wr 41 [.int .i64 off, .int .i64 kind, .int .i64 save, .string rls, .string fm, .bool til, .int .i64 year, .int .i64 mo, .int .i64 ki, .int .i64 wd, .int .i64 da, .int .i64 ti, .int .i64 re]
      have hb := below_thru hbel (below_box wr (.cells #[.int .i64 off, .int .i64 kind, .int .i64 save, .string rls, .string fm, .bool til, .int .i64 year, .int .i64 mo, .int .i64 ki, .int .i64 wd, .int .i64 da, .int .i64 ti, .int .i64 re] 41))
      generalize wr.alloc (.cells #[.int .i64 off, .int .i64 kind, .int .i64 save, .string rls, .string fm, .bool til, .int .i64 year, .int .i64 mo, .int .i64 ki, .int .i64 wd, .int .i64 da, .int .i64 ti, .int .i64 re] 41) = W at *
      generalize wr.heap.size = bb at *
      clear x0 x1 x2 x3 x4 x5 x6 x7 x8 x9 x10 x11 x12 hg hbel
      obtain ⟨y0, y1, y2, y3, y4, y5, y6, y7, y8, y9, y10, y11, y12⟩ := KB.thirteenC
      have RX := Lib.hid (RX0 W hb)
      clear RX0
      cases b with
      | true =>
        go_wp2_with fail
        refine RX.out.mono ?_
        clear RX
        rintro e W2 ⟨rfl, hk2⟩
        go_wp2
        go_roundw
        case rel => exact ⟨k + 1, by omega, int_eqS (by omega), STEP.out (by first | rfl | trivial), below_thru hb hk2⟩
        case measure => simp only [intOf]; omega
      | false =>
        go_wp2_with fail
        refine RX.out.mono ?_
        clear RX
        rintro e W2 ⟨rfl, hk2⟩
        go_wp2
        go_ret
        exact ⟨by rw [E.out, BAD.out (by first | rfl | trivial)]; rfl, below_thru hb hk2⟩
    · obtain rfl : k = n := by omega
      have Y := Lib.hid (show l.all ok = true from all_yes fun j x hj hx => HR.out j x (by rw [LN.out] at hj; exact hj) hx)
      go_wp2
      go_ret
      exact ⟨by rw [E.out, Y.out]; rfl, hbel⟩
theorem listLinkP (few most : Int) (K : FuncId) (eK : ∀ args w, (callFunc K args).run Tryz.prog w = .ok (.enter K args) w) (ok : Lk → Bool) (A : Option Addr) (n c : Nat) (l : List Lk) (w : World) (ha : Rs 2 w A n c (l.map Lk.vals))
    (RK : ∀ x ∈ l, ∀ W, Below w.heap.size w W → Calls Tryz.prog K #[.agg x.vals.toArray] W (RetV W (.bool (ok x)))) :
    Calls Tryz.prog 28 #[.slice A n c, .int .i64 few, .int .i64 most, .func (.func K) #[] #[]] w (RetV w (.bool (listB l few most ok))) := by
  have ln : l.length = n := by have := ha.len; simpa using this
  have mx : n ≤ 9223372036854775807 := Nat.le_trans ha.cap ha.max
  have E0 := Lib.hid (show listB l few most ok = (decide (few ≤ (n : Int)) && (decide ((n : Int) ≤ most) && l.all ok)) by unfold listB; rw [ln])
  have LN := Lib.hid ln
  clear ln
  by_cases h1 : (n : Int) < few
  · have d1 : decide ((n : Int) < few) = true := decide_eq_true h1
    have E := Lib.hid (show listB l few most ok = false by rw [E0.out, decide_eq_false (p := few ≤ (n : Int)) (by omega), Bool.false_and])
    clear E0 h1 ha RK
    go_enter Tryz.func28, Tryz.ntmps28
    go_wp2
    go_ret
    exact ⟨by rw [E.out]; rfl, Below.refl _ _⟩
  have d1 : decide ((n : Int) < few) = false := decide_eq_false h1
  by_cases h2 : most < (n : Int)
  · have d2 : decide (most < (n : Int)) = true := decide_eq_true h2
    have E := Lib.hid (show listB l few most ok = false by rw [E0.out, decide_eq_false (p := (n : Int) ≤ most) (by omega), Bool.false_and, Bool.and_false])
    clear E0 h1 h2 ha RK
    go_enter Tryz.func28, Tryz.ntmps28
    go_wp2
    go_ret
    exact ⟨by rw [E.out]; rfl, Below.refl _ _⟩
  have d2 : decide (most < (n : Int)) = false := decide_eq_false h2
  have E := Lib.hid (show listB l few most ok = l.all ok by rw [E0.out, decide_eq_true (p := few ≤ (n : Int)) (by omega), decide_eq_true (p := (n : Int) ≤ most) (by omega), Bool.true_and, Bool.true_and])
  clear E0 h1 h2
  have HA := Lib.hid ha
  have HK := Lib.hid RK
  clear ha RK
  go_enter Tryz.func28, Tryz.ntmps28
  go_wp2_with fail
  go_loopw [10, 23] (fun v10 v23 wr => ∃ k : Nat, k ≤ n ∧ v23 = .int .i64 k ∧ (∀ j x, j < k → l[j]? = some x → ok x = true) ∧ Below w.heap.size w wr) (fun _ v _ => n - (intOf v).toNat)
  case atStart => exact ⟨0, by omega, rfl, fun j x h => absurd h (by omega), Below.refl _ _⟩
  case round =>
    obtain ⟨k, hk, rfl, hR, hbel⟩ := hrel
    have HR := Lib.hid hR
    clear hR
    by_cases h4 : k < n
    · obtain ⟨x, hxx⟩ : ∃ x, l[k]? = some x := ⟨_, List.getElem?_eq_getElem (by rw [LN.out]; exact h4)⟩
      obtain ⟨g, o, ea0, hg, ca⟩ := (HA.out.below hbel).cells (by omega)
      subst ea0
      have STEP := Lib.hid (show ok x = true → ∀ j y, j < k + 1 → l[j]? = some y → ok y = true from fun h j y hj hy => by
        by_cases e : j = k
        · subst e; rw [hxx] at hy; cases hy; exact h
        · exact HR.out j y (by omega) hy)
      have BAD := Lib.hid (fun h : ok x = false => all_no hxx h)
      have RX := HK.out x (List.mem_of_getElem? hxx)
      have ra := row_at ca (show (l.map Lk.vals)[k]? = some (Lk.vals x) by rw [List.getElem?_map, hxx]; rfl)
      generalize ok x = b at *
      obtain ⟨ta, nm⟩ := x
      have x0 : wr.cell? ⟨g, o + k * 2, none⟩ = some (.string ta) := ra 0 _ rfl
      have x1 : wr.cell? ⟨g, o + k * 2 + 1, none⟩ = some (.string nm) := ra 1 _ rfl
      clear ca ra hxx
      have RX0 := fun X (h : Below w.heap.size w X) => (show Calls Tryz.prog K #[.agg #[.string ta, .string nm]] X (RetV X (.bool b)) from RX X h)
      clear RX
      go_upto_region 6 with (fail)
      have KB := blk_lit wr 43 [.string ta, .string nm]
      have hb := below_thru hbel (below_box wr (.cells #[.string ta, .string nm] 43))
      generalize wr.alloc (.cells #[.string ta, .string nm] 43) = W at *
      generalize wr.heap.size = bb at *
      clear x0 x1 hg hbel
      obtain ⟨_, y0, y1, _⟩ := KB.two
      have RX := Lib.hid (RX0 W hb)
      clear RX0
      cases b with
      | true =>
        go_wp2_with fail
        refine RX.out.mono ?_
        clear RX
        rintro e W2 ⟨rfl, hk2⟩
        go_wp2
        go_roundw
        case rel => exact ⟨k + 1, by omega, int_eqS (by omega), STEP.out (by first | rfl | trivial), below_thru hb hk2⟩
        case measure => simp only [intOf]; omega
      | false =>
        go_wp2_with fail
        refine RX.out.mono ?_
        clear RX
        rintro e W2 ⟨rfl, hk2⟩
        go_wp2
        go_ret
        exact ⟨by rw [E.out, BAD.out (by first | rfl | trivial)]; rfl, below_thru hb hk2⟩
    · obtain rfl : k = n := by omega
      have Y := Lib.hid (show l.all ok = true from all_yes fun j x hj hx => HR.out j x (by rw [LN.out] at hj; exact hj) hx)
      go_wp2
      go_ret
      exact ⟨by rw [E.out, Y.out]; rfl, hbel⟩
theorem listZoneP (few most : Int) (K : FuncId) (eK : ∀ args w, (callFunc K args).run Tryz.prog w = .ok (.enter K args) w) (ok : Ze → Bool) (A : Option Addr) (n c : Nat) (l : List Ze) (w : World) (ha : Rs 2 w A n c (l.map Ze.vals))
    (RK : ∀ x ∈ l, ∀ W, Below w.heap.size w W → Calls Tryz.prog K #[.agg #[.string x.1.name, x.2.val]] W (RetV W (.bool (ok x)))) :
    Calls Tryz.prog 26 #[.slice A n c, .int .i64 few, .int .i64 most, .func (.func K) #[] #[]] w (RetV w (.bool (listB l few most ok))) := by
  have ln : l.length = n := by have := ha.len; simpa using this
  have mx : n ≤ 9223372036854775807 := Nat.le_trans ha.cap ha.max
  have E0 := Lib.hid (show listB l few most ok = (decide (few ≤ (n : Int)) && (decide ((n : Int) ≤ most) && l.all ok)) by unfold listB; rw [ln])
  have LN := Lib.hid ln
  clear ln
  by_cases h1 : (n : Int) < few
  · have d1 : decide ((n : Int) < few) = true := decide_eq_true h1
    have E := Lib.hid (show listB l few most ok = false by rw [E0.out, decide_eq_false (p := few ≤ (n : Int)) (by omega), Bool.false_and])
    clear E0 h1 ha RK
    go_enter Tryz.func26, Tryz.ntmps26
    go_wp2
    go_ret
    exact ⟨by rw [E.out]; rfl, Below.refl _ _⟩
  have d1 : decide ((n : Int) < few) = false := decide_eq_false h1
  by_cases h2 : most < (n : Int)
  · have d2 : decide (most < (n : Int)) = true := decide_eq_true h2
    have E := Lib.hid (show listB l few most ok = false by rw [E0.out, decide_eq_false (p := (n : Int) ≤ most) (by omega), Bool.false_and, Bool.and_false])
    clear E0 h1 h2 ha RK
    go_enter Tryz.func26, Tryz.ntmps26
    go_wp2
    go_ret
    exact ⟨by rw [E.out]; rfl, Below.refl _ _⟩
  have d2 : decide (most < (n : Int)) = false := decide_eq_false h2
  have E := Lib.hid (show listB l few most ok = l.all ok by rw [E0.out, decide_eq_true (p := few ≤ (n : Int)) (by omega), decide_eq_true (p := (n : Int) ≤ most) (by omega), Bool.true_and, Bool.true_and])
  clear E0 h1 h2
  have HA := Lib.hid ha
  have HK := Lib.hid RK
  clear ha RK
  go_enter Tryz.func26, Tryz.ntmps26
  go_wp2_with fail
  go_loopw [10, 23] (fun v10 v23 wr => ∃ k : Nat, k ≤ n ∧ v23 = .int .i64 k ∧ (∀ j x, j < k → l[j]? = some x → ok x = true) ∧ Below w.heap.size w wr) (fun _ v _ => n - (intOf v).toNat)
  case atStart => exact ⟨0, by omega, rfl, fun j x h => absurd h (by omega), Below.refl _ _⟩
  case round =>
    obtain ⟨k, hk, rfl, hR, hbel⟩ := hrel
    have HR := Lib.hid hR
    clear hR
    by_cases h4 : k < n
    · obtain ⟨x, hxx⟩ : ∃ x, l[k]? = some x := ⟨_, List.getElem?_eq_getElem (by rw [LN.out]; exact h4)⟩
      obtain ⟨g, o, ea0, hg, ca⟩ := (HA.out.below hbel).cells (by omega)
      subst ea0
      have STEP := Lib.hid (show ok x = true → ∀ j y, j < k + 1 → l[j]? = some y → ok y = true from fun h j y hj hy => by
        by_cases e : j = k
        · subst e; rw [hxx] at hy; cases hy; exact h
        · exact HR.out j y (by omega) hy)
      have BAD := Lib.hid (fun h : ok x = false => all_no hxx h)
      have RX := HK.out x (List.mem_of_getElem? hxx)
      have ra := row_at ca (show (l.map Ze.vals)[k]? = some (Ze.vals x) by rw [List.getElem?_map, hxx]; rfl)
      generalize ok x = b at *
      obtain ⟨⟨nm, es⟩, ⟨ea, en, ec⟩⟩ := x
      have x0 : wr.cell? ⟨g, o + k * 2, none⟩ = some (.string nm) := ra 0 _ rfl
      have x1 : wr.cell? ⟨g, o + k * 2 + 1, none⟩ = some (.slice ea en ec) := ra 1 _ rfl
      clear ca ra hxx
      have RX0 := fun X (h : Below w.heap.size w X) => (show Calls Tryz.prog K #[.agg #[.string nm, .slice ea en ec]] X (RetV X (.bool b)) from RX X h)
      clear RX
      go_upto_region 6 with (fail)
      have KB := blk_lit wr 39 [.string nm, .slice ea en ec]
      have hb := below_thru hbel (below_box wr (.cells #[.string nm, .slice ea en ec] 39))
      generalize wr.alloc (.cells #[.string nm, .slice ea en ec] 39) = W at *
      generalize wr.heap.size = bb at *
      clear x0 x1 hg hbel
      obtain ⟨_, y0, y1, _⟩ := KB.two
      have RX := Lib.hid (RX0 W hb)
      clear RX0
      cases b with
      | true =>
        go_wp2_with fail
        refine RX.out.mono ?_
        clear RX
        rintro e W2 ⟨rfl, hk2⟩
        go_wp2
        go_roundw
        case rel => exact ⟨k + 1, by omega, int_eqS (by omega), STEP.out (by first | rfl | trivial), below_thru hb hk2⟩
        case measure => simp only [intOf]; omega
      | false =>
        go_wp2_with fail
        refine RX.out.mono ?_
        clear RX
        rintro e W2 ⟨rfl, hk2⟩
        go_wp2
        go_ret
        exact ⟨by rw [E.out, BAD.out (by first | rfl | trivial)]; rfl, below_thru hb hk2⟩
    · obtain rfl : k = n := by omega
      have Y := Lib.hid (show l.all ok = true from all_yes fun j x hj hx => HR.out j x (by rw [LN.out] at hj; exact hj) hx)
      go_wp2
      go_ret
      exact ⟨by rw [E.out, Y.out]; rfl, hbel⟩
theorem tilC_at : ∀ {l : List Er}, tilOk l → ∀ (t : Nat) (x : Er), l[t]? = some x → x.til = decide (t + 1 < l.length)
  | [], h, _, _, _ => h.elim
  | [y], h, t, x, e => by
    obtain rfl : t = 0 := by
      have := (List.getElem?_eq_some_iff.1 e).1
      simp at this; omega
    cases e
    exact h
  | y :: z :: r, h, t, x, e => by
    cases t with
    | zero => cases e; rw [h.1]; simp
    | succ t =>
      rw [tilC_at h.2 t x e]
      simp
theorem tilC_of : ∀ {l : List Er}, l ≠ [] → (∀ (t : Nat) (x : Er), l[t]? = some x → x.til = decide (t + 1 < l.length)) → tilOk l
  | [], h, _ => absurd rfl h
  | [y], _, h => h 0 y rfl
  | y :: z :: r, _, h => ⟨by rw [h 0 y rfl]; simp, tilC_of (by simp) (fun t x e => by rw [h (t + 1) x e]; simp)⟩
noncomputable def znOk (z : Zn) : Bool := @decide z.ok (Classical.propDecidable _)
theorem zn_yes {z : Zn} (h : z.ok) : znOk z = true := @decide_eq_true _ (Classical.propDecidable _) h
theorem zn_no {z : Zn} (h : ¬ z.ok) : znOk z = false := @decide_eq_false _ (Classical.propDecidable _) h
theorem er_yes {x : Er} : erOk x = true ↔ x.ok := @decide_eq_true_iff _ (Classical.propDecidable _)
theorem rl_iff {x : Rl} : rlOk x = true ↔ x.ok := @decide_eq_true_iff _ (Classical.propDecidable _)
theorem zn_iff {x : Zn} : znOk x = true ↔ x.ok := @decide_eq_true_iff _ (Classical.propDecidable _)
theorem lk_iff {x : Lk} : lkOk x = true ↔ x.ok := by unfold lkOk; rw [Bool.and_eq_true]; exact Iff.rfl
theorem list_iff {α : Type} {l : List α} {few most : Int} {ok : α → Bool} : listB l few most ok = true ↔ few ≤ (l.length : Int) ∧ (l.length : Int) ≤ most ∧ ∀ x ∈ l, ok x = true := by
  unfold listB
  rw [Bool.and_eq_true, Bool.and_eq_true, decide_eq_true_iff, decide_eq_true_iff, List.all_eq_true]
theorem rz_core (nm : ByteArray) (es : List Er) (ea : Option Addr) (en ec : Nat) (w : World) (a b z : Bool) (hm : Rs 13 w ea en ec (es.map Er.vals))
    (HP : Hid (∀ W, Calls Tryz.prog 54 #[.string nm] W (RetV W (.bool a))))
    (HL : Hid (∀ W, Below w.heap.size w W → Calls Tryz.prog 55 #[.slice ea en ec, .int .i64 1, .int .i64 40, .func (.func 56) #[] #[]] W (RetV W (.bool b))))
    (Z1 : Hid (a = false → z = false)) (Z2 : Hid (b = false → z = false)) (Z3 : Hid (a = true → b = true → (∀ (t : Nat) (x : Er), es[t]? = some x → x.til = decide (t + 1 < en)) → z = true)) (Z4 : Hid (∀ (t : Nat) (x : Er), es[t]? = some x → x.til = (!decide (t + 1 < en)) → z = false)) :
    Calls Tryz.prog 27 #[.agg #[.string nm, .slice ea en ec]] w (RetV w (.bool z)) := by
  have mx : en ≤ 9223372036854775807 := Nat.le_trans hm.cap hm.max
  have LN := Lib.hid (show es.length = en by have := hm.len; simpa using this)
  have HA := Lib.hid hm
  clear hm
  cases a with
  | false =>
    clear HL Z2 Z3 Z4
    go_enter Tryz.func27, Tryz.ntmps27
    go_upto_region 1 with (fail)
    have KB := blk_lit w 39 [.string nm, .slice ea en ec]
    have hb := below_box w (.cells #[.string nm, .slice ea en ec] 39)
    have sz : w.heap.size < (w.alloc (.cells #[.string nm, .slice ea en ec] 39)).heap.size := by simp
    generalize w.alloc (.cells #[.string nm, .slice ea en ec] 39) = W at *
    obtain ⟨_, x0, x1, _⟩ := KB.two
    go_wp2_with (go_at_call 54; refine (HP.out _).mono ?_; clear HP; rintro e w' ⟨rfl, hk⟩; replace hb := below_thru hb hk; replace KB := KB.below hk; clear hk x0 x1; obtain ⟨_, x0, x1, _⟩ := KB.two)
    go_wp2
    go_ret
    exact ⟨by rw [Z1.out (by first | rfl | trivial)]; rfl, hb⟩
  | true =>
  cases b with
  | false =>
    clear Z1 Z3 Z4
    go_enter Tryz.func27, Tryz.ntmps27
    go_upto_region 1 with (fail)
    have KB := blk_lit w 39 [.string nm, .slice ea en ec]
    have hb := below_box w (.cells #[.string nm, .slice ea en ec] 39)
    have sz : w.heap.size < (w.alloc (.cells #[.string nm, .slice ea en ec] 39)).heap.size := by simp
    generalize w.alloc (.cells #[.string nm, .slice ea en ec] 39) = W at *
    obtain ⟨_, x0, x1, _⟩ := KB.two
    go_wp2_with (go_at_call 54; refine (HP.out _).mono ?_; clear HP; rintro e w' ⟨rfl, hk⟩; replace hb := below_thru hb hk; replace KB := KB.below hk; clear hk x0 x1; obtain ⟨_, x0, x1, _⟩ := KB.two)
    go_wp2_with (go_at_call 55; refine (HL.out _ hb).mono ?_; clear HL; rintro e w2 ⟨rfl, hk⟩; replace hb := below_thru hb hk; replace KB := KB.below hk; clear hk x0 x1; obtain ⟨_, x0, x1, _⟩ := KB.two)
    go_wp2
    go_ret
    exact ⟨by rw [Z2.out (by first | rfl | trivial)]; rfl, hb⟩
  | true =>
    clear Z1 Z2
    go_enter Tryz.func27, Tryz.ntmps27
    go_upto_region 1 with (fail)
    have KB := blk_lit w 39 [.string nm, .slice ea en ec]
    have hb := below_box w (.cells #[.string nm, .slice ea en ec] 39)
    have sz : w.heap.size < (w.alloc (.cells #[.string nm, .slice ea en ec] 39)).heap.size := by simp
    generalize w.alloc (.cells #[.string nm, .slice ea en ec] 39) = W at *
    obtain ⟨_, x0, x1, _⟩ := KB.two
    go_wp2_with (go_at_call 54; refine (HP.out _).mono ?_; clear HP; rintro e w' ⟨rfl, hk⟩; replace hb := below_thru hb hk; replace KB := KB.below hk; clear hk x0 x1; obtain ⟨_, x0, x1, _⟩ := KB.two)
    go_wp2_with (go_at_call 55; refine (HL.out _ hb).mono ?_; clear HL; rintro e w2 ⟨rfl, hk⟩; replace hb := below_thru hb hk; replace KB := KB.below hk; clear hk x0 x1; obtain ⟨_, x0, x1, _⟩ := KB.two)
    go_wp2_with fail
    rename_i W1 _
    go_loopw [3, 4, 18] (fun v3 v4 v18 wr => ∃ k : Nat, k ≤ en ∧ v18 = .int .i64 k ∧ (∀ (j : Nat) (x : Er), j < k → es[j]? = some x → x.til = decide (j + 1 < en)) ∧ Blk wr w.heap.size [.string nm, .slice ea en ec] ∧ Below w.heap.size w wr) (fun _ _ v _ => en - (intOf v).toNat)
    case atStart => exact ⟨0, by omega, rfl, fun j x h => absurd h (by omega), KB, hb⟩
    case round =>
    clear KB hb x0 x1
    obtain ⟨k, hk, rfl, hR, KB, hbel⟩ := hrel
    have HR := Lib.hid hR
    clear hR
    obtain ⟨ltB, b0, b1, _⟩ := KB.two
    by_cases h4 : k < en
    · obtain ⟨x, hxx⟩ : ∃ x, es[k]? = some x := ⟨_, List.getElem?_eq_getElem (by rw [LN.out]; exact h4)⟩
      obtain ⟨g, o, ea0, hg, ca⟩ := (HA.out.below hbel).cells (by omega)
      subst ea0
      have STEP := Lib.hid (show x.til = decide (k + 1 < en) → ∀ (j : Nat) (y : Er), j < k + 1 → es[j]? = some y → y.til = decide (j + 1 < en) from fun h j y hj hy => by
        by_cases e : j = k
        · subst e; rw [hxx] at hy; cases hy; exact h
        · exact HR.out j y (by omega) hy)
      have BAD := Lib.hid (Z4.out k x hxx)
      have ra := row_at ca (show (es.map Er.vals)[k]? = some (Er.vals x) by rw [List.getElem?_map, hxx]; rfl)
      obtain ⟨off, kind, save, rls, fm, til, year, ⟨mo, ki, wd, da, ti, re⟩⟩ := x
      simp only at STEP BAD
      have x0 : wr.cell? ⟨g, o + k * 13, none⟩ = some (.int .i64 off) := ra 0 _ rfl
      have x1 : wr.cell? ⟨g, o + k * 13 + 1, none⟩ = some (.int .i64 kind) := ra 1 _ rfl
      have x2 : wr.cell? ⟨g, o + k * 13 + 2, none⟩ = some (.int .i64 save) := ra 2 _ rfl
      have x3 : wr.cell? ⟨g, o + k * 13 + 3, none⟩ = some (.string rls) := ra 3 _ rfl
      have x4 : wr.cell? ⟨g, o + k * 13 + 4, none⟩ = some (.string fm) := ra 4 _ rfl
      have x5 : wr.cell? ⟨g, o + k * 13 + 5, none⟩ = some (.bool til) := ra 5 _ rfl
      have x6 : wr.cell? ⟨g, o + k * 13 + 6, none⟩ = some (.int .i64 year) := ra 6 _ rfl
      have x7 : wr.cell? ⟨g, o + k * 13 + 7, none⟩ = some (.int .i64 mo) := ra 7 _ rfl
      have x8 : wr.cell? ⟨g, o + k * 13 + 8, none⟩ = some (.int .i64 ki) := ra 8 _ rfl
      have x9 : wr.cell? ⟨g, o + k * 13 + 9, none⟩ = some (.int .i64 wd) := ra 9 _ rfl
      have x10 : wr.cell? ⟨g, o + k * 13 + 10, none⟩ = some (.int .i64 da) := ra 10 _ rfl
      have x11 : wr.cell? ⟨g, o + k * 13 + 11, none⟩ = some (.int .i64 ti) := ra 11 _ rfl
      have x12 : wr.cell? ⟨g, o + k * 13 + 12, none⟩ = some (.int .i64 re) := ra 12 _ rfl
      clear ca ra hxx
      go_upto_region 6 with (fail)
      have KE := blk_lit wr 41 [.int .i64 off, .int .i64 kind, .int .i64 save, .string rls, .string fm, .bool til, .int .i64 year, .int .i64 mo, .int .i64 ki, .int .i64 wd, .int .i64 da, .int .i64 ti, .int .i64 re]
      have hk1 := below_box wr (.cells #[.int .i64 off, .int .i64 kind, .int .i64 save, .string rls, .string fm, .bool til, .int .i64 year, .int .i64 mo, .int .i64 ki, .int .i64 wd, .int .i64 da, .int .i64 ti, .int .i64 re] 41)
      replace hbel := below_thru hbel hk1
      replace KB := KB.below hk1
      generalize wr.alloc (.cells #[.int .i64 off, .int .i64 kind, .int .i64 save, .string rls, .string fm, .bool til, .int .i64 year, .int .i64 mo, .int .i64 ki, .int .i64 wd, .int .i64 da, .int .i64 ti, .int .i64 re] 41) = W at *
      generalize wr.heap.size = bb at *
      clear x0 x1 x2 x3 x4 x5 x6 x7 x8 x9 x10 x11 x12 hg hk1 b0 b1 ltB
      obtain ⟨y0, y1, y2, y3, y4, y5, y6, y7, y8, y9, y10, y11, y12⟩ := KE.thirteenC
      obtain ⟨_, b0, b1, _⟩ := KB.two
      have hs : IntKind.i64.wrap ((en : Int) - 1) = (en : Int) - 1 := IntWalk.i64_in _ (by omega)
      by_cases h5 : k + 1 < en
      · have d5 : decide ((k : Int) < (en : Int) - 1) = true := decide_eq_true (by omega)
        have ST2 := Lib.hid (fun h : til = true => STEP.out (by rw [h, decide_eq_true h5]))
        have BA2 := Lib.hid (fun h : til = false => BAD.out (by rw [h, decide_eq_true h5]; rfl))
        clear STEP BAD h5
        cases til with
        | true =>
          go_wp2_with fail
          go_roundw
          case rel => exact ⟨k + 1, by omega, int_eqS (by omega), ST2.out (by first | rfl | trivial), KB, hbel⟩
          case measure => simp only [intOf]; omega
        | false =>
          go_wp2_with fail
          go_ret
          exact ⟨by rw [BA2.out (by first | rfl | trivial)]; rfl, hbel⟩
      · have d5 : decide ((k : Int) < (en : Int) - 1) = false := decide_eq_false (by omega)
        have ST2 := Lib.hid (fun h : til = false => STEP.out (by rw [h, decide_eq_false h5]))
        have BA2 := Lib.hid (fun h : til = true => BAD.out (by rw [h, decide_eq_false h5]; rfl))
        clear STEP BAD h5
        cases til with
        | false =>
          go_wp2_with fail
          go_roundw
          case rel => exact ⟨k + 1, by omega, int_eqS (by omega), ST2.out (by first | rfl | trivial), KB, hbel⟩
          case measure => simp only [intOf]; omega
        | true =>
          go_wp2_with fail
          go_ret
          exact ⟨by rw [BA2.out (by first | rfl | trivial)]; rfl, hbel⟩
    · obtain rfl : k = en := by omega
      have Y := Lib.hid (Z3.out (by first | rfl | trivial) (by first | rfl | trivial) fun t x e => HR.out t x (by rw [← LN.out]; exact (List.getElem?_eq_some_iff.1 e).1) e)
      go_wp2
      go_ret
      exact ⟨by rw [Y.out]; rfl, hbel⟩
theorem rightZoneP (p : Ze) (hz : p.1.in64) (w : World) (hm : eraRows w p) : Calls Tryz.prog 27 #[.agg #[.string p.1.name, p.2.val]] w (RetV w (.bool (znOk p.1))) := by
  obtain ⟨⟨nm, es⟩, ⟨ea, en, ec⟩⟩ := p
  have hm' : Rs 13 w ea en ec (es.map Er.vals) := hm
  have le : es.length = en := by have := hm'.len; simpa using this
  refine rz_core nm es ea en ec w (placeB nm) (listB es 1 40 erOk) _ hm' (Lib.hid fun W => placeP nm hz.1 W)
    (Lib.hid fun W hb => listEraP 1 40 56 (enters_of Tryz.func56 (by kernel_rfl) rfl) erOk ea en ec es W (hm'.below hb) (fun x hx W' _ => rightEraP x (hz.2.2 x hx) W'))
    (Lib.hid fun h => zn_no fun k => ?_) (Lib.hid fun h => zn_no fun k => ?_) (Lib.hid fun h1 h2 h3 => zn_yes ?_) (Lib.hid fun t x e h => zn_no fun k => ?_)
  · have : placeB nm = true := k.1
    rw [h] at this; cases this
  · have : listB es 1 40 erOk = true := list_iff.2 ⟨by
      have := k.2.2.2
      cases es with
      | nil => exact this.elim
      | cons _ _ => simp; omega, by have : es.length ≤ 40 := k.2.1; omega, fun x hx => er_yes.2 (k.2.2.1 x hx)⟩
    rw [h] at this; cases this
  · obtain ⟨l1, l2, l3⟩ := list_iff.1 h2
    refine ⟨h1, by show es.length ≤ 40; omega, fun x hx => er_yes.1 (l3 x hx), tilC_of (fun c => ?_) (by rw [le]; exact h3)⟩
    have c' : es = [] := c
    rw [c'] at l1
    simp at l1
  · have := tilC_at k.2.2.2 t x e
    simp only at this
    rw [le, h] at this
    generalize decide (t + 1 < en) = q at this
    cases q <;> cases this
theorem rsrc_1 (A B C : Option Addr) (n c m d q e : Nat) (w : World)
    (H1 : Hid (∀ W, Below w.heap.size w W → Calls Tryz.prog 24 #[.slice A n c, .int .i64 0, .int .i64 200, .func (.func 25) #[] #[]] W (RetV W (.bool false)))) :
    Calls Tryz.prog 10 #[.agg #[.slice A n c, .slice B m d, .slice C q e]] w (RetV w (.bool false)) := by
  go_enter Tryz.func10, Tryz.ntmps10
  go_upto_region 1 with (fail)
  have KB := blk_lit w 26 [.slice A n c, .slice B m d, .slice C q e]
  have hb := below_box w (.cells #[.slice A n c, .slice B m d, .slice C q e] 26)
  generalize w.alloc (.cells #[.slice A n c, .slice B m d, .slice C q e] 26) = W at *
  obtain ⟨_, x0, x1, x2, _⟩ := KB.three
  go_wp2_with (go_at_call 24; refine (H1.out _ hb).mono ?_; clear H1; rintro e w2 ⟨rfl, hk⟩; replace hb := below_thru hb hk; replace KB := KB.below hk; clear hk x0 x1 x2; obtain ⟨_, x0, x1, x2, _⟩ := KB.three)
  go_wp2
  go_ret
  exact ⟨rfl, hb⟩
theorem rsrc_2 (A B C : Option Addr) (n c m d q e : Nat) (w : World)
    (H1 : Hid (∀ W, Below w.heap.size w W → Calls Tryz.prog 24 #[.slice A n c, .int .i64 0, .int .i64 200, .func (.func 25) #[] #[]] W (RetV W (.bool true)))) (H2 : Hid (∀ W, Below w.heap.size w W → Calls Tryz.prog 26 #[.slice B m d, .int .i64 0, .int .i64 50, .func (.func 27) #[] #[]] W (RetV W (.bool false)))) :
    Calls Tryz.prog 10 #[.agg #[.slice A n c, .slice B m d, .slice C q e]] w (RetV w (.bool false)) := by
  go_enter Tryz.func10, Tryz.ntmps10
  go_upto_region 1 with (fail)
  have KB := blk_lit w 26 [.slice A n c, .slice B m d, .slice C q e]
  have hb := below_box w (.cells #[.slice A n c, .slice B m d, .slice C q e] 26)
  generalize w.alloc (.cells #[.slice A n c, .slice B m d, .slice C q e] 26) = W at *
  obtain ⟨_, x0, x1, x2, _⟩ := KB.three
  go_wp2_with (go_at_call 24; refine (H1.out _ hb).mono ?_; clear H1; rintro e w2 ⟨rfl, hk⟩; replace hb := below_thru hb hk; replace KB := KB.below hk; clear hk x0 x1 x2; obtain ⟨_, x0, x1, x2, _⟩ := KB.three)
  go_wp2_with (go_at_call 26; refine (H2.out _ hb).mono ?_; clear H2; rintro e w2 ⟨rfl, hk⟩; replace hb := below_thru hb hk; replace KB := KB.below hk; clear hk x0 x1 x2; obtain ⟨_, x0, x1, x2, _⟩ := KB.three)
  go_wp2
  go_ret
  exact ⟨rfl, hb⟩
theorem rsrc_3 (A B C : Option Addr) (n c m d q e : Nat) (w : World) (f : Bool)
    (H1 : Hid (∀ W, Below w.heap.size w W → Calls Tryz.prog 24 #[.slice A n c, .int .i64 0, .int .i64 200, .func (.func 25) #[] #[]] W (RetV W (.bool true)))) (H2 : Hid (∀ W, Below w.heap.size w W → Calls Tryz.prog 26 #[.slice B m d, .int .i64 0, .int .i64 50, .func (.func 27) #[] #[]] W (RetV W (.bool true)))) (H3 : Hid (∀ W, Below w.heap.size w W → Calls Tryz.prog 28 #[.slice C q e, .int .i64 0, .int .i64 100, .func (.func 29) #[] #[]] W (RetV W (.bool f)))) :
    Calls Tryz.prog 10 #[.agg #[.slice A n c, .slice B m d, .slice C q e]] w (RetV w (.bool f)) := by
  go_enter Tryz.func10, Tryz.ntmps10
  go_upto_region 1 with (fail)
  have KB := blk_lit w 26 [.slice A n c, .slice B m d, .slice C q e]
  have hb := below_box w (.cells #[.slice A n c, .slice B m d, .slice C q e] 26)
  generalize w.alloc (.cells #[.slice A n c, .slice B m d, .slice C q e] 26) = W at *
  obtain ⟨_, x0, x1, x2, _⟩ := KB.three
  go_wp2_with (go_at_call 24; refine (H1.out _ hb).mono ?_; clear H1; rintro e w2 ⟨rfl, hk⟩; replace hb := below_thru hb hk; replace KB := KB.below hk; clear hk x0 x1 x2; obtain ⟨_, x0, x1, x2, _⟩ := KB.three)
  go_wp2_with (go_at_call 26; refine (H2.out _ hb).mono ?_; clear H2; rintro e w2 ⟨rfl, hk⟩; replace hb := below_thru hb hk; replace KB := KB.below hk; clear hk x0 x1 x2; obtain ⟨_, x0, x1, x2, _⟩ := KB.three)
  go_wp2_with (go_at_call 28; refine (H3.out _ hb).mono ?_; clear H3; rintro e w2 ⟨rfl, hk⟩; replace hb := below_thru hb hk; replace KB := KB.below hk; clear hk x0 x1 x2; obtain ⟨_, x0, x1, x2, _⟩ := KB.three)
  go_wp2
  go_ret
  exact ⟨rfl, hb⟩
theorem okSr_is (S : Sr) (ze : List Ze) (h : ze.map (·.1) = S.zones) : okSr S = (listB S.rules 0 200 rlOk && (listB ze 0 50 (fun p => znOk p.1) && listB S.links 0 100 lkOk)) := by
  rw [Bool.eq_iff_iff, Bool.and_eq_true, Bool.and_eq_true, list_iff, list_iff, list_iff]
  unfold okSr
  rw [@decide_eq_true_iff _ (Classical.propDecidable _)]
  have hl : ze.length = S.zones.length := by rw [← h, List.length_map]
  constructor
  · rintro ⟨k1, k2, k3, k4, k5, k6⟩
    exact ⟨⟨by omega, by omega, fun x hx => rl_iff.2 (k4 x hx)⟩, ⟨by omega, by omega, fun p hp => zn_iff.2 (k5 p.1 (by rw [← h]; exact List.mem_map.2 ⟨p, hp, rfl⟩))⟩, by omega, by omega, fun x hx => lk_iff.2 (k6 x hx)⟩
  · rintro ⟨⟨_, k1, k4⟩, ⟨_, k2, k5⟩, _, k3, k6⟩
    refine ⟨by omega, by omega, by omega, fun x hx => rl_iff.1 (k4 x hx), fun z hz => ?_, fun x hx => lk_iff.1 (k6 x hx)⟩
    rw [← h] at hz
    obtain ⟨p, hp, rfl⟩ := List.mem_map.1 hz
    exact zn_iff.1 (k5 p hp)
theorem rightSrcP (S : Sr) (a b c : Hd) (ze : List Ze) (w : World) (hv : SrcV w S a b c ze) (hx : S.in64) : Calls Tryz.prog 10 #[.agg #[a.val, b.val, c.val]] w (RetV w (.bool (okSr S))) := by
  obtain ⟨A, n, c1⟩ := a
  obtain ⟨B, m, d⟩ := b
  obtain ⟨C, q, e⟩ := c
  rw [okSr_is S ze hv.all]
  have h1 := fun (W : World) (hb : Below w.heap.size w W) => listRuleP 0 200 25 (enters_of Tryz.func25 (by kernel_rfl) rfl) rlOk A n c1 S.rules W (hv.below hb).rules (fun x hx' W' _ => rightRuleP x (hx.1 x hx') W')
  have h2 := fun (W : World) (hb : Below w.heap.size w W) => listZoneP 0 50 27 (enters_of Tryz.func27 (by kernel_rfl) rfl) (fun p => znOk p.1) B m d ze W (hv.below hb).zones (fun p hp W' hb' => rightZoneP p (hx.2.1 p.1 (by rw [← hv.all]; exact List.mem_map.2 ⟨p, hp, rfl⟩)) W' (((hv.below hb).eras p hp).below hb'))
  have h3 := fun (W : World) (hb : Below w.heap.size w W) => listLinkP 0 100 29 (enters_of Tryz.func29 (by kernel_rfl) rfl) lkOk C q e S.links W (hv.below hb).links (fun x hx' W' _ => rightLinkP x (hx.2.2 x hx') W')
  show Calls _ _ #[.agg #[.slice A n c1, .slice B m d, .slice C q e]] w _
  generalize listB S.rules 0 200 rlOk = k1 at *
  generalize listB ze 0 50 (fun p => znOk p.1) = k2 at *
  generalize listB S.links 0 100 lkOk = k3 at *
  cases k1 with
  | false => rw [Bool.false_and]; exact rsrc_1 A B C n c1 m d q e w (Lib.hid h1)
  | true =>
  rw [Bool.true_and]
  cases k2 with
  | false => rw [Bool.false_and]; exact rsrc_2 A B C n c1 m d q e w (Lib.hid h1) (Lib.hid h2)
  | true => rw [Bool.true_and]; exact rsrc_3 A B C n c1 m d q e w k3 (Lib.hid h1) (Lib.hid h2) (Lib.hid h3)
end Go.Proofs.YtmhpnmlgfdomkaaGreatDoor
