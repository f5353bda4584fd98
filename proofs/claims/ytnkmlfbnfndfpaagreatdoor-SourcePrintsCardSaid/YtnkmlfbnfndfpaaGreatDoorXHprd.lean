/- The document's answer of layer 10: may a source be, and its text or its refusal. -/
import Derived.Test.YtnkmlfbnfndfpaaGreatDoorXHtext
import Derived.Test.YtnkmlfbnfndfpaaGreatDoorXHbnd
set_option maxRecDepth 100000
set_option maxHeartbeats 64000000
namespace Go.Proofs.YtnkmlfbnfndfpaaGreatDoor
open Go.RowKit
theorem prd_r (A B C : Option Addr) (n c m d q e : Nat) (w : World) (b : Bool)
    (H1 : Hid (∀ W, Below w.heap.size w W → Calls Tryz.prog 34 #[.agg #[.slice A n c, .slice B m d, .slice C q e]] W (RetV W (.bool b)))) :
    Calls Tryz.prog 17 #[.agg #[.slice A n c, .slice B m d, .slice C q e]] w (RetV w (.bool b)) := by
  go_enter Tryz.func17, Tryz.ntmps17
  go_upto_region 1 with (fail)
  have KB := blk_lit w 26 [.slice A n c, .slice B m d, .slice C q e]
  have hb := below_box w (.cells #[.slice A n c, .slice B m d, .slice C q e] 26)
  rw [show ([.slice A n c, .slice B m d, .slice C q e] : List Value).toArray = #[.slice A n c, .slice B m d, .slice C q e] from rfl] at KB
  generalize w.alloc (.cells #[.slice A n c, .slice B m d, .slice C q e] 26) = W at *
  obtain ⟨_, x0, x1, x2, _⟩ := KB.three
  go_wp2_with first
    | (go_at_call 34; refine (H1.out _ hb).mono ?_; clear H1; rintro e w2 ⟨rfl, hk⟩; replace hb := below_thru hb hk; replace KB := KB.below hk; clear hk x0 x1 x2; obtain ⟨_, x0, x1, x2, _⟩ := KB.three)
  go_ret
  exact ⟨rfl, hb⟩
theorem prd_0 (A B C : Option Addr) (n c m d q e : Nat) (w : World)
    (H1 : Hid (∀ W, Below w.heap.size w W → Calls Tryz.prog 17 #[.agg #[.slice A n c, .slice B m d, .slice C q e]] W (RetV W (.bool false)))) :
    Calls Tryz.prog 15 #[.agg #[.slice A n c, .slice B m d, .slice C q e]] w (RetTE w (⟨#[]⟩, 1)) := by
  go_enter Tryz.func15, Tryz.ntmps15
  go_upto_region 1 with (fail)
  have KB := blk_lit w 26 [.slice A n c, .slice B m d, .slice C q e]
  have hb := below_box w (.cells #[.slice A n c, .slice B m d, .slice C q e] 26)
  rw [show ([.slice A n c, .slice B m d, .slice C q e] : List Value).toArray = #[.slice A n c, .slice B m d, .slice C q e] from rfl] at KB
  generalize w.alloc (.cells #[.slice A n c, .slice B m d, .slice C q e] 26) = W at *
  obtain ⟨_, x0, x1, x2, _⟩ := KB.three
  go_wp2_with first
    | (go_at_call 17; refine (H1.out _ hb).mono ?_; clear H1; rintro e w2 ⟨rfl, hk⟩; replace hb := below_thru hb hk; replace KB := KB.below hk; clear hk x0 x1 x2; obtain ⟨_, x0, x1, x2, _⟩ := KB.three)
  go_ret2
  exact ⟨rfl, hb⟩
theorem prd_1 (A B C : Option Addr) (n c m d q e : Nat) (w : World)
    (H1 : Hid (∀ W, Below w.heap.size w W → Calls Tryz.prog 17 #[.agg #[.slice A n c, .slice B m d, .slice C q e]] W (RetV W (.bool true))))
    (t : ByteArray) (H2 : Hid (∀ W, Below w.heap.size w W → Calls Tryz.prog 27 #[.agg #[.slice A n c, .slice B m d, .slice C q e]] W (RetV W (.string t)))) (z : decide (100000 < (t.size : Int)) = true) :
    Calls Tryz.prog 15 #[.agg #[.slice A n c, .slice B m d, .slice C q e]] w (RetTE w (⟨#[]⟩, 12)) := by
  go_enter Tryz.func15, Tryz.ntmps15
  go_upto_region 1 with (fail)
  have KB := blk_lit w 26 [.slice A n c, .slice B m d, .slice C q e]
  have hb := below_box w (.cells #[.slice A n c, .slice B m d, .slice C q e] 26)
  rw [show ([.slice A n c, .slice B m d, .slice C q e] : List Value).toArray = #[.slice A n c, .slice B m d, .slice C q e] from rfl] at KB
  generalize w.alloc (.cells #[.slice A n c, .slice B m d, .slice C q e] 26) = W at *
  obtain ⟨_, x0, x1, x2, _⟩ := KB.three
  go_wp2_with first
    | (go_at_call 17; refine (H1.out _ hb).mono ?_; clear H1; rintro e w2 ⟨rfl, hk⟩; replace hb := below_thru hb hk; replace KB := KB.below hk; clear hk x0 x1 x2; obtain ⟨_, x0, x1, x2, _⟩ := KB.three)
    | (go_at_call 27; refine (H2.out _ hb).mono ?_; clear H2; rintro e w2 ⟨rfl, hk⟩; replace hb := below_thru hb hk; replace KB := KB.below hk; clear hk x0 x1 x2; obtain ⟨_, x0, x1, x2, _⟩ := KB.three)
  go_ret2
  exact ⟨rfl, hb⟩
theorem prd_2 (A B C : Option Addr) (n c m d q e : Nat) (w : World)
    (H1 : Hid (∀ W, Below w.heap.size w W → Calls Tryz.prog 17 #[.agg #[.slice A n c, .slice B m d, .slice C q e]] W (RetV W (.bool true))))
    (t : ByteArray) (H2 : Hid (∀ W, Below w.heap.size w W → Calls Tryz.prog 27 #[.agg #[.slice A n c, .slice B m d, .slice C q e]] W (RetV W (.string t)))) (z : decide (100000 < (t.size : Int)) = false) :
    Calls Tryz.prog 15 #[.agg #[.slice A n c, .slice B m d, .slice C q e]] w (RetTE w (t, 0)) := by
  go_enter Tryz.func15, Tryz.ntmps15
  go_upto_region 1 with (fail)
  have KB := blk_lit w 26 [.slice A n c, .slice B m d, .slice C q e]
  have hb := below_box w (.cells #[.slice A n c, .slice B m d, .slice C q e] 26)
  rw [show ([.slice A n c, .slice B m d, .slice C q e] : List Value).toArray = #[.slice A n c, .slice B m d, .slice C q e] from rfl] at KB
  generalize w.alloc (.cells #[.slice A n c, .slice B m d, .slice C q e] 26) = W at *
  obtain ⟨_, x0, x1, x2, _⟩ := KB.three
  go_wp2_with first
    | (go_at_call 17; refine (H1.out _ hb).mono ?_; clear H1; rintro e w2 ⟨rfl, hk⟩; replace hb := below_thru hb hk; replace KB := KB.below hk; clear hk x0 x1 x2; obtain ⟨_, x0, x1, x2, _⟩ := KB.three)
    | (go_at_call 27; refine (H2.out _ hb).mono ?_; clear H2; rintro e w2 ⟨rfl, hk⟩; replace hb := below_thru hb hk; replace KB := KB.below hk; clear hk x0 x1 x2; obtain ⟨_, x0, x1, x2, _⟩ := KB.three)
  go_ret2
  exact ⟨rfl, hb⟩
theorem rightDR (S : Sr) (a b c : Hd) (ze : List Ze) (w : World) (hv : SrcV w S a b c ze) (hx : S.in64) : Calls Tryz.prog 17 #[.agg #[a.val, b.val, c.val]] w (RetV w (.bool (okSr S))) := by
  obtain ⟨A, n, c1⟩ := a
  obtain ⟨B, m, d⟩ := b
  obtain ⟨C, q, e⟩ := c
  exact prd_r A B C n c1 m d q e w _ (Lib.hid fun W hb => boundedR S hx ⟨A, n, c1⟩ ⟨B, m, d⟩ ⟨C, q, e⟩ ze W (hv.below hb))
theorem printDR (S : Sr) (a b c : Hd) (ze : List Ze) (w : World) (hv : SrcV w S a b c ze) (hx : S.in64) : Calls Tryz.prog 15 #[.agg #[a.val, b.val, c.val]] w (RetTE w (printRes S)) := by
  have hr := fun (W : World) (hb : Below w.heap.size w W) => rightDR S a b c ze W (hv.below hb) hx
  obtain ⟨A, n, c1⟩ := a
  obtain ⟨B, m, d⟩ := b
  obtain ⟨C, q, e⟩ := c
  unfold printRes
  cases ok : okSr S with
  | false =>
    rw [ok] at hr
    rw [if_neg (by decide)]
    exact prd_0 A B C n c1 m d q e w (Lib.hid hr)
  | true =>
    rw [ok] at hr
    have hw := fun (W : World) (hb : Below w.heap.size w W) => text_core S (Lib.hid (okSr_of ok)) A B C n c1 m d q e ze W (hv.below hb)
    rw [if_pos rfl]
    by_cases z : 100000 < (srcText S).size
    · rw [if_pos z]
      exact prd_1 A B C n c1 m d q e w (Lib.hid hr) _ (Lib.hid hw) (decide_eq_true (by omega))
    · rw [if_neg z]
      exact prd_2 A B C n c1 m d q e w (Lib.hid hr) _ (Lib.hid hw) (decide_eq_false (by omega))
end Go.Proofs.YtnkmlfbnfndfpaaGreatDoor
