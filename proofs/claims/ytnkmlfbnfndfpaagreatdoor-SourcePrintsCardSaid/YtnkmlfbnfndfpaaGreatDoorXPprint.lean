/- Package source: Print; all that it answers. -/
import Derived.Test.YtnkmlfbnfndfpaaGreatDoorXGp
import Derived.Test.YtnkmlfbnfndfpaaGreatDoorXSrcok
set_option maxRecDepth 100000
set_option maxHeartbeats 64000000
namespace Go.Proofs.YtnkmlfbnfndfpaaGreatDoor
open Go.RowKit
theorem psr_0 (A B C : Option Addr) (n c m d q e : Nat) (w : World)
    (HR : Hid (∀ W, Below w.heap.size w W → Calls Tryz.prog 16 #[.agg #[.slice A n c, .slice B m d, .slice C q e]] W (RetV W (.bool false)))) :
    Calls Tryz.prog 14 #[.agg #[.slice A n c, .slice B m d, .slice C q e]] w (RetTE w (⟨#[]⟩, 1)) := by
  go_enter Tryz.func14, Tryz.ntmps14
  go_upto_region 1 with (fail)
  have KB := blk_lit w 26 [.slice A n c, .slice B m d, .slice C q e]
  have hb := below_box w (.cells #[.slice A n c, .slice B m d, .slice C q e] 26)
  rw [show ([.slice A n c, .slice B m d, .slice C q e] : List Value).toArray = #[.slice A n c, .slice B m d, .slice C q e] from rfl] at KB
  generalize w.alloc (.cells #[.slice A n c, .slice B m d, .slice C q e] 26) = W at *
  obtain ⟨_, x0, x1, x2, _⟩ := KB.three
  go_wp2_with first
    | (go_at_call 16; refine (HR.out _ hb).mono ?_; clear HR; rintro e w2 ⟨rfl, hk⟩; replace hb := below_thru hb hk; replace KB := KB.below hk; clear hk x0 x1 x2; obtain ⟨_, x0, x1, x2, _⟩ := KB.three)
  go_ret2
  exact ⟨rfl, hb⟩
theorem psr_1 (A B C : Option Addr) (n c m d q e : Nat) (w : World) (M : MomP w)
    (HR : Hid (∀ W, Below w.heap.size w W → Calls Tryz.prog 16 #[.agg #[.slice A n c, .slice B m d, .slice C q e]] W (RetV W (.bool true))))
    (t : ByteArray) (HW : Hid (∀ W, Below w.heap.size w W → MomP W → Calls Tryz.prog 26 #[.agg #[.slice A n c, .slice B m d, .slice C q e]] W (RetV W (.string t)))) (z : decide (100000 < (t.size : Int)) = true) :
    Calls Tryz.prog 14 #[.agg #[.slice A n c, .slice B m d, .slice C q e]] w (RetTE w (⟨#[]⟩, 12)) := by
  go_enter Tryz.func14, Tryz.ntmps14
  go_upto_region 1 with (fail)
  have KB := blk_lit w 26 [.slice A n c, .slice B m d, .slice C q e]
  have hb := below_box w (.cells #[.slice A n c, .slice B m d, .slice C q e] 26)
  rw [show ([.slice A n c, .slice B m d, .slice C q e] : List Value).toArray = #[.slice A n c, .slice B m d, .slice C q e] from rfl] at KB
  generalize w.alloc (.cells #[.slice A n c, .slice B m d, .slice C q e] 26) = W at *
  obtain ⟨_, x0, x1, x2, _⟩ := KB.three
  go_wp2_with first
    | (go_at_call 16; refine (HR.out _ hb).mono ?_; clear HR; rintro e w2 ⟨rfl, hk⟩; replace hb := below_thru hb hk; replace KB := KB.below hk; clear hk x0 x1 x2; obtain ⟨_, x0, x1, x2, _⟩ := KB.three)
    | (go_at_call 26; refine (HW.out _ hb (M.mono hb)).mono ?_; clear HW; rintro e w2 ⟨rfl, hk⟩; replace hb := below_thru hb hk; replace KB := KB.below hk; clear hk x0 x1 x2; obtain ⟨_, x0, x1, x2, _⟩ := KB.three)
  go_ret2
  exact ⟨rfl, hb⟩
theorem psr_2 (A B C : Option Addr) (n c m d q e : Nat) (w : World) (M : MomP w)
    (HR : Hid (∀ W, Below w.heap.size w W → Calls Tryz.prog 16 #[.agg #[.slice A n c, .slice B m d, .slice C q e]] W (RetV W (.bool true))))
    (t : ByteArray) (HW : Hid (∀ W, Below w.heap.size w W → MomP W → Calls Tryz.prog 26 #[.agg #[.slice A n c, .slice B m d, .slice C q e]] W (RetV W (.string t)))) (z : decide (100000 < (t.size : Int)) = false) :
    Calls Tryz.prog 14 #[.agg #[.slice A n c, .slice B m d, .slice C q e]] w (RetTE w (t, 0)) := by
  go_enter Tryz.func14, Tryz.ntmps14
  go_upto_region 1 with (fail)
  have KB := blk_lit w 26 [.slice A n c, .slice B m d, .slice C q e]
  have hb := below_box w (.cells #[.slice A n c, .slice B m d, .slice C q e] 26)
  rw [show ([.slice A n c, .slice B m d, .slice C q e] : List Value).toArray = #[.slice A n c, .slice B m d, .slice C q e] from rfl] at KB
  generalize w.alloc (.cells #[.slice A n c, .slice B m d, .slice C q e] 26) = W at *
  obtain ⟨_, x0, x1, x2, _⟩ := KB.three
  go_wp2_with first
    | (go_at_call 16; refine (HR.out _ hb).mono ?_; clear HR; rintro e w2 ⟨rfl, hk⟩; replace hb := below_thru hb hk; replace KB := KB.below hk; clear hk x0 x1 x2; obtain ⟨_, x0, x1, x2, _⟩ := KB.three)
    | (go_at_call 26; refine (HW.out _ hb (M.mono hb)).mono ?_; clear HW; rintro e w2 ⟨rfl, hk⟩; replace hb := below_thru hb hk; replace KB := KB.below hk; clear hk x0 x1 x2; obtain ⟨_, x0, x1, x2, _⟩ := KB.three)
  go_ret2
  exact ⟨rfl, hb⟩
theorem printSrcP (S : Sr) (a b c : Hd) (ze : List Ze) (w : World) (hv : SrcV w S a b c ze) (hx : S.in64) (M : MomP w) : Calls Tryz.prog 14 #[.agg #[a.val, b.val, c.val]] w (RetTE w (printRes S)) := by
  obtain ⟨A, n, c1⟩ := a
  obtain ⟨B, m, d⟩ := b
  obtain ⟨C, q, e⟩ := c
  have hr := fun (W : World) (hb : Below w.heap.size w W) => rightSrcP S ⟨A, n, c1⟩ ⟨B, m, d⟩ ⟨C, q, e⟩ ze W (hv.below hb) hx
  unfold printRes
  cases ok : okSr S with
  | false =>
    rw [ok] at hr
    rw [if_neg (by decide)]
    exact psr_0 A B C n c1 m d q e w (Lib.hid hr)
  | true =>
    rw [ok] at hr
    have OK : S.ok := by
      unfold okSr at ok
      exact @of_decide_eq_true _ (Classical.propDecidable _) ok
    have hw := fun (W : World) (hb : Below w.heap.size w W) (M : MomP W) => written_core S (Lib.hid OK) (Lib.hid hx) A B C n c1 m d q e ze W (hv.below hb) M
    rw [if_pos rfl]
    by_cases z : 100000 < (srcText S).size
    · rw [if_pos z]
      exact psr_1 A B C n c1 m d q e w M (Lib.hid hr) _ (Lib.hid hw) (decide_eq_true (by omega))
    · rw [if_neg z]
      exact psr_2 A B C n c1 m d q e w M (Lib.hid hr) _ (Lib.hid hw) (decide_eq_false (by omega))
structure SrcP (w : World) : Prop where
  mom : MomP w
  errs : Errs w
theorem SrcP.q {w : World} (h : SrcP w) : SrcQ w := ⟨h.mom.mom, h.errs⟩
theorem sourceP : SourceP SrcP where
  mono := fun _ _ h hb => ⟨h.mom.mono hb, h.errs.mono hb⟩
  parse := fun s hs W h => parseSrcP s hs W h.mom.mom h.errs
  set_ := fun s hs W h => sourceR.set_ s hs W h.q
  place := fun s hs W h => sourceR.place s hs W h.q
  right := fun S a b c ze W hv hx _ => rightSrcP S a b c ze W hv hx
  print := fun S a b c ze W hv hx h => printSrcP S a b c ze W hv hx h.mom
end Go.Proofs.YtnkmlfbnfndfpaaGreatDoor
