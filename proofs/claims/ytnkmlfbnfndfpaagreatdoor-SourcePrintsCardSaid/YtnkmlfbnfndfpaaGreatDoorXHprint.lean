/- Stage 10's laws: whether a tree may be, its text or its refusal. -/
import Derived.Test.YtnkmlfbnfndfpaaGreatDoorXHprd
import Derived.Test.YtnkmlfbnfndfpaaGreatDoorXHalive
import Derived.Test.YtnkmlfbnfndfpaaGreatDoorXHgreat
set_option maxRecDepth 100000
set_option maxHeartbeats 64000000
namespace Go.Proofs.YtnkmlfbnfndfpaaGreatDoor
open Go.RowKit
theorem src_cells3 {w X : World} {F : World → Prop} {A B C : Option Addr} {n c m d q e : Nat} (h : StF w [.slice A n c, .slice B m d, .slice C q e] F X) : X.cell? ⟨w.heap.size, 0, none⟩ = some (.slice A n c) ∧ X.cell? ⟨w.heap.size, 1, none⟩ = some (.slice B m d) ∧ X.cell? ⟨w.heap.size, 2, none⟩ = some (.slice C q e) := by
  obtain ⟨_, x0, x1, x2, _⟩ := h.b.three
  exact ⟨x0, x1, x2⟩
theorem prints_core {Q : World → Prop} (MO : MonoF Q) (S : Sr) (A B C : Option Addr) (n c m d q e : Nat) (ze : List Ze) (t : ByteArray) (x : Int) (b : Bool) (w : World) (hv : SrcV w S ⟨A, n, c⟩ ⟨B, m, d⟩ ⟨C, q, e⟩ ze) (L : Q w)
    (AL : Hid (∀ W, Q W → Calls Tryz.prog 11 #[] W (RetV W (.bool true))))
    (GR : Hid (∀ W, SrcV W S ⟨A, n, c⟩ ⟨B, m, d⟩ ⟨C, q, e⟩ ze → Calls Tryz.prog 13 #[.agg #[.slice A n c, .slice B m d, .slice C q e]] W (RetAny W)))
    (PS : Hid (∀ W, SrcV W S ⟨A, n, c⟩ ⟨B, m, d⟩ ⟨C, q, e⟩ ze → Q W → Calls Tryz.prog 14 #[.agg #[.slice A n c, .slice B m d, .slice C q e]] W (RetTE W (t, x))))
    (PD : Hid (∀ W, SrcV W S ⟨A, n, c⟩ ⟨B, m, d⟩ ⟨C, q, e⟩ ze → Calls Tryz.prog 15 #[.agg #[.slice A n c, .slice B m d, .slice C q e]] W (RetTE W (t, x))))
    (RS : Hid (∀ W, SrcV W S ⟨A, n, c⟩ ⟨B, m, d⟩ ⟨C, q, e⟩ ze → Q W → Calls Tryz.prog 16 #[.agg #[.slice A n c, .slice B m d, .slice C q e]] W (RetV W (.bool b))))
    (RD : Hid (∀ W, SrcV W S ⟨A, n, c⟩ ⟨B, m, d⟩ ⟨C, q, e⟩ ze → Calls Tryz.prog 17 #[.agg #[.slice A n c, .slice B m d, .slice C q e]] W (RetV W (.bool b)))) :
    Calls Tryz.prog 4 #[.agg #[.slice A n c, .slice B m d, .slice C q e]] w (RetV w (.bool true)) := by
  have mf : MonoF (fun X => Q X ∧ SrcV X S ⟨A, n, c⟩ ⟨B, m, d⟩ ⟨C, q, e⟩ ze) := fun X X' h k => ⟨MO X X' h.1 k, h.2.below k⟩
  go_enter Tryz.func4, Tryz.ntmps4
  go_upto_region 1 with (fail)
  have k0 := below_box w (.cells #[.slice A n c, .slice B m d, .slice C q e] 26)
  have HW : StF w [.slice A n c, .slice B m d, .slice C q e] (fun X => Q X ∧ SrcV X S ⟨A, n, c⟩ ⟨B, m, d⟩ ⟨C, q, e⟩ ze) (w.alloc (.cells #[.slice A n c, .slice B m d, .slice C q e] 26)) := ⟨mf, blk_lit w 26 [.slice A n c, .slice B m d, .slice C q e], k0, MO _ _ L k0, hv.below k0⟩
  generalize w.alloc (.cells #[.slice A n c, .slice B m d, .slice C q e] 26) = W0 at *
  clear k0 hv L mf MO
  obtain ⟨x0, x1, x2⟩ := src_cells3 HW
  go_wp2_with fail
  refine (GR.out _ HW.f.2).mono ?_
  clear GR
  rintro e' w1 ⟨bb, rfl, hk⟩
  replace HW := HW.below hk
  clear hk x0 x1 x2
  obtain ⟨x0, x1, x2⟩ := src_cells3 HW
  cases bb with
  | true =>
    go_wp2_with (go_at_call 11; refine (AL.out _ HW.f.1).mono ?_; rintro e w9 ⟨rfl, h9⟩)
    go_ret
    exact ⟨rfl, below_thru HW.hb h9⟩
  | false =>
    go_wp2_with first
      | (go_at_call 14; refine (PS.out _ HW.f.2 HW.f.1).mono ?_; clear PS; rintro e w9 ⟨rfl, hk⟩; replace HW := HW.below hk; clear hk x0 x1 x2; obtain ⟨x0, x1, x2⟩ := src_cells3 HW)
      | (go_at_call 15; refine (PD.out _ HW.f.2).mono ?_; clear PD; rintro e w9 ⟨rfl, hk⟩; replace HW := HW.below hk; clear hk x0 x1 x2; obtain ⟨x0, x1, x2⟩ := src_cells3 HW)
    go_region_held3 (fun w' => w'.cell? ⟨w.heap.size, 0, none⟩ = some (.slice A n c) ∧ w'.cell? ⟨w.heap.size, 1, none⟩ = some (.slice B m d) ∧ w'.cell? ⟨w.heap.size, 2, none⟩ = some (.slice C q e)) (first | (with_reducible exact src_cells3 HW) | (with_reducible exact src_cells3 HW.drew) | go_keep)
      (first
      | (go_at_call 11; (with_reducible refine (AL.out _ (by first | with_reducible exact HW.f.1 | with_reducible exact HW.drew.f.1)).mono ?_); rintro e9 W9 ⟨rfl, hk⟩
         with_reducible (first | replace HW := StF.below HW hk | replace HW := StF.below HW.drew hk)
         clear hk)
      | (go_at_call 16; (with_reducible refine (RS.out _ (by first | with_reducible exact HW.f.2 | with_reducible exact HW.drew.f.2) (by first | with_reducible exact HW.f.1 | with_reducible exact HW.drew.f.1)).mono ?_); rintro e9 W9 ⟨rfl, hk⟩
         with_reducible (first | replace HW := StF.below HW hk | replace HW := StF.below HW.drew hk)
         clear hk)
      | (go_at_call 17; (with_reducible refine (RD.out _ (by first | with_reducible exact HW.f.2 | with_reducible exact HW.drew.f.2)).mono ?_); rintro e9 W9 ⟨rfl, hk⟩
         with_reducible (first | replace HW := StF.below HW hk | replace HW := StF.below HW.drew hk)
         clear hk))
    all_goals
      go_wp2_with fail
      go_ret
      exact ⟨by simp, HW.hb⟩
theorem sPrintsL {Q : World → Prop} (C : SourceP Q) (S : Sr) (a b c : Hd) (ze : List Ze) (w : World) (hS : SrcV w S a b c ze) (hi : S.in64) (L : Q w) :
    Calls Tryz.prog 4 #[.agg #[a.val, b.val, c.val]] w (RetV w (.bool true)) := by
  obtain ⟨A, n, c1⟩ := a
  obtain ⟨B, m, d⟩ := b
  obtain ⟨D, q, e⟩ := c
  have h3 := fun (W : World) (h : SrcV W S ⟨A, n, c1⟩ ⟨B, m, d⟩ ⟨D, q, e⟩ ze) (L : Q W) => C.print S _ _ _ ze W h hi L
  have h4 := fun (W : World) (h : SrcV W S ⟨A, n, c1⟩ ⟨B, m, d⟩ ⟨D, q, e⟩ ze) => printDR S _ _ _ ze W h hi
  have h5 := fun (W : World) (h : SrcV W S ⟨A, n, c1⟩ ⟨B, m, d⟩ ⟨D, q, e⟩ ze) (L : Q W) => C.right S _ _ _ ze W h hi L
  have h6 := fun (W : World) (h : SrcV W S ⟨A, n, c1⟩ ⟨B, m, d⟩ ⟨D, q, e⟩ ze) => rightDR S _ _ _ ze W h hi
  have h2 := fun (W : World) (h : SrcV W S ⟨A, n, c1⟩ ⟨B, m, d⟩ ⟨D, q, e⟩ ze) => greatA S _ _ _ ze W h
  have h1 := fun (W : World) (L : Q W) => alive10 C.toReadP W L
  have h0 : MonoF Q := fun X X' h k => C.mono X X' h k
  simp only [Hd.val] at h2 h3 h4 h5 h6 ⊢
  clear C hi
  generalize okSr S = b0 at *
  generalize printRes S = r at *
  obtain ⟨t, x⟩ := r
  exact prints_core h0 S A B D n c1 m d q e ze t x b0 w hS L (Lib.hid h1) (Lib.hid h2) (Lib.hid h3) (Lib.hid h4) (Lib.hid h5) (Lib.hid h6)
end Go.Proofs.YtnkmlfbnfndfpaaGreatDoor
