/- Stage 9's laws: package moment is alive. -/
import Derived.Test.YtipohfaapiiopaaDoorUspec
namespace Go.Proofs.YtipohfaapiiopaaDoor
open Go.RowKit

def oct3 : List ByteArray := [⟨#[111, 99, 116]⟩, ⟨#[108, 97, 115, 116, 83, 117, 110]⟩, ⟨#[49, 58, 48, 48, 117]⟩]
theorem oct_size : ∀ (i : Nat) (h : i < oct3.length), i < 3 → oct3[i].size ≤ 1000 := fun i h _ => (by decide : ∀ x ∈ oct3, x.size ≤ 1000) _ (List.getElem_mem h)
set_option maxRecDepth 100000 in
set_option maxHeartbeats 8000000 in
theorem alive9 {full : Prop} {Q : World → Prop} (C : MomentP full Q) (w : World) (L : Q w) : Calls Tryd.prog 14 #[] w (RetV w (.bool true)) := by
  have MO := Lib.hid C.mono
  have CK := Lib.hid (fun W (L : Q W) => (am1 ▸ C.clock _ (by decide) W L : Calls Tryd.prog 15 #[.string ⟨#[50, 58, 48, 48, 115]⟩] W (RetNNE W (7200, 1, 0))))
  have PA := Lib.hid (fun (A : Option Addr) (n c : Nat) W (ha : Ss W A n c oct3) (L : Q W) => C.parse6 am2 A n c W ha oct_size L)
  have ON := Lib.hid (fun W (L : Q W) => (am4 ▸ am3 ▸ C.on ⟨10, 1, 7, 0, 3600, 2⟩ 2021 (by unfold Sp.in64 In64; decide) (by unfold In64; decide) W L : Calls Tryd.prog 28 #[.agg #[.int .i64 10, .int .i64 1, .int .i64 7, .int .i64 0, .int .i64 3600, .int .i64 2], .int .i64 2021] W (RetNumB W 18931 true)))
  clear C
  go_enter Tryd.func14, Tryd.ntmps14
  go_wp2_with fail
  refine (CK.out _ L).mono ?_
  rintro e w1 ⟨rfl, hb⟩
  have L1 := MO.out _ _ L hb
  have sz := hb.size
  go_wp2_with fail
  refine (PA.out _ _ _ _ (Ss.lit w1 oct3 _ (by decide) (by decide)) (MO.out _ _ L1 (below_box _ _))).mono ?_
  rintro e w2 ⟨rfl, k⟩
  have L2 := MO.out _ _ (MO.out _ _ L1 (below_box _ _)) k
  replace hb := below_next (below_next hb (below_box _ _)) k
  clear k L1
  go_upto_region 3 with (fail)
  have L3 := MO.out _ _ L2 (below_box w2 (.cells #[.int .i64 10, .int .i64 1, .int .i64 7, .int .i64 0, .int .i64 3600, .int .i64 2] 36))
  replace hb := below_next hb (below_box w2 (.cells #[.int .i64 10, .int .i64 1, .int .i64 7, .int .i64 0, .int .i64 3600, .int .i64 2] 36))
  have c6 := Blk.new6 w2 (.int .i64 10) (.int .i64 1) (.int .i64 7) (.int .i64 0) (.int .i64 3600) (.int .i64 2) 36
  generalize hg : w2.heap.size = g at *
  generalize w2.alloc (.cells #[.int .i64 10, .int .i64 1, .int .i64 7, .int .i64 0, .int .i64 3600, .int .i64 2] 36) = w3 at *
  clear hg L2
  obtain ⟨_, qa, qb, qc, qd, qe, qf, _⟩ := c6.six
  go_wp2_with fail
  refine (ON.out _ L3).mono ?_
  rintro e w4 ⟨rfl, k⟩
  replace hb := below_next hb k
  clear qa qb qc qd qe qf
  replace c6 := c6.below k
  clear k
  obtain ⟨_, qa, qb, qc, qd, qe, qf, _⟩ := c6.six
  go_wp2
  go_ret
  exact ⟨rfl, hb⟩
end Go.Proofs.YtipohfaapiiopaaDoor
