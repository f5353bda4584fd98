/- Stage 9's laws: the day and the moment of a spot. -/
import Derived.Test.YtipohfaapiiopaaDoorUalive
import Derived.Deep.RegionHeld3
import Derived.Outline
namespace Go.Proofs.YtipohfaapiiopaaDoor
open Go.RowKit
set_option maxRecDepth 100000 in
set_option maxHeartbeats 8000000 in
theorem daysL {full : Prop} {Q : World → Prop} (C : MomentP full Q) (x : Sp) (y : Int) (hx : x.in64) (hy : In64 y) (w : World) (L : Q w) :
    Calls Tryd.prog 7 #[x.val, .int .i64 y] w (RetV w (.bool true)) := by
  have AL := Lib.hid (alive9 C)
  have MO := Lib.hid C.mono
  have ON := Lib.hid (C.on x y hx hy)
  have LO := Lib.hid (C.local_ x y hx hy)
  have RO := Lib.hid (onR x y)
  have RL := Lib.hid (localR x y)
  clear C hx hy
  generalize onN x y = n at *
  generalize loN x y = t at *
  generalize decide (onOk x y) = ok at *
  obtain ⟨mo, ki, wd, da, ti, re⟩ := x
  unfold Sp.val at *
  dsimp only at *
  go_enter Tryd.func7, Tryd.ntmps7
  go_upto_region 1 with (fail)
  have KB := ((BK.nil w).more6 (.int .i64 (mo)) (.int .i64 (ki)) (.int .i64 (wd)) (.int .i64 (da)) (.int .i64 (ti)) (.int .i64 (re)) 36)
  generalize (w.alloc (.cells #[.int .i64 (mo), .int .i64 (ki), .int .i64 (wd), .int .i64 (da), .int .i64 (ti), .int .i64 (re)] 36)) = w0 at *
  obtain ⟨_, q0a, q0b, q0c, q0d, q0e, q0f, _⟩ := (KB.head).six
  go_wp2_with fail
  clear q0a q0b q0c q0d q0e q0f
  refine (ON.out _ (MO.out _ _ L KB.hb)).mono ?_
  rintro e w1 ⟨rfl, k⟩
  replace KB := KB.below k
  clear k
  obtain ⟨_, q0a, q0b, q0c, q0d, q0e, q0f, _⟩ := (KB.head).six
  go_wp2_with fail
  clear q0a q0b q0c q0d q0e q0f
  refine (RO.out _).mono ?_
  rintro e w1 ⟨rfl, k⟩
  replace KB := KB.below k
  clear k
  obtain ⟨_, q0a, q0b, q0c, q0d, q0e, q0f, _⟩ := (KB.head).six
  go_wp2_with fail
  clear q0a q0b q0c q0d q0e q0f
  refine (LO.out _ (MO.out _ _ L KB.hb)).mono ?_
  rintro e w1 ⟨rfl, k⟩
  replace KB := KB.below k
  clear k
  obtain ⟨_, q0a, q0b, q0c, q0d, q0e, q0f, _⟩ := (KB.head).six
  go_wp2_with fail
  clear q0a q0b q0c q0d q0e q0f
  refine (RL.out _).mono ?_
  rintro e w1 ⟨rfl, k⟩
  replace KB := KB.below k
  clear k
  go_wp2_with fail
  refine (AL.out _ (MO.out _ _ L KB.hb)).mono ?_
  rintro e w1 ⟨rfl, k⟩
  replace KB := KB.below k
  clear k
  have HB := KB.hb
  cases ok
  all_goals
    go_wp2
    go_ret
    exact ⟨rfl, HB⟩
end Go.Proofs.YtipohfaapiiopaaDoor
