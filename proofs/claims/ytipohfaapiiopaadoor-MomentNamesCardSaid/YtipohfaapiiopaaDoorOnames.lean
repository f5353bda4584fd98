/- Stage 9's laws: names of months and weekdays. -/
import Derived.Test.YtipohfaapiiopaaDoorUalive
namespace Go.Proofs.YtipohfaapiiopaaDoor
open Go.RowKit
set_option maxRecDepth 100000 in
set_option maxHeartbeats 8000000 in
theorem namesL {full : Prop} {Q : World → Prop} (C : MomentP full Q) (s : ByteArray) (hs : s.size ≤ maxLen) (w : World) (L : Q w) : Calls Tryd.prog 3 #[.string s] w (RetV w (.bool true)) := by
  have MO := Lib.hid C.mono
  have AL := Lib.hid (alive9 C)
  have MN := Lib.hid (C.month s hs)
  have WN := Lib.hid (C.weekday s hs)
  have RM := Lib.hid (mnR s hs)
  have RW := Lib.hid (wnR s hs)
  clear C
  generalize (monthN s : Int) = m at *
  generalize (dayN s : Int) = d at *
  clear hs
  go_enter Tryd.func3, Tryd.ntmps3
  go_wp2_with fail
  refine (MN.out _ L).mono ?_
  rintro e w1 ⟨rfl, hb⟩
  have L1 := MO.out _ _ L hb
  go_wp2_with fail
  refine (WN.out _ L1).mono ?_
  rintro e w2 ⟨rfl, k⟩
  replace L1 := MO.out _ _ L1 k
  replace hb := below_next hb k
  clear k
  go_wp2_with fail
  refine (RM.out _).mono ?_
  rintro e w3 ⟨rfl, k⟩
  replace L1 := MO.out _ _ L1 k
  replace hb := below_next hb k
  clear k
  go_wp2_with fail
  refine (RW.out _).mono ?_
  rintro e w4 ⟨rfl, k⟩
  replace L1 := MO.out _ _ L1 k
  replace hb := below_next hb k
  clear k
  go_wp2_with fail
  refine (AL.out _ L1).mono ?_
  rintro e w5 ⟨rfl, k⟩
  replace hb := below_next hb k
  clear k
  go_wp2
  go_ret
  exact ⟨rfl, hb⟩
end Go.Proofs.YtipohfaapiiopaaDoor
