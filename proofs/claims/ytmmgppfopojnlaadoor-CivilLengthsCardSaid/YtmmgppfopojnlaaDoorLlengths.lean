/- The walk of CivilLengths: at any year and any month it returns true; what was there is as it was. -/
import Derived.Test.YtmmgppfopojnlaaDoorEalive
import Derived.Deep.RegionHeld3
namespace Go.Proofs.YtmmgppfopojnlaaDoor
open Go.RowKit

set_option maxRecDepth 100000 in
set_option maxHeartbeats 8000000 in
theorem lengths_core (y m l : Int) (b : Bool) (L1 : Hid (∀ W, Lens W → Calls Tryd.prog 16 #[.int .i64 y] W (fun o w' => o = .returned (.bool b) ∧ W = w'))) (L2 : Hid (∀ W, Lens W → Calls Tryd.prog 17 #[.int .i64 y] W (fun o w' => o = .returned (.bool b) ∧ W = w'))) (M1 : Hid (∀ W, Lens W → Calls Tryd.prog 18 #[.int .i64 y, .int .i64 m] W (fun o w' => o = .returned (.int .i64 (l)) ∧ W = w'))) (M2 : Hid (∀ W, Lens W → Calls Tryd.prog 19 #[.int .i64 y, .int .i64 m] W (fun o w' => o = .returned (.int .i64 (l)) ∧ W = w'))) (AL : Hid (∀ W, Lens W → Calls Tryd.prog 14 #[] W (fun o w' => o = .returned (.bool true) ∧ Below W.heap.size W w'))) (w : World) (L : Lens w) :
    Calls Tryd.prog 4 #[.int .i64 y, .int .i64 m] w (RetV w (.bool true)) := by
  have KB := BK.nil w
  go_enter Tryd.func4, Tryd.ntmps4
  go_wp2_with fail
  refine (AL.out _ (L.mono KB.hb)).mono ?_
  rintro e w1 ⟨rfl, k⟩
  replace KB := KB.below k
  clear k
  go_wp2_with fail
  refine (L1.out _ (L.mono KB.hb)).mono ?_
  rintro e _w ⟨rfl, rfl⟩
  go_wp2_with fail
  refine (L2.out _ (L.mono KB.hb)).mono ?_
  rintro e _w ⟨rfl, rfl⟩
  go_wp2_with fail
  refine (M1.out _ (L.mono KB.hb)).mono ?_
  rintro e _w ⟨rfl, rfl⟩
  go_wp2_with fail
  refine (M2.out _ (L.mono KB.hb)).mono ?_
  rintro e _w ⟨rfl, rfl⟩
  have HB := KB.hb
  go_wp2
  go_ret
  exact ⟨rfl, HB⟩
theorem civilLengths_walk (y m : Int) (_ : In64 y) (_ : In64 m) (w : World) (L : Lens w) : Calls Tryd.prog 4 #[.int .i64 y, .int .i64 m] w (RetV w (.bool true)) :=
  lengths_core y m _ _ (Lib.hid fun W _ => leapP y W) (Lib.hid fun W _ => leapR y W) (Lib.hid fun W l => mlenP y m W l) (Lib.hid fun W _ => monthR y m W) (Lib.hid alive5) w L
end Go.Proofs.YtmmgppfopojnlaaDoor
