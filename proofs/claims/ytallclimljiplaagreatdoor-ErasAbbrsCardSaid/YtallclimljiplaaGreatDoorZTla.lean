/- Stage 12's law ErasAbbrs. -/
import Derived.Test.YtallclimljiplaaGreatDoorZGtd
set_option maxRecDepth 100000
set_option maxHeartbeats 64000000
namespace Go.Proofs.YtallclimljiplaaGreatDoor
open Go.RowKit
theorem la_f {Q : World → Prop} (MO : Hid (∀ (w W : World), Q w → Below w.heap.size w W → Q W)) (AL : Hid (∀ W, Q W → Calls Tryz.prog 9 #[] W (RetV W (.bool true)))) (w : World) (LQ : Q w) (f l : ByteArray) (off save : Int) (h1 : decide ((f.size : Int) > 1000) = true)  : Calls Tryz.prog 3 #[.string f, .string l, .int .i64 off, .int .i64 save] w (RetV w (.bool true)) := by
  have hb := Below.refl w.heap.size w
  go_enter Tryz.func3, Tryz.ntmps3
  go_wp2_with (first | (go_at_call 9; refine (AL.out _ (MO.out _ _ LQ hb)).mono ?_; rintro e9 W1 ⟨rfl, hk⟩; replace hb := below_thru hb hk; clear hk))
  go_ret
  exact ⟨rfl, hb⟩
theorem la_l {Q : World → Prop} (MO : Hid (∀ (w W : World), Q w → Below w.heap.size w W → Q W)) (AL : Hid (∀ W, Q W → Calls Tryz.prog 9 #[] W (RetV W (.bool true)))) (w : World) (LQ : Q w) (f l : ByteArray) (off save : Int) (h1 : decide ((f.size : Int) > 1000) = false) (h2 : decide ((l.size : Int) > 1000) = true)  : Calls Tryz.prog 3 #[.string f, .string l, .int .i64 off, .int .i64 save] w (RetV w (.bool true)) := by
  have hb := Below.refl w.heap.size w
  go_enter Tryz.func3, Tryz.ntmps3
  go_wp2_with (first | (go_at_call 9; refine (AL.out _ (MO.out _ _ LQ hb)).mono ?_; rintro e9 W1 ⟨rfl, hk⟩; replace hb := below_thru hb hk; clear hk))
  go_ret
  exact ⟨rfl, hb⟩
theorem la_y {Q : World → Prop} (MO : Hid (∀ (w W : World), Q w → Below w.heap.size w W → Q W)) (AL : Hid (∀ W, Q W → Calls Tryz.prog 9 #[] W (RetV W (.bool true)))) (w : World) (LQ : Q w) (f l : ByteArray) (off save : Int) (h1 : decide ((f.size : Int) > 1000) = false) (h2 : decide ((l.size : Int) > 1000) = false) (t : ByteArray) (_s : (t.toList == t.toList) = true) (C1 : Hid (∀ W, Q W → Calls Tryz.prog 10 #[.string f, .string l, .int .i64 off, .int .i64 save] W (RetV W (.string t)))) (C2 : Hid (∀ W, Calls Tryz.prog 11 #[.string f, .string l, .int .i64 off, .int .i64 save] W (RetV W (.string t)))) : Calls Tryz.prog 3 #[.string f, .string l, .int .i64 off, .int .i64 save] w (RetV w (.bool true)) := by
  have hb := Below.refl w.heap.size w
  go_enter Tryz.func3, Tryz.ntmps3
  go_wp2_with (first | (go_at_call 9; refine (AL.out _ (MO.out _ _ LQ hb)).mono ?_; rintro e9 W1 ⟨rfl, hk⟩; replace hb := below_thru hb hk; clear hk) | (go_at_call 10; refine (C1.out _ (MO.out _ _ LQ hb)).mono ?_; rintro e9 W2 ⟨rfl, hk⟩; replace hb := below_thru hb hk; clear hk) | (go_at_call 11; refine (C2.out _).mono ?_; rintro e9 W3 ⟨rfl, hk⟩; replace hb := below_thru hb hk; clear hk))
  go_ret
  exact ⟨rfl, hb⟩
theorem abbrsL12 {Q : World → Prop} (C : ErasQ Q) (f l : ByteArray) (off save : Int) (_hf : f.size ≤ maxLen) (_hl : l.size ≤ maxLen) (ho : In64 off) (_hs : In64 save) (w : World) (LQ : Q w) : Calls Tryz.prog 3 #[.string f, .string l, .int .i64 off, .int .i64 save] w (RetV w (.bool true)) := by
  have MO := Lib.hid C.mono
  have AL := Lib.hid (fun W q => alive12 C W q)
  by_cases h1 : f.size > 1000
  · exact la_f MO AL w LQ f l off save (decide_eq_true (by omega))
  · by_cases h2 : l.size > 1000
    · exact la_l MO AL w LQ f l off save (decide_eq_false (by omega)) (decide_eq_true (by omega))
    · exact la_y MO AL w LQ f l off save (decide_eq_false (by omega)) (decide_eq_false (by omega)) _ (by simp) (Lib.hid fun W q => C.abbr f l (by omega) (by omega) off save ho W q) (Lib.hid fun W => abbr12 f l (by omega) (by omega) off save ho.1 ho.2 W)
end Go.Proofs.YtallclimljiplaaGreatDoor
