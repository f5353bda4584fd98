/- The document's answer of layer 5: the number of a year's first day, and of a date. -/
import Derived.Test.YtmmgppfopojnlaaDoorCrefa
import Derived.Test.YtmmgppfopojnlaaDoorGa
import Derived.BigQuiet
import Derived.Deep.QuietTactic
namespace Go.Proofs.YtmmgppfopojnlaaDoor
open Go.RowKit

theorem jan_bound {y : Int} (h1 : -300000 ≤ y) (h2 : y ≤ 300000) : -200000000 ≤ jan y ∧ jan y ≤ 200000000 := by unfold jan; omega
theorem janR (y : Int) (h1 : -290000 ≤ y) (h2 : y ≤ 290000) (w : World) :
    Calls Tryd.prog 36 #[.int .i64 y] w (fun e w' => e = .returned (.int .i64 (jan y)) ∧ w = w') := by
  have D := Lib.hid (fun W => down400 y (by omega) (by omega) W)
  obtain ⟨c, hc⟩ : ∃ c : Int, c = y / 400 := ⟨_, rfl⟩
  rw [← hc] at D
  have c1 : 400 * c ≤ y := by omega
  have c2 : y - 400 * c ≤ 400 := by omega
  have c3 : -1000 ≤ c := by omega
  have c4 : c ≤ 1000 := by omega
  have J := Lib.hid (jan_cycle c)
  have Y := Lib.hid (fun k W => lenYR k W)
  clear hc
  go_enter Tryd.func36, Tryd.ntmps36
  go_wp2_with (go_at_call 38; refine (D.out _).mono ?_; rintro e w' ⟨rfl, rfl⟩)
  go_loop [4, 5] (fun v4 v5 => ∃ k : Int, 400 * c ≤ k ∧ k ≤ y ∧ v4 = .int .i64 (jan k) ∧ v5 = .int .i64 k) (fun _ v5 => (y - intOf v5).toNat)
  case atStart => exact ⟨400 * c, by omega, by omega, by rw [J.out], rfl⟩
  case round =>
    obtain ⟨k, k1, k2, rfl, rfl⟩ := hrel
    have jb := jan_bound (y := k) (by omega) (by omega)
    have lb := lenY_range k
    have S := Lib.hid (jan_succ k)
    by_cases hk : k < y
    · generalize jan k = jk at *
      have YK := Lib.hid (fun W => Y.out k W)
      generalize lenY k = lk at *
      go_wp2_with (go_at_call 39; refine (YK.out _).mono ?_; rintro e w' ⟨rfl, rfl⟩)
      go_round
      case rel => exact ⟨k + 1, by omega, by omega, by rw [S.out], rfl⟩
      case measure => simp [intOf]; omega
    · have e : k = y := by omega
      subst e
      clear S Y
      go_wp2
      go_ret
      exact ⟨rfl, rfl⟩
end Go.Proofs.YtmmgppfopojnlaaDoor
