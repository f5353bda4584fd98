/- The document's answer of layer 7, whole. -/
import Derived.Test.YtlidicnbmfkghaaGreatDoorXref
import Derived.Test.YtlidicnbmfkghaaGreatDoorGs
namespace Go.Proofs.YtlidicnbmfkghaaGreatDoor
open Go.RowKit

theorem rightXR (y m d h i s n : Int) (w : World) : Calls Tryz.prog 11 #[.agg #[.int .i64 (y), .int .i64 (m), .int .i64 (d), .int .i64 (h), .int .i64 (i), .int .i64 (s), .int .i64 (n)]] w (RetV w (.bool (decide (okX y m d h i s n)))) := by
  by_cases kd : okD y m d
  · have DA := Lib.hid fun W => daysR_is kd W
    by_cases kt : okT h i s n
    · have RT := Lib.hid fun W => rightT_yes kt W
      have iff := okX_first kd kt
      by_cases f : numD y m d = -100000001
      · have hN : (numD y m d != -100000001) = false := by rw [bne_eq_false_iff_eq]; exact f
        by_cases z : h = 0 ∧ i = 0 ∧ s = 0 ∧ n = 0
        · rw [decide_eq_false (fun k => iff.1 k ⟨f, (time_zero kt).2 z⟩)]
          obtain ⟨rfl, rfl, rfl, rfl⟩ := z
          exact rightX_none y m d _ hN DA RT w
        · rw [decide_eq_true (iff.2 fun k => z ((time_zero kt).1 k.2))]
          by_cases z0 : h = 0
          · subst z0
            by_cases z1 : i = 0
            · subst z1
              by_cases z2 : s = 0
              · subst z2
                exact rightX_first_n y m d n _ hN (by rw [beq_eq_false_iff_ne]; exact fun e => z ⟨rfl, rfl, rfl, e⟩) DA RT w
              · exact rightX_first_s y m d s n _ hN (by rw [beq_eq_false_iff_ne]; exact z2) DA RT w
            · exact rightX_first_i y m d i s n _ hN (by rw [beq_eq_false_iff_ne]; exact z1) DA RT w
          · exact rightX_first_h y m d h i s n _ hN (by rw [beq_eq_false_iff_ne]; exact z0) DA RT w
      · rw [decide_eq_true (iff.2 fun k => f k.1)]
        exact rightX_yes y m d h i s n _ (by rw [bne_iff_ne]; exact f) DA RT w
    · rw [decide_eq_false (fun k => kt k.2.1)]
      exact rightX_time y m d h i s n _ DA (Lib.hid fun W => rightT_no kt W) w
  · rw [decide_eq_false (fun k => kd k.1)]
    exact rightX_date y m d h i s n _ (Lib.hid fun W => daysR_none kd W) w
theorem rightXR_is {y m d h i s n : Int} (k : okX y m d h i s n) (W : World) : Calls Tryz.prog 11 #[.agg #[.int .i64 (y), .int .i64 (m), .int .i64 (d), .int .i64 (h), .int .i64 (i), .int .i64 (s), .int .i64 (n)]] W (fun e w' => e = .returned (.bool true) ∧ Below W.heap.size W w') := by
  have c := rightXR y m d h i s n W
  rwa [decide_eq_true k] at c
theorem rightXR_none {y m d h i s n : Int} (k : ¬ okX y m d h i s n) (W : World) : Calls Tryz.prog 11 #[.agg #[.int .i64 (y), .int .i64 (m), .int .i64 (d), .int .i64 (h), .int .i64 (i), .int .i64 (s), .int .i64 (n)]] W (fun e w' => e = .returned (.bool false) ∧ Below W.heap.size W w') := by
  have c := rightXR y m d h i s n W
  rwa [decide_eq_false k] at c
theorem inW_X {N : Int} (lo : -20000000000000000000000 ≤ N) (hi : N ≤ 20000000000000000000000) : InW N := by unfold InW two127; omega
theorem add_smallX {x a : Int} (x0 : -8640000086400000000000 < x) (x1 : x < 8640000086400000000000) (ha : InW a) : (x + a).natAbs < 65536 ^ 9 := by
  have := abs_w ha
  exact small_2w (by omega)
/-- what a date-time's number becomes -/
def rndX (y m d h i s n ic mo : Int) : Int := numD y m d * 86400000000000 + rndT (numT h i s n) ic mo
/-- an increment and a mode that may be -/
def incOk (ic mo : Int) : Prop := 1 ≤ ic ∧ ic ≤ 86400000000000 ∧ (86400000000000 : Int) % ic = 0 ∧ 1 ≤ mo ∧ mo ≤ 9
instance (ic mo : Int) : Decidable (incOk ic mo) := by unfold incOk; infer_instance
theorem incOk_not {h m s n ic mo : Int} (k : ¬ incOk ic mo) : ¬ okT h m s n ∨ ic < 1 ∨ 86400000000000 < ic ∨ (86400000000000 : Int) % ic ≠ 0 ∨ mo < 1 ∨ 9 < mo := by
  apply Classical.byContradiction
  intro c
  refine k ⟨?_, ?_, ?_, ?_, ?_⟩
  all_goals apply Classical.byContradiction; intro g
  · exact c (.inr (.inl (by omega)))
  · exact c (.inr (.inr (.inl (by omega))))
  · exact c (.inr (.inr (.inr (.inl g))))
  · exact c (.inr (.inr (.inr (.inr (.inl (by omega))))))
  · exact c (.inr (.inr (.inr (.inr (.inr (by omega))))))
/-- Round of a time answers something -/
theorem roundT_some (h m s n ic mo : Int) : ∃ t0 t1 t2 t3 k e : Int, ∀ W, Calls Tryz.prog 10 #[.agg #[.int .i64 (h), .int .i64 (m), .int .i64 (s), .int .i64 (n)], .int .i64 ic, .int .i64 mo] W (RetTNE W t0 t1 t2 t3 k e) := by
  by_cases g : okT h m s n ∧ incOk ic mo
  · obtain ⟨k, g1, g2, g3, g4, g5⟩ := g
    by_cases e : rndT (numT h m s n) ic mo = 86400000000000
    · exact ⟨_, _, _, _, _, _, fun W => roundTR_day k (by omega) (by omega) g3 g4 g5 e W⟩
    · have r := numT_range k
      have q := rnd_range (mo := mo) r.1 r.2 (by omega) g3
      obtain ⟨x0, x1, x2, x3, hx, ex⟩ := time_of (n := rndT (numT h m s n) ic mo) q.1 (by omega)
      exact ⟨_, _, _, _, _, _, fun W => roundTR k (by omega) (by omega) g3 g4 g5 hx ex W⟩
  · refine ⟨_, _, _, _, _, _, fun W => roundTR_bad ?_ W⟩
    by_cases k : okT h m s n
    · exact incOk_not fun c => g ⟨k, c⟩
    · exact .inl k
theorem roundXR_bad {y m d h i s n ic mo : Int} (b : ¬ okX y m d h i s n ∨ ¬ incOk ic mo) (w : World) : Calls Tryz.prog 5 #[.agg #[.int .i64 (y), .int .i64 (m), .int .i64 (d), .int .i64 (h), .int .i64 (i), .int .i64 (s), .int .i64 (n)], .int .i64 ic, .int .i64 mo] w (RetXE w 0 0 0 0 0 0 0 1) := by
  by_cases k : okX y m d h i s n
  · have g : ¬ incOk ic mo := by
      rcases b with b | b
      · exact absurd k b
      · exact b
    exact roundX_arg y m d h i s n ic mo _ _ _ _ _ _ (Lib.hid fun W => roundTR_bad (incOk_not g) W) (by decide) (Lib.hid fun W => rightXR_is k W) w
  · obtain ⟨t0, t1, t2, t3, q, e, RT⟩ := roundT_some h i s n ic mo
    exact roundX_bad y m d h i s n ic mo t0 t1 t2 t3 q e (Lib.hid RT) (Lib.hid fun W => rightXR_none k W) w
theorem roundXR_over {y m d h i s n ic mo : Int} (k : okX y m d h i s n) (g : incOk ic mo) (b : rndX y m d h i s n ic mo ≤ -8640000086400000000000 ∨ 8640000086400000000000 ≤ rndX y m d h i s n ic mo) (w : World) :
    Calls Tryz.prog 5 #[.agg #[.int .i64 (y), .int .i64 (m), .int .i64 (d), .int .i64 (h), .int .i64 (i), .int .i64 (s), .int .i64 (n)], .int .i64 ic, .int .i64 mo] w (RetXE w 0 0 0 0 0 0 0 4) := by
  obtain ⟨g1, g2, g3, g4, g5⟩ := g
  have RI := Lib.hid fun W => rightXR_is k W
  obtain ⟨kd, kt, lo⟩ := k
  have r := numT_range kt
  have q := rnd_range (mo := mo) r.1 r.2 (by omega) g3
  have dr := kd.2
  have eX : rndX y m d h i s n ic mo = numD y m d * 86400000000000 + rndT (numT h i s n) ic mo := rfl
  by_cases e : rndT (numT h i s n) ic mo = 86400000000000
  · refine roundX_over y m d h i s n ic mo _ _ _ _ _ 0 0 0 4 (Lib.hid fun W => roundTR_day kt (by omega) (by omega) g3 g4 g5 e W) RI (Lib.hid fun W => addR_over kd (by omega) W) (by decide) w
  · obtain ⟨x0, x1, x2, x3, hx, ex⟩ := time_of (n := rndT (numT h i s n) ic mo) q.1 (by omega)
    have no : ¬ okX y m d x0 x1 x2 x3 := fun c => by
      have cr := numX_range c
      have ec : numX y m d x0 x1 x2 x3 = numD y m d * 86400000000000 + numT x0 x1 x2 x3 := rfl
      omega
    exact roundX_none y m d h i s n ic mo _ _ _ _ _ y m d (Lib.hid fun W => roundTR kt (by omega) (by omega) g3 g4 g5 hx ex W) RI (Lib.hid fun W => addR kd kd (by omega) W) (Lib.hid fun W => rightXR_none no W) w
theorem roundXR {y m d h i s n ic mo u0 u1 u2 u3 u4 u5 u6 : Int} (k : okX y m d h i s n) (g : incOk ic mo) (ku : okX u0 u1 u2 u3 u4 u5 u6) (eu : numX u0 u1 u2 u3 u4 u5 u6 = rndX y m d h i s n ic mo) (w : World) :
    Calls Tryz.prog 5 #[.agg #[.int .i64 (y), .int .i64 (m), .int .i64 (d), .int .i64 (h), .int .i64 (i), .int .i64 (s), .int .i64 (n)], .int .i64 ic, .int .i64 mo] w (RetXE w u0 u1 u2 u3 u4 u5 u6 0) := by
  obtain ⟨g1, g2, g3, g4, g5⟩ := g
  have RI := Lib.hid fun W => rightXR_is k W
  have RU := Lib.hid fun W => rightXR_is ku W
  obtain ⟨kd, kt, lo⟩ := k
  have r := numT_range kt
  have q := rnd_range (mo := mo) r.1 r.2 (by omega) g3
  have ur := numT_range ku.2.1
  have eX : rndX y m d h i s n ic mo = numD y m d * 86400000000000 + rndT (numT h i s n) ic mo := rfl
  have eU : numX u0 u1 u2 u3 u4 u5 u6 = numD u0 u1 u2 * 86400000000000 + numT u3 u4 u5 u6 := rfl
  by_cases e : rndT (numT h i s n) ic mo = 86400000000000
  · obtain ⟨z1, z2, z3, z4⟩ := (time_zero ku.2.1).1 (by omega)
    subst z1 z2 z3 z4
    exact roundX_yes y m d h i s n ic mo _ _ _ _ _ u0 u1 u2 (Lib.hid fun W => roundTR_day kt (by omega) (by omega) g3 g4 g5 e W) RI (Lib.hid fun W => addR kd ku.1 (by omega) W) RU w
  · obtain ⟨rfl, rfl, rfl⟩ := num_inj kd.1 ku.1.1 (by omega)
    exact roundX_yes y m d h i s n ic mo _ _ _ _ _ y m d (Lib.hid fun W => roundTR kt (by omega) (by omega) g3 g4 g5 ku.2.1 (by omega) W) RI (Lib.hid fun W => addR kd kd (by omega) W) RU w
/-- which of two date-times is ahead -/
def cmpX (y m d h i s n y' m' d' h' i' s' n' : Int) : Int := if y = y' ∧ m = m' ∧ d = d' then cmpT h i s n h' i' s' n' else cmpD y m d y' m' d'
end Go.Proofs.YtlidicnbmfkghaaGreatDoor
