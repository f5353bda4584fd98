/- The walk of CivilAdds: at any two dates and any number it returns true; what was there is as it was. -/
import Derived.Test.YtmmgppfopojnlaaDoorEalive
import Derived.Deep.RegionHeld3
namespace Go.Proofs.YtmmgppfopojnlaaDoor
open Go.RowKit

set_option maxRecDepth 100000 in
set_option maxHeartbeats 8000000 in
theorem adds_core (y m d a y' m' d' x0 x1 x2 n c : Int) (A1 : Hid (∀ W, Lens W → Calls Tryd.prog 28 #[.agg #[.int .i64 y, .int .i64 m, .int .i64 d], .int .i64 a] W (fun o w' => o = .returned (.tuple #[.agg #[.int .i64 x0, .int .i64 x1, .int .i64 x2], .int .i64 n]) ∧ Below W.heap.size W w'))) (A2 : Hid (∀ W, Lens W → Calls Tryd.prog 29 #[.agg #[.int .i64 y, .int .i64 m, .int .i64 d], .int .i64 a] W (fun o w' => o = .returned (.tuple #[.agg #[.int .i64 x0, .int .i64 x1, .int .i64 x2], .int .i64 n]) ∧ Below W.heap.size W w'))) (C1 : Hid (∀ W, Lens W → Calls Tryd.prog 30 #[.agg #[.int .i64 y, .int .i64 m, .int .i64 d], .agg #[.int .i64 y', .int .i64 m', .int .i64 d']] W (fun o w' => o = .returned (.int .i64 (c)) ∧ Below W.heap.size W w'))) (C2 : Hid (∀ W, Lens W → Calls Tryd.prog 31 #[.agg #[.int .i64 y, .int .i64 m, .int .i64 d], .agg #[.int .i64 y', .int .i64 m', .int .i64 d']] W (fun o w' => o = .returned (.int .i64 (c)) ∧ Below W.heap.size W w'))) (AL : Hid (∀ W, Lens W → Calls Tryd.prog 14 #[] W (fun o w' => o = .returned (.bool true) ∧ Below W.heap.size W w'))) (w : World) (L : Lens w) :
    Calls Tryd.prog 7 #[.agg #[.int .i64 y, .int .i64 m, .int .i64 d], .int .i64 a, .agg #[.int .i64 y', .int .i64 m', .int .i64 d']] w (RetV w (.bool true)) := by
  go_enter Tryd.func7, Tryd.ntmps7
  go_wp2_with fail
  have KB := (((BK.nil w).more3 (.int .i64 y) (.int .i64 m) (.int .i64 d) 23).more3 (.int .i64 y') (.int .i64 m') (.int .i64 d') 23)
  simp only [World.size_alloc] at KB
  generalize ((w.alloc (.cells #[.int .i64 y, .int .i64 m, .int .i64 d] 23)).alloc (.cells #[.int .i64 y', .int .i64 m', .int .i64 d'] 23)) = w0 at *
  refine (A1.out _ (L.mono KB.hb)).mono ?_
  rintro e w1 ⟨rfl, k⟩
  replace KB := KB.below k
  clear k
  go_upto_region 2 with (fail)
  have hlg := KB.head.lt
  replace KB := KB.more3 (.int .i64 (x0)) (.int .i64 (x1)) (.int .i64 (x2)) 23
  generalize w1.alloc (.cells #[.int .i64 (x0), .int .i64 (x1), .int .i64 (x2)] 23) = w2 at *
  have ig0 : w1.heap.size ≠ w.heap.size + 1 := by omega
  have og0 := Ne.symm ig0
  have ig1 : w1.heap.size ≠ w.heap.size := by omega
  have og1 := Ne.symm ig1
  generalize w1.heap.size = g at *
  obtain ⟨_, a0, a1, a2, _⟩ := (KB.tail.tail.head).three
  go_wp2_with fail
  clear a0 a1 a2
  refine (A2.out _ (L.mono KB.hb)).mono ?_
  rintro e w3 ⟨rfl, k⟩
  replace KB := KB.below k
  clear k
  go_upto_region 3 with (fail)
  have hlh := KB.head.lt
  replace KB := KB.more3 (.int .i64 (x0)) (.int .i64 (x1)) (.int .i64 (x2)) 23
  generalize w3.alloc (.cells #[.int .i64 (x0), .int .i64 (x1), .int .i64 (x2)] 23) = w4 at *
  have ih0 : w3.heap.size ≠ g := by omega
  have oh0 := Ne.symm ih0
  have ih1 : w3.heap.size ≠ w.heap.size + 1 := by omega
  have oh1 := Ne.symm ih1
  have ih2 : w3.heap.size ≠ w.heap.size := by omega
  have oh2 := Ne.symm ih2
  generalize w3.heap.size = h at *
  obtain ⟨_, ja0, jb0, jc0, _⟩ := (KB.head).three
  obtain ⟨_, ja1, jb1, jc1, _⟩ := (KB.tail.head).three
  obtain ⟨_, ja2, jb2, jc2, _⟩ := (KB.tail.tail.head).three
  obtain ⟨_, ja3, jb3, jc3, _⟩ := (KB.tail.tail.tail.head).three
  go_region_held3 (fun w' => w'.cell? ⟨h, 0, none⟩ = some (.int .i64 (x0)) ∧ w'.cell? ⟨h, 1, none⟩ = some (.int .i64 (x1)) ∧ w'.cell? ⟨h, 2, none⟩ = some (.int .i64 (x2)) ∧ w'.cell? ⟨g, 0, none⟩ = some (.int .i64 (x0)) ∧ w'.cell? ⟨g, 1, none⟩ = some (.int .i64 (x1)) ∧ w'.cell? ⟨g, 2, none⟩ = some (.int .i64 (x2)) ∧ w'.cell? ⟨w.heap.size + 1, 0, none⟩ = some (.int .i64 (y')) ∧ w'.cell? ⟨w.heap.size + 1, 1, none⟩ = some (.int .i64 (m')) ∧ w'.cell? ⟨w.heap.size + 1, 2, none⟩ = some (.int .i64 (d')) ∧ w'.cell? ⟨w.heap.size, 0, none⟩ = some (.int .i64 (y)) ∧ w'.cell? ⟨w.heap.size, 1, none⟩ = some (.int .i64 (m)) ∧ w'.cell? ⟨w.heap.size, 2, none⟩ = some (.int .i64 (d))) (first | (with_reducible exact ⟨(KB.head).three.2.1, (KB.head).three.2.2.1, (KB.head).three.2.2.2.1, (KB.tail.head).three.2.1, (KB.tail.head).three.2.2.1, (KB.tail.head).three.2.2.2.1, (KB.tail.tail.head).three.2.1, (KB.tail.tail.head).three.2.2.1, (KB.tail.tail.head).three.2.2.2.1, (KB.tail.tail.tail.head).three.2.1, (KB.tail.tail.tail.head).three.2.2.1, (KB.tail.tail.tail.head).three.2.2.2.1⟩) | (with_reducible exact ⟨(KB.drew.head).three.2.1, (KB.drew.head).three.2.2.1, (KB.drew.head).three.2.2.2.1, (KB.drew.tail.head).three.2.1, (KB.drew.tail.head).three.2.2.1, (KB.drew.tail.head).three.2.2.2.1, (KB.drew.tail.tail.head).three.2.1, (KB.drew.tail.tail.head).three.2.2.1, (KB.drew.tail.tail.head).three.2.2.2.1, (KB.drew.tail.tail.tail.head).three.2.1, (KB.drew.tail.tail.tail.head).three.2.2.1, (KB.drew.tail.tail.tail.head).three.2.2.2.1⟩) | go_keep)
    (first
      | (go_at_call 14; (with_reducible refine (AL.out _ (by with_reducible first | exact L.mono KB.hb | exact L.mono KB.drew.hb)).mono ?_); rintro e W9 ⟨rfl, k⟩
         with_reducible (first | replace KB := KB.below k | replace KB := KB.drew.below k)
         clear k
         obtain ⟨_, ka0, kb0, kc0, _⟩ := (KB.head).three
         obtain ⟨_, ka1, kb1, kc1, _⟩ := (KB.tail.head).three
         obtain ⟨_, ka2, kb2, kc2, _⟩ := (KB.tail.tail.head).three
         obtain ⟨_, ka3, kb3, kc3, _⟩ := (KB.tail.tail.tail.head).three)
      | (go_at_call 30; (with_reducible refine (C1.out _ (by with_reducible first | exact L.mono KB.hb | exact L.mono KB.drew.hb)).mono ?_); rintro e W9 ⟨rfl, k⟩
         with_reducible (first | replace KB := KB.below k | replace KB := KB.drew.below k)
         clear k
         obtain ⟨_, ka0, kb0, kc0, _⟩ := (KB.head).three
         obtain ⟨_, ka1, kb1, kc1, _⟩ := (KB.tail.head).three
         obtain ⟨_, ka2, kb2, kc2, _⟩ := (KB.tail.tail.head).three
         obtain ⟨_, ka3, kb3, kc3, _⟩ := (KB.tail.tail.tail.head).three)
      | (go_at_call 31; (with_reducible refine (C2.out _ (by with_reducible first | exact L.mono KB.hb | exact L.mono KB.drew.hb)).mono ?_); rintro e W9 ⟨rfl, k⟩
         with_reducible (first | replace KB := KB.below k | replace KB := KB.drew.below k)
         clear k
         obtain ⟨_, ka0, kb0, kc0, _⟩ := (KB.head).three
         obtain ⟨_, ka1, kb1, kc1, _⟩ := (KB.tail.head).three
         obtain ⟨_, ka2, kb2, kc2, _⟩ := (KB.tail.tail.head).three
         obtain ⟨_, ka3, kb3, kc3, _⟩ := (KB.tail.tail.tail.head).three))
  all_goals
    go_wp2
    go_ret
    exact ⟨rfl, by first | exact KB.hb | exact KB.drew.hb⟩
theorem civilAdds_walk (y m d a y' m' d' : Int) (_ : In64 y) (_ : In64 m) (_ : In64 d) (_ : In64 a) (_ : In64 y') (_ : In64 m') (_ : In64 d') (w : World) (L : Lens w) : Calls Tryd.prog 7 #[.agg #[.int .i64 y, .int .i64 m, .int .i64 d], .int .i64 a, .agg #[.int .i64 y', .int .i64 m', .int .i64 d']] w (RetV w (.bool true)) := by
  have h : ∃ x0 x1 x2 n : Int, (∀ W, Lens W → Calls Tryd.prog 28 #[.agg #[.int .i64 y, .int .i64 m, .int .i64 d], .int .i64 a] W (RetDE W x0 x1 x2 n)) ∧ (∀ W, Lens W → Calls Tryd.prog 29 #[.agg #[.int .i64 y, .int .i64 m, .int .i64 d], .int .i64 a] W (RetDE W x0 x1 x2 n)) := by
    by_cases h : okD y m d
    · by_cases ho : numD y m d + a < -100000001 ∨ 100000000 < numD y m d + a
      · exact ⟨_, _, _, _, fun W l => addP_over h ho W l, fun W _ => addR_over h ho W⟩
      · obtain ⟨b0, b1, b2, hd, hn⟩ := day_of (numD y m d + a)
        have hx : okD b0 b1 b2 := ⟨hd, by omega, by omega⟩
        exact ⟨_, _, _, _, fun W l => addP h hx hn W l, fun W _ => addR h hx hn W⟩
    · exact ⟨_, _, _, _, fun W l => addP_bad a h W l, fun W _ => addR_bad a h W⟩
  obtain ⟨x0, x1, x2, n, h1, h2⟩ := h
  exact adds_core y m d a y' m' d' x0 x1 x2 n _ (Lib.hid h1) (Lib.hid h2) (Lib.hid fun W _ => (cmpP y m d y' m' d' W).mono fun _ _ ⟨h1, h2⟩ => ⟨h1, h2⟩) (Lib.hid fun W _ => (cmpR y m d y' m' d' W).mono fun _ _ ⟨h1, h2⟩ => ⟨h1, h2⟩) (Lib.hid alive5) w L
end Go.Proofs.YtmmgppfopojnlaaDoor
