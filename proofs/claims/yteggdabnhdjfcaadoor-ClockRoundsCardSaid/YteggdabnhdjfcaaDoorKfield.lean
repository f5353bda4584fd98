/- Package clock: a time's fields as a row and back, each field made the nearest number that it may be, right times. -/
import Derived.Test.YteggdabnhdjfcaaDoorKsiz
import Derived.Test.YteggdabnhdjfcaaDoorGh
import Derived.Deep.RegionHeld3
import Derived.LoopTactic
import Derived.Outline
import Derived.Deep.CutBlock
namespace Go.Proofs.YteggdabnhdjfcaaDoor
open Go.RowKit

set_option maxRecDepth 100000 in
set_option maxHeartbeats 4000000 in
theorem splitK (h m s n : Int) (w : World) :
    Calls Tryd.prog 26 #[.agg #[.int .i64 (h), .int .i64 (m), .int .i64 (s), .int .i64 (n)]] w (RetV w (.agg #[.int .i64 (h), .int .i64 (m), .int .i64 (s), .int .i64 (n)])) := by
  go_enter Tryd.func26, Tryd.ntmps26
  go_upto_region 1 with (fail)
  have KB := (((BK.nil w).more4 (.int .i64 (h)) (.int .i64 (m)) (.int .i64 (s)) (.int .i64 (n)) 23).more4 (.int .i64 (0)) (.int .i64 (0)) (.int .i64 (0)) (.int .i64 (0)) 33)
  simp only [World.size_alloc] at KB
  generalize ((w.alloc (.cells #[.int .i64 (h), .int .i64 (m), .int .i64 (s), .int .i64 (n)] 23)).alloc (.cells #[.int .i64 (0), .int .i64 (0), .int .i64 (0), .int .i64 (0)] 33)) = w0 at *
  obtain ⟨_, a0, a1, a2, a3, af0, af1, af2, af3⟩ := (KB.tail.head).four
  obtain ⟨_, r0, r1, r2, r3, rf0, rf1, rf2, rf3⟩ := (KB.head).four
  have i5 : w.heap.size + 1 ≠ w.heap.size := by omega
  have i6 := Ne.symm i5
  go_wp2
  obtain ⟨_, P0, P1, P2, P3, _⟩ := ((KB.head).self4 (.int .i64 (h)) (.int .i64 (m)) (.int .i64 (s)) (.int .i64 (n))).four
  have HB := ((((KB.hb.setCell (p := ⟨w.heap.size + 1, 0, none⟩) (by show _ ≤ w.heap.size + 1; omega) (.int .i64 (h))).setCell (p := ⟨w.heap.size + 1, 1, none⟩) (by show _ ≤ w.heap.size + 1; omega) (.int .i64 (m))).setCell (p := ⟨w.heap.size + 1, 2, none⟩) (by show _ ≤ w.heap.size + 1; omega) (.int .i64 (s))).setCell (p := ⟨w.heap.size + 1, 3, none⟩) (by show _ ≤ w.heap.size + 1; omega) (.int .i64 (n)))
  exact bodyPost_ret (v := .agg #[.int .i64 (h), .int .i64 (m), .int .i64 (s), .int .i64 (n)]) (by simp [results, Tryd.results26, go_sem, P0, P1, P2, P3]) rfl ⟨rfl, HB⟩
set_option maxRecDepth 100000 in
set_option maxHeartbeats 4000000 in
theorem joinedK (h m s n : Int) (w : World) :
    Calls Tryd.prog 27 #[.agg #[.int .i64 (h), .int .i64 (m), .int .i64 (s), .int .i64 (n)]] w (RetV w (.agg #[.int .i64 (h), .int .i64 (m), .int .i64 (s), .int .i64 (n)])) := by
  go_enter Tryd.func27, Tryd.ntmps27
  go_upto_region 1 with (fail)
  have KB := (((BK.nil w).more4 (.int .i64 (h)) (.int .i64 (m)) (.int .i64 (s)) (.int .i64 (n)) 33).more4 (.int .i64 (0)) (.int .i64 (0)) (.int .i64 (0)) (.int .i64 (0)) 23)
  simp only [World.size_alloc] at KB
  generalize ((w.alloc (.cells #[.int .i64 (h), .int .i64 (m), .int .i64 (s), .int .i64 (n)] 33)).alloc (.cells #[.int .i64 (0), .int .i64 (0), .int .i64 (0), .int .i64 (0)] 23)) = w0 at *
  obtain ⟨_, a0, a1, a2, a3, af0, af1, af2, af3⟩ := (KB.tail.head).four
  obtain ⟨_, r0, r1, r2, r3, rf0, rf1, rf2, rf3⟩ := (KB.head).four
  have i5 : w.heap.size + 1 ≠ w.heap.size := by omega
  have i6 := Ne.symm i5
  go_wp2
  obtain ⟨_, P0, P1, P2, P3, _⟩ := ((KB.head).self4 (.int .i64 (h)) (.int .i64 (m)) (.int .i64 (s)) (.int .i64 (n))).four
  have HB := ((((KB.hb.setCell (p := ⟨w.heap.size + 1, 0, none⟩) (by show _ ≤ w.heap.size + 1; omega) (.int .i64 (h))).setCell (p := ⟨w.heap.size + 1, 1, none⟩) (by show _ ≤ w.heap.size + 1; omega) (.int .i64 (m))).setCell (p := ⟨w.heap.size + 1, 2, none⟩) (by show _ ≤ w.heap.size + 1; omega) (.int .i64 (s))).setCell (p := ⟨w.heap.size + 1, 3, none⟩) (by show _ ≤ w.heap.size + 1; omega) (.int .i64 (n)))
  exact bodyPost_ret (v := .agg #[.int .i64 (h), .int .i64 (m), .int .i64 (s), .int .i64 (n)]) (by simp [results, Tryd.results27, go_sem, P0, P1, P2, P3]) rfl ⟨rfl, HB⟩
/-- x' is the nearest one to x from 0 to k -/
def Near (x x' k : Int) : Prop := (x < 0 ∧ x' = 0) ∨ (¬ x < 0 ∧ k < x ∧ x' = k) ∨ (¬ x < 0 ∧ ¬ k < x ∧ x' = x)
theorem near_nearT (x k : Int) : Near x (nearT x k) k := by
  unfold Near nearT
  by_cases a : x < 0
  · exact .inl ⟨a, if_pos a⟩
  · by_cases b : k < x
    · exact .inr (.inl ⟨a, b, by rw [if_neg a, if_pos b]⟩)
    · exact .inr (.inr ⟨a, b, by rw [if_neg a, if_neg b]⟩)
set_option maxRecDepth 100000 in
set_option maxHeartbeats 8000000 in
theorem nearestK_core (h m s n h' m' s' n' : Int) (H0 : Hid (Near h h' 23)) (H1 : Hid (Near m m' 59)) (H2 : Hid (Near s s' 59)) (H3 : Hid (Near n n' 999999999)) (w : World) (L : Sizes w) :
    Calls Tryd.prog 28 #[.agg #[.int .i64 (h), .int .i64 (m), .int .i64 (s), .int .i64 (n)]] w (RetV w (.agg #[.int .i64 (h'), .int .i64 (m'), .int .i64 (s'), .int .i64 (n')])) := by
  go_enter Tryd.func28, Tryd.ntmps28
  go_upto_region 1 with (fail)
  have KB := (((BK.nil w).more4 (.int .i64 (h)) (.int .i64 (m)) (.int .i64 (s)) (.int .i64 (n)) 23).more4 (.int .i64 (0)) (.int .i64 (0)) (.int .i64 (0)) (.int .i64 (0)) 23)
  simp only [World.size_alloc] at KB
  generalize ((w.alloc (.cells #[.int .i64 (h), .int .i64 (m), .int .i64 (s), .int .i64 (n)] 23)).alloc (.cells #[.int .i64 (0), .int .i64 (0), .int .i64 (0), .int .i64 (0)] 23)) = w0 at *
  obtain ⟨_, q0a, q0b, q0c, q0d, _⟩ := (KB.tail.head).four
  go_wp2_with fail
  clear q0a q0b q0c q0d
  refine (splitK h m s n _).mono ?_
  rintro e w1 ⟨rfl, k⟩
  replace KB := KB.below k
  clear k
  go_upto_region 2 with (fail)
  have ig0 : w1.heap.size ≠ w.heap.size + 1 := Nat.ne_of_gt (KB.head).lt
  have og0 := Ne.symm ig0
  have ig1 : w1.heap.size ≠ w.heap.size := Nat.ne_of_gt (KB.tail.head).lt
  have og1 := Ne.symm ig1
  have ggg : w.heap.size ≤ w1.heap.size := KB.hb.size
  replace KB := KB.more4 (.int .i64 (h)) (.int .i64 (m)) (.int .i64 (s)) (.int .i64 (n)) 33
  generalize w1.alloc (.cells #[.int .i64 (h), .int .i64 (m), .int .i64 (s), .int .i64 (n)] 33) = w2 at *
  generalize w1.heap.size = g at *
  go_wp2_with fail
  go_loopw [7] (fun v7 wr => (v7 = .int .i64 0 ∧ BK w [(g, [.int .i64 (h), .int .i64 (m), .int .i64 (s), .int .i64 (n)]), (w.heap.size + 1, [.int .i64 (0), .int .i64 (0), .int .i64 (0), .int .i64 (0)]), (w.heap.size, [.int .i64 (h), .int .i64 (m), .int .i64 (s), .int .i64 (n)])] wr) ∨ (v7 = .int .i64 1 ∧ BK w [(g, [.int .i64 (h'), .int .i64 (m), .int .i64 (s), .int .i64 (n)]), (w.heap.size + 1, [.int .i64 (0), .int .i64 (0), .int .i64 (0), .int .i64 (0)]), (w.heap.size, [.int .i64 (h), .int .i64 (m), .int .i64 (s), .int .i64 (n)])] wr) ∨ (v7 = .int .i64 2 ∧ BK w [(g, [.int .i64 (h'), .int .i64 (m'), .int .i64 (s), .int .i64 (n)]), (w.heap.size + 1, [.int .i64 (0), .int .i64 (0), .int .i64 (0), .int .i64 (0)]), (w.heap.size, [.int .i64 (h), .int .i64 (m), .int .i64 (s), .int .i64 (n)])] wr) ∨ (v7 = .int .i64 3 ∧ BK w [(g, [.int .i64 (h'), .int .i64 (m'), .int .i64 (s'), .int .i64 (n)]), (w.heap.size + 1, [.int .i64 (0), .int .i64 (0), .int .i64 (0), .int .i64 (0)]), (w.heap.size, [.int .i64 (h), .int .i64 (m), .int .i64 (s), .int .i64 (n)])] wr) ∨ (v7 = .int .i64 4 ∧ BK w [(g, [.int .i64 (h'), .int .i64 (m'), .int .i64 (s'), .int .i64 (n')]), (w.heap.size + 1, [.int .i64 (0), .int .i64 (0), .int .i64 (0), .int .i64 (0)]), (w.heap.size, [.int .i64 (h), .int .i64 (m), .int .i64 (s), .int .i64 (n)])] wr)) (fun v7 _ => (4 - intOf v7).toNat)
  case atStart => exact .inl ⟨rfl, KB⟩
  case round =>
    clear KB
    rcases hrel with ⟨rfl, KB⟩ | ⟨rfl, KB⟩ | ⟨rfl, KB⟩ | ⟨rfl, KB⟩ | ⟨rfl, KB⟩
    · have l := L.mono KB.hb
      obtain ⟨_, c0, c1, c2, c3⟩ := l
      clear c1
      clear c2
      clear c3
      obtain ⟨_, j0, j1, j2, j3, jf0, jf1, jf2, jf3⟩ := (KB.head).four
      rcases H0.out with ⟨_a, rfl⟩ | ⟨_a, _b, rfl⟩ | ⟨_a, _b, rfl⟩
      · have KN := KB.drew.one 0 (.int .i64 (0)) (KB.drew.head.at0 _) (by omega) (by intro x hx; simp only [List.mem_cons, List.not_mem_nil, or_false] at hx; rcases hx with rfl | rfl <;> (show _ ≠ _; omega))
        have KM := (KB.one 0 (.int .i64 (0)) (KB.head.at0 _) (by omega) (by intro x hx; simp only [List.mem_cons, List.not_mem_nil, or_false] at hx; rcases hx with rfl | rfl <;> (show _ ≠ _; omega))).drew
        go_wp2_with fail
        go_region
        go_wp2_with fail
        go_roundw
        case rel => first | exact .inr (.inl ⟨rfl, KN⟩) | (rw [show min (max h 0) 23 = 0 by omega]; exact .inr (.inl ⟨rfl, KM⟩))
        case measure => simp [intOf]
      · have KN := KB.drew.one 0 (.int .i64 (23)) (KB.drew.head.at0 _) (by omega) (by intro x hx; simp only [List.mem_cons, List.not_mem_nil, or_false] at hx; rcases hx with rfl | rfl <;> (show _ ≠ _; omega))
        have KM := (KB.one 0 (.int .i64 (23)) (KB.head.at0 _) (by omega) (by intro x hx; simp only [List.mem_cons, List.not_mem_nil, or_false] at hx; rcases hx with rfl | rfl <;> (show _ ≠ _; omega))).drew
        go_wp2_with fail
        go_region
        go_wp2_with fail
        go_roundw
        case rel => first | exact .inr (.inl ⟨rfl, KN⟩) | (rw [show min (max h 0) 23 = 23 by omega]; exact .inr (.inl ⟨rfl, KM⟩))
        case measure => simp [intOf]
      · have KN := KB.drew.one 0 (.int .i64 (h')) (KB.drew.head.at0 _) (by omega) (by intro x hx; simp only [List.mem_cons, List.not_mem_nil, or_false] at hx; rcases hx with rfl | rfl <;> (show _ ≠ _; omega))
        have KM := (KB.one 0 (.int .i64 (h')) (KB.head.at0 _) (by omega) (by intro x hx; simp only [List.mem_cons, List.not_mem_nil, or_false] at hx; rcases hx with rfl | rfl <;> (show _ ≠ _; omega))).drew
        go_wp2_with fail
        go_region
        go_wp2_with fail
        go_roundw
        case rel => first | exact .inr (.inl ⟨rfl, KN⟩) | (rw [show min (max h' 0) 23 = h' by omega]; exact .inr (.inl ⟨rfl, KM⟩))
        case measure => simp [intOf]
    · have l := L.mono KB.hb
      obtain ⟨_, c0, c1, c2, c3⟩ := l
      clear c0
      clear c2
      clear c3
      obtain ⟨_, j0, j1, j2, j3, jf0, jf1, jf2, jf3⟩ := (KB.head).four
      rcases H1.out with ⟨_a, rfl⟩ | ⟨_a, _b, rfl⟩ | ⟨_a, _b, rfl⟩
      · have KN := KB.drew.one 1 (.int .i64 (0)) (KB.drew.head.at1 _) (by omega) (by intro x hx; simp only [List.mem_cons, List.not_mem_nil, or_false] at hx; rcases hx with rfl | rfl <;> (show _ ≠ _; omega))
        have KM := (KB.one 1 (.int .i64 (0)) (KB.head.at1 _) (by omega) (by intro x hx; simp only [List.mem_cons, List.not_mem_nil, or_false] at hx; rcases hx with rfl | rfl <;> (show _ ≠ _; omega))).drew
        go_wp2_with fail
        go_region
        go_wp2_with fail
        go_roundw
        case rel => first | exact .inr (.inr (.inl ⟨rfl, KN⟩)) | (rw [show min (max m 0) 59 = 0 by omega]; exact .inr (.inr (.inl ⟨rfl, KM⟩)))
        case measure => simp [intOf]
      · have KN := KB.drew.one 1 (.int .i64 (59)) (KB.drew.head.at1 _) (by omega) (by intro x hx; simp only [List.mem_cons, List.not_mem_nil, or_false] at hx; rcases hx with rfl | rfl <;> (show _ ≠ _; omega))
        have KM := (KB.one 1 (.int .i64 (59)) (KB.head.at1 _) (by omega) (by intro x hx; simp only [List.mem_cons, List.not_mem_nil, or_false] at hx; rcases hx with rfl | rfl <;> (show _ ≠ _; omega))).drew
        go_wp2_with fail
        go_region
        go_wp2_with fail
        go_roundw
        case rel => first | exact .inr (.inr (.inl ⟨rfl, KN⟩)) | (rw [show min (max m 0) 59 = 59 by omega]; exact .inr (.inr (.inl ⟨rfl, KM⟩)))
        case measure => simp [intOf]
      · have KN := KB.drew.one 1 (.int .i64 (m')) (KB.drew.head.at1 _) (by omega) (by intro x hx; simp only [List.mem_cons, List.not_mem_nil, or_false] at hx; rcases hx with rfl | rfl <;> (show _ ≠ _; omega))
        have KM := (KB.one 1 (.int .i64 (m')) (KB.head.at1 _) (by omega) (by intro x hx; simp only [List.mem_cons, List.not_mem_nil, or_false] at hx; rcases hx with rfl | rfl <;> (show _ ≠ _; omega))).drew
        go_wp2_with fail
        go_region
        go_wp2_with fail
        go_roundw
        case rel => first | exact .inr (.inr (.inl ⟨rfl, KN⟩)) | (rw [show min (max m' 0) 59 = m' by omega]; exact .inr (.inr (.inl ⟨rfl, KM⟩)))
        case measure => simp [intOf]
    · have l := L.mono KB.hb
      obtain ⟨_, c0, c1, c2, c3⟩ := l
      clear c0
      clear c1
      clear c3
      obtain ⟨_, j0, j1, j2, j3, jf0, jf1, jf2, jf3⟩ := (KB.head).four
      rcases H2.out with ⟨_a, rfl⟩ | ⟨_a, _b, rfl⟩ | ⟨_a, _b, rfl⟩
      · have KN := KB.drew.one 2 (.int .i64 (0)) (KB.drew.head.at2 _) (by omega) (by intro x hx; simp only [List.mem_cons, List.not_mem_nil, or_false] at hx; rcases hx with rfl | rfl <;> (show _ ≠ _; omega))
        have KM := (KB.one 2 (.int .i64 (0)) (KB.head.at2 _) (by omega) (by intro x hx; simp only [List.mem_cons, List.not_mem_nil, or_false] at hx; rcases hx with rfl | rfl <;> (show _ ≠ _; omega))).drew
        go_wp2_with fail
        go_region
        go_wp2_with fail
        go_roundw
        case rel => first | exact .inr (.inr (.inr (.inl ⟨rfl, KN⟩))) | (rw [show min (max s 0) 59 = 0 by omega]; exact .inr (.inr (.inr (.inl ⟨rfl, KM⟩))))
        case measure => simp [intOf]
      · have KN := KB.drew.one 2 (.int .i64 (59)) (KB.drew.head.at2 _) (by omega) (by intro x hx; simp only [List.mem_cons, List.not_mem_nil, or_false] at hx; rcases hx with rfl | rfl <;> (show _ ≠ _; omega))
        have KM := (KB.one 2 (.int .i64 (59)) (KB.head.at2 _) (by omega) (by intro x hx; simp only [List.mem_cons, List.not_mem_nil, or_false] at hx; rcases hx with rfl | rfl <;> (show _ ≠ _; omega))).drew
        go_wp2_with fail
        go_region
        go_wp2_with fail
        go_roundw
        case rel => first | exact .inr (.inr (.inr (.inl ⟨rfl, KN⟩))) | (rw [show min (max s 0) 59 = 59 by omega]; exact .inr (.inr (.inr (.inl ⟨rfl, KM⟩))))
        case measure => simp [intOf]
      · have KN := KB.drew.one 2 (.int .i64 (s')) (KB.drew.head.at2 _) (by omega) (by intro x hx; simp only [List.mem_cons, List.not_mem_nil, or_false] at hx; rcases hx with rfl | rfl <;> (show _ ≠ _; omega))
        have KM := (KB.one 2 (.int .i64 (s')) (KB.head.at2 _) (by omega) (by intro x hx; simp only [List.mem_cons, List.not_mem_nil, or_false] at hx; rcases hx with rfl | rfl <;> (show _ ≠ _; omega))).drew
        go_wp2_with fail
        go_region
        go_wp2_with fail
        go_roundw
        case rel => first | exact .inr (.inr (.inr (.inl ⟨rfl, KN⟩))) | (rw [show min (max s' 0) 59 = s' by omega]; exact .inr (.inr (.inr (.inl ⟨rfl, KM⟩))))
        case measure => simp [intOf]
    · have l := L.mono KB.hb
      obtain ⟨_, c0, c1, c2, c3⟩ := l
      clear c0
      clear c1
      clear c2
      obtain ⟨_, j0, j1, j2, j3, jf0, jf1, jf2, jf3⟩ := (KB.head).four
      rcases H3.out with ⟨_a, rfl⟩ | ⟨_a, _b, rfl⟩ | ⟨_a, _b, rfl⟩
      · have KN := KB.drew.one 3 (.int .i64 (0)) (KB.drew.head.at3 _) (by omega) (by intro x hx; simp only [List.mem_cons, List.not_mem_nil, or_false] at hx; rcases hx with rfl | rfl <;> (show _ ≠ _; omega))
        have KM := (KB.one 3 (.int .i64 (0)) (KB.head.at3 _) (by omega) (by intro x hx; simp only [List.mem_cons, List.not_mem_nil, or_false] at hx; rcases hx with rfl | rfl <;> (show _ ≠ _; omega))).drew
        go_wp2_with fail
        go_region
        go_wp2_with fail
        go_roundw
        case rel => first | exact .inr (.inr (.inr (.inr (⟨rfl, KN⟩)))) | (rw [show min (max n 0) 999999999 = 0 by omega]; exact .inr (.inr (.inr (.inr (⟨rfl, KM⟩)))))
        case measure => simp [intOf]
      · have KN := KB.drew.one 3 (.int .i64 (999999999)) (KB.drew.head.at3 _) (by omega) (by intro x hx; simp only [List.mem_cons, List.not_mem_nil, or_false] at hx; rcases hx with rfl | rfl <;> (show _ ≠ _; omega))
        have KM := (KB.one 3 (.int .i64 (999999999)) (KB.head.at3 _) (by omega) (by intro x hx; simp only [List.mem_cons, List.not_mem_nil, or_false] at hx; rcases hx with rfl | rfl <;> (show _ ≠ _; omega))).drew
        go_wp2_with fail
        go_region
        go_wp2_with fail
        go_roundw
        case rel => first | exact .inr (.inr (.inr (.inr (⟨rfl, KN⟩)))) | (rw [show min (max n 0) 999999999 = 999999999 by omega]; exact .inr (.inr (.inr (.inr (⟨rfl, KM⟩)))))
        case measure => simp [intOf]
      · have KN := KB.drew.one 3 (.int .i64 (n')) (KB.drew.head.at3 _) (by omega) (by intro x hx; simp only [List.mem_cons, List.not_mem_nil, or_false] at hx; rcases hx with rfl | rfl <;> (show _ ≠ _; omega))
        have KM := (KB.one 3 (.int .i64 (n')) (KB.head.at3 _) (by omega) (by intro x hx; simp only [List.mem_cons, List.not_mem_nil, or_false] at hx; rcases hx with rfl | rfl <;> (show _ ≠ _; omega))).drew
        go_wp2_with fail
        go_region
        go_wp2_with fail
        go_roundw
        case rel => first | exact .inr (.inr (.inr (.inr (⟨rfl, KN⟩)))) | (rw [show min (max n' 0) 999999999 = n' by omega]; exact .inr (.inr (.inr (.inr (⟨rfl, KM⟩)))))
        case measure => simp [intOf]
    · obtain ⟨_, j0, j1, j2, j3, jf0, jf1, jf2, jf3⟩ := (KB.head).four
      go_wp2_with fail
      refine (joinedK h' m' s' n' _).mono ?_
      rintro e w9 ⟨rfl, k⟩
      replace KB := KB.below k
      clear k
      obtain ⟨_, r0, r1, r2, r3, rf0, rf1, rf2, rf3⟩ := (KB.tail.head).four
      have i5 : w.heap.size + 1 ≠ w.heap.size := by omega
      have i6 := Ne.symm i5
      go_wp2
      obtain ⟨_, P0, P1, P2, P3, _⟩ := ((KB.tail.head).self4 (.int .i64 (h')) (.int .i64 (m')) (.int .i64 (s')) (.int .i64 (n'))).four
      have HB := ((((KB.hb.setCell (p := ⟨w.heap.size + 1, 0, none⟩) (by show _ ≤ w.heap.size + 1; omega) (.int .i64 (h'))).setCell (p := ⟨w.heap.size + 1, 1, none⟩) (by show _ ≤ w.heap.size + 1; omega) (.int .i64 (m'))).setCell (p := ⟨w.heap.size + 1, 2, none⟩) (by show _ ≤ w.heap.size + 1; omega) (.int .i64 (s'))).setCell (p := ⟨w.heap.size + 1, 3, none⟩) (by show _ ≤ w.heap.size + 1; omega) (.int .i64 (n')))
      exact bodyPost_ret (v := .agg #[.int .i64 (h'), .int .i64 (m'), .int .i64 (s'), .int .i64 (n')]) (by simp [results, Tryd.results28, go_sem, P0, P1, P2, P3]) rfl ⟨rfl, HB⟩
theorem nearestK (h m s n : Int) (w : World) (L : Sizes w) : Calls Tryd.prog 28 #[.agg #[.int .i64 (h), .int .i64 (m), .int .i64 (s), .int .i64 (n)]] w (RetV w (.agg #[.int .i64 (nearT h 23), .int .i64 (nearT m 59), .int .i64 (nearT s 59), .int .i64 (nearT n 999999999)])) :=
  nearestK_core h m s n _ _ _ _ (Lib.hid (near_nearT h 23)) (Lib.hid (near_nearT m 59)) (Lib.hid (near_nearT s 59)) (Lib.hid (near_nearT n 999999999)) w L
set_option maxRecDepth 100000 in
set_option maxHeartbeats 8000000 in
theorem rightK0 (h m s n h' m' s' n' : Int) (hne : h' ≠ h) (NR : Hid (∀ W, Sizes W → Calls Tryd.prog 28 #[.agg #[.int .i64 (h), .int .i64 (m), .int .i64 (s), .int .i64 (n)]] W (fun o w' => o = .returned (.agg #[.int .i64 (h'), .int .i64 (m'), .int .i64 (s'), .int .i64 (n')]) ∧ Below W.heap.size W w'))) (w : World) (L : Sizes w) :
    Calls Tryd.prog 15 #[.agg #[.int .i64 (h), .int .i64 (m), .int .i64 (s), .int .i64 (n)]] w (RetV w (.bool false)) := by
  go_enter Tryd.func15, Tryd.ntmps15
  go_upto_region 1 with (fail)
  have KB := ((BK.nil w).more4 (.int .i64 (h)) (.int .i64 (m)) (.int .i64 (s)) (.int .i64 (n)) 23)
  generalize (w.alloc (.cells #[.int .i64 (h), .int .i64 (m), .int .i64 (s), .int .i64 (n)] 23)) = w0 at *
  have e1 : (h' == h) = false := beq_eq_false_iff_ne.2 hne
  have e2 : (h == h') = false := beq_eq_false_iff_ne.2 (Ne.symm hne)
  have e3 : decide (h' = h) = false := decide_eq_false hne
  have e4 : decide (h = h') = false := decide_eq_false (Ne.symm hne)
  have e5 := Ne.symm hne
  obtain ⟨_, j0a, j0b, j0c, j0d, _⟩ := (KB.head).four
  go_region_held3 (fun w' => w'.cell? ⟨w.heap.size, 0, none⟩ = some (.int .i64 (h)) ∧ w'.cell? ⟨w.heap.size, 1, none⟩ = some (.int .i64 (m)) ∧ w'.cell? ⟨w.heap.size, 2, none⟩ = some (.int .i64 (s)) ∧ w'.cell? ⟨w.heap.size, 3, none⟩ = some (.int .i64 (n))) (first | (with_reducible exact ⟨(KB.head).four.2.1, (KB.head).four.2.2.1, (KB.head).four.2.2.2.1, (KB.head).four.2.2.2.2.1⟩) | (with_reducible exact ⟨(KB.drew.head).four.2.1, (KB.drew.head).four.2.2.1, (KB.drew.head).four.2.2.2.1, (KB.drew.head).four.2.2.2.2.1⟩) | go_keep)
    (first
      | (go_at_call 28; (with_reducible refine (NR.out _ (by with_reducible first | exact L.mono KB.hb | exact L.mono KB.drew.hb)).mono ?_); rintro e W9 ⟨rfl, k⟩
         with_reducible (first | replace KB := KB.below k | replace KB := KB.drew.below k)
         clear k
         obtain ⟨_, k0a, k0b, k0c, k0d, _⟩ := (KB.head).four))
  all_goals
    go_wp2
    go_ret
    exact ⟨rfl, by first | exact KB.hb | exact KB.drew.hb⟩
set_option maxRecDepth 100000 in
set_option maxHeartbeats 8000000 in
theorem rightK1 (h m s n m' s' n' : Int) (hne : m' ≠ m) (NR : Hid (∀ W, Sizes W → Calls Tryd.prog 28 #[.agg #[.int .i64 (h), .int .i64 (m), .int .i64 (s), .int .i64 (n)]] W (fun o w' => o = .returned (.agg #[.int .i64 (h), .int .i64 (m'), .int .i64 (s'), .int .i64 (n')]) ∧ Below W.heap.size W w'))) (w : World) (L : Sizes w) :
    Calls Tryd.prog 15 #[.agg #[.int .i64 (h), .int .i64 (m), .int .i64 (s), .int .i64 (n)]] w (RetV w (.bool false)) := by
  go_enter Tryd.func15, Tryd.ntmps15
  go_upto_region 1 with (fail)
  have KB := ((BK.nil w).more4 (.int .i64 (h)) (.int .i64 (m)) (.int .i64 (s)) (.int .i64 (n)) 23)
  generalize (w.alloc (.cells #[.int .i64 (h), .int .i64 (m), .int .i64 (s), .int .i64 (n)] 23)) = w0 at *
  have e1 : (m' == m) = false := beq_eq_false_iff_ne.2 hne
  have e2 : (m == m') = false := beq_eq_false_iff_ne.2 (Ne.symm hne)
  have e3 : decide (m' = m) = false := decide_eq_false hne
  have e4 : decide (m = m') = false := decide_eq_false (Ne.symm hne)
  have e5 := Ne.symm hne
  obtain ⟨_, j0a, j0b, j0c, j0d, _⟩ := (KB.head).four
  go_region_held3 (fun w' => w'.cell? ⟨w.heap.size, 0, none⟩ = some (.int .i64 (h)) ∧ w'.cell? ⟨w.heap.size, 1, none⟩ = some (.int .i64 (m)) ∧ w'.cell? ⟨w.heap.size, 2, none⟩ = some (.int .i64 (s)) ∧ w'.cell? ⟨w.heap.size, 3, none⟩ = some (.int .i64 (n))) (first | (with_reducible exact ⟨(KB.head).four.2.1, (KB.head).four.2.2.1, (KB.head).four.2.2.2.1, (KB.head).four.2.2.2.2.1⟩) | (with_reducible exact ⟨(KB.drew.head).four.2.1, (KB.drew.head).four.2.2.1, (KB.drew.head).four.2.2.2.1, (KB.drew.head).four.2.2.2.2.1⟩) | go_keep)
    (first
      | (go_at_call 28; (with_reducible refine (NR.out _ (by with_reducible first | exact L.mono KB.hb | exact L.mono KB.drew.hb)).mono ?_); rintro e W9 ⟨rfl, k⟩
         with_reducible (first | replace KB := KB.below k | replace KB := KB.drew.below k)
         clear k
         obtain ⟨_, k0a, k0b, k0c, k0d, _⟩ := (KB.head).four))
  all_goals
    go_wp2
    go_ret
    exact ⟨rfl, by first | exact KB.hb | exact KB.drew.hb⟩
set_option maxRecDepth 100000 in
set_option maxHeartbeats 8000000 in
theorem rightK2 (h m s n s' n' : Int) (hne : s' ≠ s) (NR : Hid (∀ W, Sizes W → Calls Tryd.prog 28 #[.agg #[.int .i64 (h), .int .i64 (m), .int .i64 (s), .int .i64 (n)]] W (fun o w' => o = .returned (.agg #[.int .i64 (h), .int .i64 (m), .int .i64 (s'), .int .i64 (n')]) ∧ Below W.heap.size W w'))) (w : World) (L : Sizes w) :
    Calls Tryd.prog 15 #[.agg #[.int .i64 (h), .int .i64 (m), .int .i64 (s), .int .i64 (n)]] w (RetV w (.bool false)) := by
  go_enter Tryd.func15, Tryd.ntmps15
  go_upto_region 1 with (fail)
  have KB := ((BK.nil w).more4 (.int .i64 (h)) (.int .i64 (m)) (.int .i64 (s)) (.int .i64 (n)) 23)
  generalize (w.alloc (.cells #[.int .i64 (h), .int .i64 (m), .int .i64 (s), .int .i64 (n)] 23)) = w0 at *
  have e1 : (s' == s) = false := beq_eq_false_iff_ne.2 hne
  have e2 : (s == s') = false := beq_eq_false_iff_ne.2 (Ne.symm hne)
  have e3 : decide (s' = s) = false := decide_eq_false hne
  have e4 : decide (s = s') = false := decide_eq_false (Ne.symm hne)
  have e5 := Ne.symm hne
  obtain ⟨_, j0a, j0b, j0c, j0d, _⟩ := (KB.head).four
  go_region_held3 (fun w' => w'.cell? ⟨w.heap.size, 0, none⟩ = some (.int .i64 (h)) ∧ w'.cell? ⟨w.heap.size, 1, none⟩ = some (.int .i64 (m)) ∧ w'.cell? ⟨w.heap.size, 2, none⟩ = some (.int .i64 (s)) ∧ w'.cell? ⟨w.heap.size, 3, none⟩ = some (.int .i64 (n))) (first | (with_reducible exact ⟨(KB.head).four.2.1, (KB.head).four.2.2.1, (KB.head).four.2.2.2.1, (KB.head).four.2.2.2.2.1⟩) | (with_reducible exact ⟨(KB.drew.head).four.2.1, (KB.drew.head).four.2.2.1, (KB.drew.head).four.2.2.2.1, (KB.drew.head).four.2.2.2.2.1⟩) | go_keep)
    (first
      | (go_at_call 28; (with_reducible refine (NR.out _ (by with_reducible first | exact L.mono KB.hb | exact L.mono KB.drew.hb)).mono ?_); rintro e W9 ⟨rfl, k⟩
         with_reducible (first | replace KB := KB.below k | replace KB := KB.drew.below k)
         clear k
         obtain ⟨_, k0a, k0b, k0c, k0d, _⟩ := (KB.head).four))
  all_goals
    go_wp2
    go_ret
    exact ⟨rfl, by first | exact KB.hb | exact KB.drew.hb⟩
set_option maxRecDepth 100000 in
set_option maxHeartbeats 8000000 in
theorem rightK3 (h m s n n' : Int) (hne : n' ≠ n) (NR : Hid (∀ W, Sizes W → Calls Tryd.prog 28 #[.agg #[.int .i64 (h), .int .i64 (m), .int .i64 (s), .int .i64 (n)]] W (fun o w' => o = .returned (.agg #[.int .i64 (h), .int .i64 (m), .int .i64 (s), .int .i64 (n')]) ∧ Below W.heap.size W w'))) (w : World) (L : Sizes w) :
    Calls Tryd.prog 15 #[.agg #[.int .i64 (h), .int .i64 (m), .int .i64 (s), .int .i64 (n)]] w (RetV w (.bool false)) := by
  go_enter Tryd.func15, Tryd.ntmps15
  go_upto_region 1 with (fail)
  have KB := ((BK.nil w).more4 (.int .i64 (h)) (.int .i64 (m)) (.int .i64 (s)) (.int .i64 (n)) 23)
  generalize (w.alloc (.cells #[.int .i64 (h), .int .i64 (m), .int .i64 (s), .int .i64 (n)] 23)) = w0 at *
  have e1 : (n' == n) = false := beq_eq_false_iff_ne.2 hne
  have e2 : (n == n') = false := beq_eq_false_iff_ne.2 (Ne.symm hne)
  have e3 : decide (n' = n) = false := decide_eq_false hne
  have e4 : decide (n = n') = false := decide_eq_false (Ne.symm hne)
  have e5 := Ne.symm hne
  obtain ⟨_, j0a, j0b, j0c, j0d, _⟩ := (KB.head).four
  go_region_held3 (fun w' => w'.cell? ⟨w.heap.size, 0, none⟩ = some (.int .i64 (h)) ∧ w'.cell? ⟨w.heap.size, 1, none⟩ = some (.int .i64 (m)) ∧ w'.cell? ⟨w.heap.size, 2, none⟩ = some (.int .i64 (s)) ∧ w'.cell? ⟨w.heap.size, 3, none⟩ = some (.int .i64 (n))) (first | (with_reducible exact ⟨(KB.head).four.2.1, (KB.head).four.2.2.1, (KB.head).four.2.2.2.1, (KB.head).four.2.2.2.2.1⟩) | (with_reducible exact ⟨(KB.drew.head).four.2.1, (KB.drew.head).four.2.2.1, (KB.drew.head).four.2.2.2.1, (KB.drew.head).four.2.2.2.2.1⟩) | go_keep)
    (first
      | (go_at_call 28; (with_reducible refine (NR.out _ (by with_reducible first | exact L.mono KB.hb | exact L.mono KB.drew.hb)).mono ?_); rintro e W9 ⟨rfl, k⟩
         with_reducible (first | replace KB := KB.below k | replace KB := KB.drew.below k)
         clear k
         obtain ⟨_, k0a, k0b, k0c, k0d, _⟩ := (KB.head).four))
  all_goals
    go_wp2
    go_ret
    exact ⟨rfl, by first | exact KB.hb | exact KB.drew.hb⟩
set_option maxRecDepth 100000 in
set_option maxHeartbeats 8000000 in
theorem rightK4 (h m s n : Int) (NR : Hid (∀ W, Sizes W → Calls Tryd.prog 28 #[.agg #[.int .i64 (h), .int .i64 (m), .int .i64 (s), .int .i64 (n)]] W (fun o w' => o = .returned (.agg #[.int .i64 (h), .int .i64 (m), .int .i64 (s), .int .i64 (n)]) ∧ Below W.heap.size W w'))) (w : World) (L : Sizes w) :
    Calls Tryd.prog 15 #[.agg #[.int .i64 (h), .int .i64 (m), .int .i64 (s), .int .i64 (n)]] w (RetV w (.bool true)) := by
  go_enter Tryd.func15, Tryd.ntmps15
  go_upto_region 1 with (fail)
  have KB := ((BK.nil w).more4 (.int .i64 (h)) (.int .i64 (m)) (.int .i64 (s)) (.int .i64 (n)) 23)
  generalize (w.alloc (.cells #[.int .i64 (h), .int .i64 (m), .int .i64 (s), .int .i64 (n)] 23)) = w0 at *
  obtain ⟨_, j0a, j0b, j0c, j0d, _⟩ := (KB.head).four
  go_region_held3 (fun w' => w'.cell? ⟨w.heap.size, 0, none⟩ = some (.int .i64 (h)) ∧ w'.cell? ⟨w.heap.size, 1, none⟩ = some (.int .i64 (m)) ∧ w'.cell? ⟨w.heap.size, 2, none⟩ = some (.int .i64 (s)) ∧ w'.cell? ⟨w.heap.size, 3, none⟩ = some (.int .i64 (n))) (first | (with_reducible exact ⟨(KB.head).four.2.1, (KB.head).four.2.2.1, (KB.head).four.2.2.2.1, (KB.head).four.2.2.2.2.1⟩) | (with_reducible exact ⟨(KB.drew.head).four.2.1, (KB.drew.head).four.2.2.1, (KB.drew.head).four.2.2.2.1, (KB.drew.head).four.2.2.2.2.1⟩) | go_keep)
    (first
      | (go_at_call 28; (with_reducible refine (NR.out _ (by with_reducible first | exact L.mono KB.hb | exact L.mono KB.drew.hb)).mono ?_); rintro e W9 ⟨rfl, k⟩
         with_reducible (first | replace KB := KB.below k | replace KB := KB.drew.below k)
         clear k
         obtain ⟨_, k0a, k0b, k0c, k0d, _⟩ := (KB.head).four))
  all_goals
    go_wp2
    go_ret
    exact ⟨rfl, by first | exact KB.hb | exact KB.drew.hb⟩
theorem near_same {x k : Int} : nearT x k = x ↔ 0 ≤ x ∧ x ≤ k := by
  unfold nearT
  repeat' split
  all_goals omega
theorem rightK (h m s n : Int) (w : World) (L : Sizes w) : Calls Tryd.prog 15 #[.agg #[.int .i64 (h), .int .i64 (m), .int .i64 (s), .int .i64 (n)]] w (RetV w (.bool (decide (okT h m s n)))) := by
  have NR := fun (W : World) (l : Sizes W) => nearestK h m s n W l
  have n0 := near_same (x := h) (k := 23)
  have n1 := near_same (x := m) (k := 59)
  have n2 := near_same (x := s) (k := 59)
  have n3 := near_same (x := n) (k := 999999999)
  by_cases t0 : nearT h 23 = h
  case neg => rw [decide_eq_false (by unfold okT; omega)]; exact rightK0 h m s n _ _ _ _ t0 (Lib.hid NR) w L
  by_cases t1 : nearT m 59 = m
  case neg => rw [decide_eq_false (by unfold okT; omega)]; rw [t0] at NR; exact rightK1 h m s n _ _ _ t1 (Lib.hid NR) w L
  by_cases t2 : nearT s 59 = s
  case neg => rw [decide_eq_false (by unfold okT; omega)]; rw [t0, t1] at NR; exact rightK2 h m s n _ _ t2 (Lib.hid NR) w L
  by_cases t3 : nearT n 999999999 = n
  case neg => rw [decide_eq_false (by unfold okT; omega)]; rw [t0, t1, t2] at NR; exact rightK3 h m s n _ t3 (Lib.hid NR) w L
  rw [decide_eq_true (by unfold okT; omega)]; rw [t0, t1, t2, t3] at NR; exact rightK4 h m s n (Lib.hid NR) w L
end Go.Proofs.YteggdabnhdjfcaaDoor
