import Derived.Test.YtlidicnbmfkghaaGreatDoorGm
import Derived.Test.YtlidicnbmfkghaaGreatDoorGh
import Derived.Deep.RegionHeld3
import Derived.LoopTactic
import Derived.Outline
import Derived.Deep.CutBlock
import Derived.Test.YtlidicnbmfkghaaGreatDoorGx
import Derived.Test.YtlidicnbmfkghaaGreatDoorGzon
import Derived.BigQuiet
import Derived.Test.YtlidicnbmfkghaaGreatDoorGt
import Derived.Test.YtlidicnbmfkghaaGreatDoorGr
/- Package clock: the table of how many numbers each field may be, as it lies in memory. -/
namespace Go.Proofs.YtlidicnbmfkghaaGreatDoor
open Go.RowKit

/-- the table's block holds how many numbers the hour, the minute, the second and the nanosecond may be -/
structure Sizes (w : World) : Prop where
  lt : 0 < w.heap.size
  c0 : w.cell? ⟨0, 0, none⟩ = some (.int .i64 24)
  c1 : w.cell? ⟨0, 1, none⟩ = some (.int .i64 60)
  c2 : w.cell? ⟨0, 2, none⟩ = some (.int .i64 60)
  c3 : w.cell? ⟨0, 3, none⟩ = some (.int .i64 1000000000)
theorem Sizes.mono {w W : World} (L : Sizes w) (h : Below w.heap.size w W) : Sizes W :=
  ⟨Nat.lt_of_lt_of_le L.lt h.size, (h.cell (p := ⟨0, 0, none⟩) L.lt).trans L.c0, (h.cell (p := ⟨0, 1, none⟩) L.lt).trans L.c1,
    (h.cell (p := ⟨0, 2, none⟩) L.lt).trans L.c2, (h.cell (p := ⟨0, 3, none⟩) L.lt).trans L.c3⟩
end Go.Proofs.YtlidicnbmfkghaaGreatDoor

/- Package clock: a time's fields as a row and back, each field made the nearest number that it may be, right times. -/
namespace Go.Proofs.YtlidicnbmfkghaaGreatDoor
open Go.RowKit

set_option maxRecDepth 100000 in
set_option maxHeartbeats 4000000 in
theorem splitK (h m s n : Int) (w : World) :
    Calls Tryz.prog 34 #[.agg #[.int .i64 (h), .int .i64 (m), .int .i64 (s), .int .i64 (n)]] w (RetV w (.agg #[.int .i64 (h), .int .i64 (m), .int .i64 (s), .int .i64 (n)])) := by
  go_enter Tryz.func34, Tryz.ntmps34
  go_upto_region 1 with (fail)
  have KB := (((BK.nil w).more4 (.int .i64 (h)) (.int .i64 (m)) (.int .i64 (s)) (.int .i64 (n)) 25).more4 (.int .i64 (0)) (.int .i64 (0)) (.int .i64 (0)) (.int .i64 (0)) 77)
  simp only [World.size_alloc] at KB
  generalize ((w.alloc (.cells #[.int .i64 (h), .int .i64 (m), .int .i64 (s), .int .i64 (n)] 25)).alloc (.cells #[.int .i64 (0), .int .i64 (0), .int .i64 (0), .int .i64 (0)] 77)) = w0 at *
  obtain ⟨_, a0, a1, a2, a3, af0, af1, af2, af3⟩ := (KB.tail.head).four
  obtain ⟨_, r0, r1, r2, r3, rf0, rf1, rf2, rf3⟩ := (KB.head).four
  have i5 : w.heap.size + 1 ≠ w.heap.size := by omega
  have i6 := Ne.symm i5
  go_wp2
  obtain ⟨_, P0, P1, P2, P3, _⟩ := ((KB.head).self4 (.int .i64 (h)) (.int .i64 (m)) (.int .i64 (s)) (.int .i64 (n))).four
  have HB := ((((KB.hb.setCell (p := ⟨w.heap.size + 1, 0, none⟩) (by show _ ≤ w.heap.size + 1; omega) (.int .i64 (h))).setCell (p := ⟨w.heap.size + 1, 1, none⟩) (by show _ ≤ w.heap.size + 1; omega) (.int .i64 (m))).setCell (p := ⟨w.heap.size + 1, 2, none⟩) (by show _ ≤ w.heap.size + 1; omega) (.int .i64 (s))).setCell (p := ⟨w.heap.size + 1, 3, none⟩) (by show _ ≤ w.heap.size + 1; omega) (.int .i64 (n)))
  exact bodyPost_ret (v := .agg #[.int .i64 (h), .int .i64 (m), .int .i64 (s), .int .i64 (n)]) (by simp [results, Tryz.results34, go_sem, P0, P1, P2, P3]) rfl ⟨rfl, HB⟩
set_option maxRecDepth 100000 in
set_option maxHeartbeats 4000000 in
theorem joinedK (h m s n : Int) (w : World) :
    Calls Tryz.prog 78 #[.agg #[.int .i64 (h), .int .i64 (m), .int .i64 (s), .int .i64 (n)]] w (RetV w (.agg #[.int .i64 (h), .int .i64 (m), .int .i64 (s), .int .i64 (n)])) := by
  go_enter Tryz.func78, Tryz.ntmps78
  go_upto_region 1 with (fail)
  have KB := (((BK.nil w).more4 (.int .i64 (h)) (.int .i64 (m)) (.int .i64 (s)) (.int .i64 (n)) 77).more4 (.int .i64 (0)) (.int .i64 (0)) (.int .i64 (0)) (.int .i64 (0)) 25)
  simp only [World.size_alloc] at KB
  generalize ((w.alloc (.cells #[.int .i64 (h), .int .i64 (m), .int .i64 (s), .int .i64 (n)] 77)).alloc (.cells #[.int .i64 (0), .int .i64 (0), .int .i64 (0), .int .i64 (0)] 25)) = w0 at *
  obtain ⟨_, a0, a1, a2, a3, af0, af1, af2, af3⟩ := (KB.tail.head).four
  obtain ⟨_, r0, r1, r2, r3, rf0, rf1, rf2, rf3⟩ := (KB.head).four
  have i5 : w.heap.size + 1 ≠ w.heap.size := by omega
  have i6 := Ne.symm i5
  go_wp2
  obtain ⟨_, P0, P1, P2, P3, _⟩ := ((KB.head).self4 (.int .i64 (h)) (.int .i64 (m)) (.int .i64 (s)) (.int .i64 (n))).four
  have HB := ((((KB.hb.setCell (p := ⟨w.heap.size + 1, 0, none⟩) (by show _ ≤ w.heap.size + 1; omega) (.int .i64 (h))).setCell (p := ⟨w.heap.size + 1, 1, none⟩) (by show _ ≤ w.heap.size + 1; omega) (.int .i64 (m))).setCell (p := ⟨w.heap.size + 1, 2, none⟩) (by show _ ≤ w.heap.size + 1; omega) (.int .i64 (s))).setCell (p := ⟨w.heap.size + 1, 3, none⟩) (by show _ ≤ w.heap.size + 1; omega) (.int .i64 (n)))
  exact bodyPost_ret (v := .agg #[.int .i64 (h), .int .i64 (m), .int .i64 (s), .int .i64 (n)]) (by simp [results, Tryz.results78, go_sem, P0, P1, P2, P3]) rfl ⟨rfl, HB⟩
/-- x' is the nearest one to x from 0 to k -/
def Near (x x' k : Int) : Prop := (x < 0 ∧ x' = 0) ∨ (¬ x < 0 ∧ k < x ∧ x' = k) ∨ (¬ x < 0 ∧ ¬ k < x ∧ x' = x)
theorem near_nearT (x k : Int) : Near x (nearT x k) k := by
  unfold Near nearT
  by_cases a : x < 0
  · exact .inl ⟨a, if_pos a⟩
  · by_cases b : k < x
    · exact .inr (.inl ⟨a, b, by rw [if_neg a, if_pos b]⟩)
    · exact .inr (.inr ⟨a, b, by rw [if_neg a, if_neg b]⟩)
set_option maxRecDepth 100000 in
set_option maxHeartbeats 8000000 in
theorem nearestK_core (h m s n h' m' s' n' : Int) (H0 : Hid (Near h h' 23)) (H1 : Hid (Near m m' 59)) (H2 : Hid (Near s s' 59)) (H3 : Hid (Near n n' 999999999)) (w : World) (L : Sizes w) :
    Calls Tryz.prog 65 #[.agg #[.int .i64 (h), .int .i64 (m), .int .i64 (s), .int .i64 (n)]] w (RetV w (.agg #[.int .i64 (h'), .int .i64 (m'), .int .i64 (s'), .int .i64 (n')])) := by
  go_enter Tryz.func65, Tryz.ntmps65
  go_upto_region 1 with (fail)
  have KB := (((BK.nil w).more4 (.int .i64 (h)) (.int .i64 (m)) (.int .i64 (s)) (.int .i64 (n)) 25).more4 (.int .i64 (0)) (.int .i64 (0)) (.int .i64 (0)) (.int .i64 (0)) 25)
  simp only [World.size_alloc] at KB
  generalize ((w.alloc (.cells #[.int .i64 (h), .int .i64 (m), .int .i64 (s), .int .i64 (n)] 25)).alloc (.cells #[.int .i64 (0), .int .i64 (0), .int .i64 (0), .int .i64 (0)] 25)) = w0 at *
  obtain ⟨_, q0a, q0b, q0c, q0d, _⟩ := (KB.tail.head).four
  go_wp2_with fail
  clear q0a q0b q0c q0d
  refine (splitK h m s n _).mono ?_
  rintro e w1 ⟨rfl, k⟩
  replace KB := KB.below k
  clear k
  go_upto_region 2 with (fail)
  have ig0 : w1.heap.size ≠ w.heap.size + 1 := Nat.ne_of_gt (KB.head).lt
  have og0 := Ne.symm ig0
  have ig1 : w1.heap.size ≠ w.heap.size := Nat.ne_of_gt (KB.tail.head).lt
  have og1 := Ne.symm ig1
  have ggg : w.heap.size ≤ w1.heap.size := KB.hb.size
  replace KB := KB.more4 (.int .i64 (h)) (.int .i64 (m)) (.int .i64 (s)) (.int .i64 (n)) 77
  generalize w1.alloc (.cells #[.int .i64 (h), .int .i64 (m), .int .i64 (s), .int .i64 (n)] 77) = w2 at *
  generalize w1.heap.size = g at *
  go_wp2_with fail
  go_loopw [7] (fun v7 wr => (v7 = .int .i64 0 ∧ BK w [(g, [.int .i64 (h), .int .i64 (m), .int .i64 (s), .int .i64 (n)]), (w.heap.size + 1, [.int .i64 (0), .int .i64 (0), .int .i64 (0), .int .i64 (0)]), (w.heap.size, [.int .i64 (h), .int .i64 (m), .int .i64 (s), .int .i64 (n)])] wr) ∨ (v7 = .int .i64 1 ∧ BK w [(g, [.int .i64 (h'), .int .i64 (m), .int .i64 (s), .int .i64 (n)]), (w.heap.size + 1, [.int .i64 (0), .int .i64 (0), .int .i64 (0), .int .i64 (0)]), (w.heap.size, [.int .i64 (h), .int .i64 (m), .int .i64 (s), .int .i64 (n)])] wr) ∨ (v7 = .int .i64 2 ∧ BK w [(g, [.int .i64 (h'), .int .i64 (m'), .int .i64 (s), .int .i64 (n)]), (w.heap.size + 1, [.int .i64 (0), .int .i64 (0), .int .i64 (0), .int .i64 (0)]), (w.heap.size, [.int .i64 (h), .int .i64 (m), .int .i64 (s), .int .i64 (n)])] wr) ∨ (v7 = .int .i64 3 ∧ BK w [(g, [.int .i64 (h'), .int .i64 (m'), .int .i64 (s'), .int .i64 (n)]), (w.heap.size + 1, [.int .i64 (0), .int .i64 (0), .int .i64 (0), .int .i64 (0)]), (w.heap.size, [.int .i64 (h), .int .i64 (m), .int .i64 (s), .int .i64 (n)])] wr) ∨ (v7 = .int .i64 4 ∧ BK w [(g, [.int .i64 (h'), .int .i64 (m'), .int .i64 (s'), .int .i64 (n')]), (w.heap.size + 1, [.int .i64 (0), .int .i64 (0), .int .i64 (0), .int .i64 (0)]), (w.heap.size, [.int .i64 (h), .int .i64 (m), .int .i64 (s), .int .i64 (n)])] wr)) (fun v7 _ => (4 - intOf v7).toNat)
  case atStart => exact .inl ⟨rfl, KB⟩
  case round =>
    clear KB
    rcases hrel with ⟨rfl, KB⟩ | ⟨rfl, KB⟩ | ⟨rfl, KB⟩ | ⟨rfl, KB⟩ | ⟨rfl, KB⟩
    · have l := L.mono KB.hb
      obtain ⟨_, c0, c1, c2, c3⟩ := l
      clear c1
      clear c2
      clear c3
      obtain ⟨_, j0, j1, j2, j3, jf0, jf1, jf2, jf3⟩ := (KB.head).four
      rcases H0.out with ⟨_a, rfl⟩ | ⟨_a, _b, rfl⟩ | ⟨_a, _b, rfl⟩
      · have KN := KB.drew.one 0 (.int .i64 (0)) (KB.drew.head.at0 _) (by omega) (by intro x hx; simp only [List.mem_cons, List.not_mem_nil, or_false] at hx; rcases hx with rfl | rfl <;> (show _ ≠ _; omega))
        have KM := (KB.one 0 (.int .i64 (0)) (KB.head.at0 _) (by omega) (by intro x hx; simp only [List.mem_cons, List.not_mem_nil, or_false] at hx; rcases hx with rfl | rfl <;> (show _ ≠ _; omega))).drew
        go_wp2_with fail
        go_region
        go_wp2_with fail
        go_roundw
        case rel => first | exact .inr (.inl ⟨rfl, KN⟩) | (rw [show min (max h 0) 23 = 0 by omega]; exact .inr (.inl ⟨rfl, KM⟩))
        case measure => simp [intOf]
      · have KN := KB.drew.one 0 (.int .i64 (23)) (KB.drew.head.at0 _) (by omega) (by intro x hx; simp only [List.mem_cons, List.not_mem_nil, or_false] at hx; rcases hx with rfl | rfl <;> (show _ ≠ _; omega))
        have KM := (KB.one 0 (.int .i64 (23)) (KB.head.at0 _) (by omega) (by intro x hx; simp only [List.mem_cons, List.not_mem_nil, or_false] at hx; rcases hx with rfl | rfl <;> (show _ ≠ _; omega))).drew
        go_wp2_with fail
        go_region
        go_wp2_with fail
        go_roundw
        case rel => first | exact .inr (.inl ⟨rfl, KN⟩) | (rw [show min (max h 0) 23 = 23 by omega]; exact .inr (.inl ⟨rfl, KM⟩))
        case measure => simp [intOf]
      · have KN := KB.drew.one 0 (.int .i64 (h')) (KB.drew.head.at0 _) (by omega) (by intro x hx; simp only [List.mem_cons, List.not_mem_nil, or_false] at hx; rcases hx with rfl | rfl <;> (show _ ≠ _; omega))
        have KM := (KB.one 0 (.int .i64 (h')) (KB.head.at0 _) (by omega) (by intro x hx; simp only [List.mem_cons, List.not_mem_nil, or_false] at hx; rcases hx with rfl | rfl <;> (show _ ≠ _; omega))).drew
        go_wp2_with fail
        go_region
        go_wp2_with fail
        go_roundw
        case rel => first | exact .inr (.inl ⟨rfl, KN⟩) | (rw [show min (max h' 0) 23 = h' by omega]; exact .inr (.inl ⟨rfl, KM⟩))
        case measure => simp [intOf]
    · have l := L.mono KB.hb
      obtain ⟨_, c0, c1, c2, c3⟩ := l
      clear c0
      clear c2
      clear c3
      obtain ⟨_, j0, j1, j2, j3, jf0, jf1, jf2, jf3⟩ := (KB.head).four
      rcases H1.out with ⟨_a, rfl⟩ | ⟨_a, _b, rfl⟩ | ⟨_a, _b, rfl⟩
      · have KN := KB.drew.one 1 (.int .i64 (0)) (KB.drew.head.at1 _) (by omega) (by intro x hx; simp only [List.mem_cons, List.not_mem_nil, or_false] at hx; rcases hx with rfl | rfl <;> (show _ ≠ _; omega))
        have KM := (KB.one 1 (.int .i64 (0)) (KB.head.at1 _) (by omega) (by intro x hx; simp only [List.mem_cons, List.not_mem_nil, or_false] at hx; rcases hx with rfl | rfl <;> (show _ ≠ _; omega))).drew
        go_wp2_with fail
        go_region
        go_wp2_with fail
        go_roundw
        case rel => first | exact .inr (.inr (.inl ⟨rfl, KN⟩)) | (rw [show min (max m 0) 59 = 0 by omega]; exact .inr (.inr (.inl ⟨rfl, KM⟩)))
        case measure => simp [intOf]
      · have KN := KB.drew.one 1 (.int .i64 (59)) (KB.drew.head.at1 _) (by omega) (by intro x hx; simp only [List.mem_cons, List.not_mem_nil, or_false] at hx; rcases hx with rfl | rfl <;> (show _ ≠ _; omega))
        have KM := (KB.one 1 (.int .i64 (59)) (KB.head.at1 _) (by omega) (by intro x hx; simp only [List.mem_cons, List.not_mem_nil, or_false] at hx; rcases hx with rfl | rfl <;> (show _ ≠ _; omega))).drew
        go_wp2_with fail
        go_region
        go_wp2_with fail
        go_roundw
        case rel => first | exact .inr (.inr (.inl ⟨rfl, KN⟩)) | (rw [show min (max m 0) 59 = 59 by omega]; exact .inr (.inr (.inl ⟨rfl, KM⟩)))
        case measure => simp [intOf]
      · have KN := KB.drew.one 1 (.int .i64 (m')) (KB.drew.head.at1 _) (by omega) (by intro x hx; simp only [List.mem_cons, List.not_mem_nil, or_false] at hx; rcases hx with rfl | rfl <;> (show _ ≠ _; omega))
        have KM := (KB.one 1 (.int .i64 (m')) (KB.head.at1 _) (by omega) (by intro x hx; simp only [List.mem_cons, List.not_mem_nil, or_false] at hx; rcases hx with rfl | rfl <;> (show _ ≠ _; omega))).drew
        go_wp2_with fail
        go_region
        go_wp2_with fail
        go_roundw
        case rel => first | exact .inr (.inr (.inl ⟨rfl, KN⟩)) | (rw [show min (max m' 0) 59 = m' by omega]; exact .inr (.inr (.inl ⟨rfl, KM⟩)))
        case measure => simp [intOf]
    · have l := L.mono KB.hb
      obtain ⟨_, c0, c1, c2, c3⟩ := l
      clear c0
      clear c1
      clear c3
      obtain ⟨_, j0, j1, j2, j3, jf0, jf1, jf2, jf3⟩ := (KB.head).four
      rcases H2.out with ⟨_a, rfl⟩ | ⟨_a, _b, rfl⟩ | ⟨_a, _b, rfl⟩
      · have KN := KB.drew.one 2 (.int .i64 (0)) (KB.drew.head.at2 _) (by omega) (by intro x hx; simp only [List.mem_cons, List.not_mem_nil, or_false] at hx; rcases hx with rfl | rfl <;> (show _ ≠ _; omega))
        have KM := (KB.one 2 (.int .i64 (0)) (KB.head.at2 _) (by omega) (by intro x hx; simp only [List.mem_cons, List.not_mem_nil, or_false] at hx; rcases hx with rfl | rfl <;> (show _ ≠ _; omega))).drew
        go_wp2_with fail
        go_region
        go_wp2_with fail
        go_roundw
        case rel => first | exact .inr (.inr (.inr (.inl ⟨rfl, KN⟩))) | (rw [show min (max s 0) 59 = 0 by omega]; exact .inr (.inr (.inr (.inl ⟨rfl, KM⟩))))
        case measure => simp [intOf]
      · have KN := KB.drew.one 2 (.int .i64 (59)) (KB.drew.head.at2 _) (by omega) (by intro x hx; simp only [List.mem_cons, List.not_mem_nil, or_false] at hx; rcases hx with rfl | rfl <;> (show _ ≠ _; omega))
        have KM := (KB.one 2 (.int .i64 (59)) (KB.head.at2 _) (by omega) (by intro x hx; simp only [List.mem_cons, List.not_mem_nil, or_false] at hx; rcases hx with rfl | rfl <;> (show _ ≠ _; omega))).drew
        go_wp2_with fail
        go_region
        go_wp2_with fail
        go_roundw
        case rel => first | exact .inr (.inr (.inr (.inl ⟨rfl, KN⟩))) | (rw [show min (max s 0) 59 = 59 by omega]; exact .inr (.inr (.inr (.inl ⟨rfl, KM⟩))))
        case measure => simp [intOf]
      · have KN := KB.drew.one 2 (.int .i64 (s')) (KB.drew.head.at2 _) (by omega) (by intro x hx; simp only [List.mem_cons, List.not_mem_nil, or_false] at hx; rcases hx with rfl | rfl <;> (show _ ≠ _; omega))
        have KM := (KB.one 2 (.int .i64 (s')) (KB.head.at2 _) (by omega) (by intro x hx; simp only [List.mem_cons, List.not_mem_nil, or_false] at hx; rcases hx with rfl | rfl <;> (show _ ≠ _; omega))).drew
        go_wp2_with fail
        go_region
        go_wp2_with fail
        go_roundw
        case rel => first | exact .inr (.inr (.inr (.inl ⟨rfl, KN⟩))) | (rw [show min (max s' 0) 59 = s' by omega]; exact .inr (.inr (.inr (.inl ⟨rfl, KM⟩))))
        case measure => simp [intOf]
    · have l := L.mono KB.hb
      obtain ⟨_, c0, c1, c2, c3⟩ := l
      clear c0
      clear c1
      clear c2
      obtain ⟨_, j0, j1, j2, j3, jf0, jf1, jf2, jf3⟩ := (KB.head).four
      rcases H3.out with ⟨_a, rfl⟩ | ⟨_a, _b, rfl⟩ | ⟨_a, _b, rfl⟩
      · have KN := KB.drew.one 3 (.int .i64 (0)) (KB.drew.head.at3 _) (by omega) (by intro x hx; simp only [List.mem_cons, List.not_mem_nil, or_false] at hx; rcases hx with rfl | rfl <;> (show _ ≠ _; omega))
        have KM := (KB.one 3 (.int .i64 (0)) (KB.head.at3 _) (by omega) (by intro x hx; simp only [List.mem_cons, List.not_mem_nil, or_false] at hx; rcases hx with rfl | rfl <;> (show _ ≠ _; omega))).drew
        go_wp2_with fail
        go_region
        go_wp2_with fail
        go_roundw
        case rel => first | exact .inr (.inr (.inr (.inr (⟨rfl, KN⟩)))) | (rw [show min (max n 0) 999999999 = 0 by omega]; exact .inr (.inr (.inr (.inr (⟨rfl, KM⟩)))))
        case measure => simp [intOf]
      · have KN := KB.drew.one 3 (.int .i64 (999999999)) (KB.drew.head.at3 _) (by omega) (by intro x hx; simp only [List.mem_cons, List.not_mem_nil, or_false] at hx; rcases hx with rfl | rfl <;> (show _ ≠ _; omega))
        have KM := (KB.one 3 (.int .i64 (999999999)) (KB.head.at3 _) (by omega) (by intro x hx; simp only [List.mem_cons, List.not_mem_nil, or_false] at hx; rcases hx with rfl | rfl <;> (show _ ≠ _; omega))).drew
        go_wp2_with fail
        go_region
        go_wp2_with fail
        go_roundw
        case rel => first | exact .inr (.inr (.inr (.inr (⟨rfl, KN⟩)))) | (rw [show min (max n 0) 999999999 = 999999999 by omega]; exact .inr (.inr (.inr (.inr (⟨rfl, KM⟩)))))
        case measure => simp [intOf]
      · have KN := KB.drew.one 3 (.int .i64 (n')) (KB.drew.head.at3 _) (by omega) (by intro x hx; simp only [List.mem_cons, List.not_mem_nil, or_false] at hx; rcases hx with rfl | rfl <;> (show _ ≠ _; omega))
        have KM := (KB.one 3 (.int .i64 (n')) (KB.head.at3 _) (by omega) (by intro x hx; simp only [List.mem_cons, List.not_mem_nil, or_false] at hx; rcases hx with rfl | rfl <;> (show _ ≠ _; omega))).drew
        go_wp2_with fail
        go_region
        go_wp2_with fail
        go_roundw
        case rel => first | exact .inr (.inr (.inr (.inr (⟨rfl, KN⟩)))) | (rw [show min (max n' 0) 999999999 = n' by omega]; exact .inr (.inr (.inr (.inr (⟨rfl, KM⟩)))))
        case measure => simp [intOf]
    · obtain ⟨_, j0, j1, j2, j3, jf0, jf1, jf2, jf3⟩ := (KB.head).four
      go_wp2_with fail
      refine (joinedK h' m' s' n' _).mono ?_
      rintro e w9 ⟨rfl, k⟩
      replace KB := KB.below k
      clear k
      obtain ⟨_, r0, r1, r2, r3, rf0, rf1, rf2, rf3⟩ := (KB.tail.head).four
      have i5 : w.heap.size + 1 ≠ w.heap.size := by omega
      have i6 := Ne.symm i5
      go_wp2
      obtain ⟨_, P0, P1, P2, P3, _⟩ := ((KB.tail.head).self4 (.int .i64 (h')) (.int .i64 (m')) (.int .i64 (s')) (.int .i64 (n'))).four
      have HB := ((((KB.hb.setCell (p := ⟨w.heap.size + 1, 0, none⟩) (by show _ ≤ w.heap.size + 1; omega) (.int .i64 (h'))).setCell (p := ⟨w.heap.size + 1, 1, none⟩) (by show _ ≤ w.heap.size + 1; omega) (.int .i64 (m'))).setCell (p := ⟨w.heap.size + 1, 2, none⟩) (by show _ ≤ w.heap.size + 1; omega) (.int .i64 (s'))).setCell (p := ⟨w.heap.size + 1, 3, none⟩) (by show _ ≤ w.heap.size + 1; omega) (.int .i64 (n')))
      exact bodyPost_ret (v := .agg #[.int .i64 (h'), .int .i64 (m'), .int .i64 (s'), .int .i64 (n')]) (by simp [results, Tryz.results65, go_sem, P0, P1, P2, P3]) rfl ⟨rfl, HB⟩
theorem nearestK (h m s n : Int) (w : World) (L : Sizes w) : Calls Tryz.prog 65 #[.agg #[.int .i64 (h), .int .i64 (m), .int .i64 (s), .int .i64 (n)]] w (RetV w (.agg #[.int .i64 (nearT h 23), .int .i64 (nearT m 59), .int .i64 (nearT s 59), .int .i64 (nearT n 999999999)])) :=
  nearestK_core h m s n _ _ _ _ (Lib.hid (near_nearT h 23)) (Lib.hid (near_nearT m 59)) (Lib.hid (near_nearT s 59)) (Lib.hid (near_nearT n 999999999)) w L
set_option maxRecDepth 100000 in
set_option maxHeartbeats 8000000 in
theorem rightK0 (h m s n h' m' s' n' : Int) (hne : h' ≠ h) (NR : Hid (∀ W, Sizes W → Calls Tryz.prog 65 #[.agg #[.int .i64 (h), .int .i64 (m), .int .i64 (s), .int .i64 (n)]] W (fun o w' => o = .returned (.agg #[.int .i64 (h'), .int .i64 (m'), .int .i64 (s'), .int .i64 (n')]) ∧ Below W.heap.size W w'))) (w : World) (L : Sizes w) :
    Calls Tryz.prog 33 #[.agg #[.int .i64 (h), .int .i64 (m), .int .i64 (s), .int .i64 (n)]] w (RetV w (.bool false)) := by
  go_enter Tryz.func33, Tryz.ntmps33
  go_upto_region 1 with (fail)
  have KB := ((BK.nil w).more4 (.int .i64 (h)) (.int .i64 (m)) (.int .i64 (s)) (.int .i64 (n)) 25)
  generalize (w.alloc (.cells #[.int .i64 (h), .int .i64 (m), .int .i64 (s), .int .i64 (n)] 25)) = w0 at *
  have e1 : (h' == h) = false := beq_eq_false_iff_ne.2 hne
  have e2 : (h == h') = false := beq_eq_false_iff_ne.2 (Ne.symm hne)
  have e3 : decide (h' = h) = false := decide_eq_false hne
  have e4 : decide (h = h') = false := decide_eq_false (Ne.symm hne)
  have e5 := Ne.symm hne
  obtain ⟨_, j0a, j0b, j0c, j0d, _⟩ := (KB.head).four
  go_region_held3 (fun w' => w'.cell? ⟨w.heap.size, 0, none⟩ = some (.int .i64 (h)) ∧ w'.cell? ⟨w.heap.size, 1, none⟩ = some (.int .i64 (m)) ∧ w'.cell? ⟨w.heap.size, 2, none⟩ = some (.int .i64 (s)) ∧ w'.cell? ⟨w.heap.size, 3, none⟩ = some (.int .i64 (n))) (first | (with_reducible exact ⟨(KB.head).four.2.1, (KB.head).four.2.2.1, (KB.head).four.2.2.2.1, (KB.head).four.2.2.2.2.1⟩) | (with_reducible exact ⟨(KB.drew.head).four.2.1, (KB.drew.head).four.2.2.1, (KB.drew.head).four.2.2.2.1, (KB.drew.head).four.2.2.2.2.1⟩) | go_keep)
    (first
      | (go_at_call 65; (with_reducible refine (NR.out _ (by with_reducible first | exact L.mono KB.hb | exact L.mono KB.drew.hb)).mono ?_); rintro e W9 ⟨rfl, k⟩
         with_reducible (first | replace KB := KB.below k | replace KB := KB.drew.below k)
         clear k
         obtain ⟨_, k0a, k0b, k0c, k0d, _⟩ := (KB.head).four))
  all_goals
    go_wp2
    go_ret
    exact ⟨rfl, by first | exact KB.hb | exact KB.drew.hb⟩
set_option maxRecDepth 100000 in
set_option maxHeartbeats 8000000 in
theorem rightK1 (h m s n m' s' n' : Int) (hne : m' ≠ m) (NR : Hid (∀ W, Sizes W → Calls Tryz.prog 65 #[.agg #[.int .i64 (h), .int .i64 (m), .int .i64 (s), .int .i64 (n)]] W (fun o w' => o = .returned (.agg #[.int .i64 (h), .int .i64 (m'), .int .i64 (s'), .int .i64 (n')]) ∧ Below W.heap.size W w'))) (w : World) (L : Sizes w) :
    Calls Tryz.prog 33 #[.agg #[.int .i64 (h), .int .i64 (m), .int .i64 (s), .int .i64 (n)]] w (RetV w (.bool false)) := by
  go_enter Tryz.func33, Tryz.ntmps33
  go_upto_region 1 with (fail)
  have KB := ((BK.nil w).more4 (.int .i64 (h)) (.int .i64 (m)) (.int .i64 (s)) (.int .i64 (n)) 25)
  generalize (w.alloc (.cells #[.int .i64 (h), .int .i64 (m), .int .i64 (s), .int .i64 (n)] 25)) = w0 at *
  have e1 : (m' == m) = false := beq_eq_false_iff_ne.2 hne
  have e2 : (m == m') = false := beq_eq_false_iff_ne.2 (Ne.symm hne)
  have e3 : decide (m' = m) = false := decide_eq_false hne
  have e4 : decide (m = m') = false := decide_eq_false (Ne.symm hne)
  have e5 := Ne.symm hne
  obtain ⟨_, j0a, j0b, j0c, j0d, _⟩ := (KB.head).four
  go_region_held3 (fun w' => w'.cell? ⟨w.heap.size, 0, none⟩ = some (.int .i64 (h)) ∧ w'.cell? ⟨w.heap.size, 1, none⟩ = some (.int .i64 (m)) ∧ w'.cell? ⟨w.heap.size, 2, none⟩ = some (.int .i64 (s)) ∧ w'.cell? ⟨w.heap.size, 3, none⟩ = some (.int .i64 (n))) (first | (with_reducible exact ⟨(KB.head).four.2.1, (KB.head).four.2.2.1, (KB.head).four.2.2.2.1, (KB.head).four.2.2.2.2.1⟩) | (with_reducible exact ⟨(KB.drew.head).four.2.1, (KB.drew.head).four.2.2.1, (KB.drew.head).four.2.2.2.1, (KB.drew.head).four.2.2.2.2.1⟩) | go_keep)
    (first
      | (go_at_call 65; (with_reducible refine (NR.out _ (by with_reducible first | exact L.mono KB.hb | exact L.mono KB.drew.hb)).mono ?_); rintro e W9 ⟨rfl, k⟩
         with_reducible (first | replace KB := KB.below k | replace KB := KB.drew.below k)
         clear k
         obtain ⟨_, k0a, k0b, k0c, k0d, _⟩ := (KB.head).four))
  all_goals
    go_wp2
    go_ret
    exact ⟨rfl, by first | exact KB.hb | exact KB.drew.hb⟩
set_option maxRecDepth 100000 in
set_option maxHeartbeats 8000000 in
theorem rightK2 (h m s n s' n' : Int) (hne : s' ≠ s) (NR : Hid (∀ W, Sizes W → Calls Tryz.prog 65 #[.agg #[.int .i64 (h), .int .i64 (m), .int .i64 (s), .int .i64 (n)]] W (fun o w' => o = .returned (.agg #[.int .i64 (h), .int .i64 (m), .int .i64 (s'), .int .i64 (n')]) ∧ Below W.heap.size W w'))) (w : World) (L : Sizes w) :
    Calls Tryz.prog 33 #[.agg #[.int .i64 (h), .int .i64 (m), .int .i64 (s), .int .i64 (n)]] w (RetV w (.bool false)) := by
  go_enter Tryz.func33, Tryz.ntmps33
  go_upto_region 1 with (fail)
  have KB := ((BK.nil w).more4 (.int .i64 (h)) (.int .i64 (m)) (.int .i64 (s)) (.int .i64 (n)) 25)
  generalize (w.alloc (.cells #[.int .i64 (h), .int .i64 (m), .int .i64 (s), .int .i64 (n)] 25)) = w0 at *
  have e1 : (s' == s) = false := beq_eq_false_iff_ne.2 hne
  have e2 : (s == s') = false := beq_eq_false_iff_ne.2 (Ne.symm hne)
  have e3 : decide (s' = s) = false := decide_eq_false hne
  have e4 : decide (s = s') = false := decide_eq_false (Ne.symm hne)
  have e5 := Ne.symm hne
  obtain ⟨_, j0a, j0b, j0c, j0d, _⟩ := (KB.head).four
  go_region_held3 (fun w' => w'.cell? ⟨w.heap.size, 0, none⟩ = some (.int .i64 (h)) ∧ w'.cell? ⟨w.heap.size, 1, none⟩ = some (.int .i64 (m)) ∧ w'.cell? ⟨w.heap.size, 2, none⟩ = some (.int .i64 (s)) ∧ w'.cell? ⟨w.heap.size, 3, none⟩ = some (.int .i64 (n))) (first | (with_reducible exact ⟨(KB.head).four.2.1, (KB.head).four.2.2.1, (KB.head).four.2.2.2.1, (KB.head).four.2.2.2.2.1⟩) | (with_reducible exact ⟨(KB.drew.head).four.2.1, (KB.drew.head).four.2.2.1, (KB.drew.head).four.2.2.2.1, (KB.drew.head).four.2.2.2.2.1⟩) | go_keep)
    (first
      | (go_at_call 65; (with_reducible refine (NR.out _ (by with_reducible first | exact L.mono KB.hb | exact L.mono KB.drew.hb)).mono ?_); rintro e W9 ⟨rfl, k⟩
         with_reducible (first | replace KB := KB.below k | replace KB := KB.drew.below k)
         clear k
         obtain ⟨_, k0a, k0b, k0c, k0d, _⟩ := (KB.head).four))
  all_goals
    go_wp2
    go_ret
    exact ⟨rfl, by first | exact KB.hb | exact KB.drew.hb⟩
set_option maxRecDepth 100000 in
set_option maxHeartbeats 8000000 in
theorem rightK3 (h m s n n' : Int) (hne : n' ≠ n) (NR : Hid (∀ W, Sizes W → Calls Tryz.prog 65 #[.agg #[.int .i64 (h), .int .i64 (m), .int .i64 (s), .int .i64 (n)]] W (fun o w' => o = .returned (.agg #[.int .i64 (h), .int .i64 (m), .int .i64 (s), .int .i64 (n')]) ∧ Below W.heap.size W w'))) (w : World) (L : Sizes w) :
    Calls Tryz.prog 33 #[.agg #[.int .i64 (h), .int .i64 (m), .int .i64 (s), .int .i64 (n)]] w (RetV w (.bool false)) := by
  go_enter Tryz.func33, Tryz.ntmps33
  go_upto_region 1 with (fail)
  have KB := ((BK.nil w).more4 (.int .i64 (h)) (.int .i64 (m)) (.int .i64 (s)) (.int .i64 (n)) 25)
  generalize (w.alloc (.cells #[.int .i64 (h), .int .i64 (m), .int .i64 (s), .int .i64 (n)] 25)) = w0 at *
  have e1 : (n' == n) = false := beq_eq_false_iff_ne.2 hne
  have e2 : (n == n') = false := beq_eq_false_iff_ne.2 (Ne.symm hne)
  have e3 : decide (n' = n) = false := decide_eq_false hne
  have e4 : decide (n = n') = false := decide_eq_false (Ne.symm hne)
  have e5 := Ne.symm hne
  obtain ⟨_, j0a, j0b, j0c, j0d, _⟩ := (KB.head).four
  go_region_held3 (fun w' => w'.cell? ⟨w.heap.size, 0, none⟩ = some (.int .i64 (h)) ∧ w'.cell? ⟨w.heap.size, 1, none⟩ = some (.int .i64 (m)) ∧ w'.cell? ⟨w.heap.size, 2, none⟩ = some (.int .i64 (s)) ∧ w'.cell? ⟨w.heap.size, 3, none⟩ = some (.int .i64 (n))) (first | (with_reducible exact ⟨(KB.head).four.2.1, (KB.head).four.2.2.1, (KB.head).four.2.2.2.1, (KB.head).four.2.2.2.2.1⟩) | (with_reducible exact ⟨(KB.drew.head).four.2.1, (KB.drew.head).four.2.2.1, (KB.drew.head).four.2.2.2.1, (KB.drew.head).four.2.2.2.2.1⟩) | go_keep)
    (first
      | (go_at_call 65; (with_reducible refine (NR.out _ (by with_reducible first | exact L.mono KB.hb | exact L.mono KB.drew.hb)).mono ?_); rintro e W9 ⟨rfl, k⟩
         with_reducible (first | replace KB := KB.below k | replace KB := KB.drew.below k)
         clear k
         obtain ⟨_, k0a, k0b, k0c, k0d, _⟩ := (KB.head).four))
  all_goals
    go_wp2
    go_ret
    exact ⟨rfl, by first | exact KB.hb | exact KB.drew.hb⟩
set_option maxRecDepth 100000 in
set_option maxHeartbeats 8000000 in
theorem rightK4 (h m s n : Int) (NR : Hid (∀ W, Sizes W → Calls Tryz.prog 65 #[.agg #[.int .i64 (h), .int .i64 (m), .int .i64 (s), .int .i64 (n)]] W (fun o w' => o = .returned (.agg #[.int .i64 (h), .int .i64 (m), .int .i64 (s), .int .i64 (n)]) ∧ Below W.heap.size W w'))) (w : World) (L : Sizes w) :
    Calls Tryz.prog 33 #[.agg #[.int .i64 (h), .int .i64 (m), .int .i64 (s), .int .i64 (n)]] w (RetV w (.bool true)) := by
  go_enter Tryz.func33, Tryz.ntmps33
  go_upto_region 1 with (fail)
  have KB := ((BK.nil w).more4 (.int .i64 (h)) (.int .i64 (m)) (.int .i64 (s)) (.int .i64 (n)) 25)
  generalize (w.alloc (.cells #[.int .i64 (h), .int .i64 (m), .int .i64 (s), .int .i64 (n)] 25)) = w0 at *
  obtain ⟨_, j0a, j0b, j0c, j0d, _⟩ := (KB.head).four
  go_region_held3 (fun w' => w'.cell? ⟨w.heap.size, 0, none⟩ = some (.int .i64 (h)) ∧ w'.cell? ⟨w.heap.size, 1, none⟩ = some (.int .i64 (m)) ∧ w'.cell? ⟨w.heap.size, 2, none⟩ = some (.int .i64 (s)) ∧ w'.cell? ⟨w.heap.size, 3, none⟩ = some (.int .i64 (n))) (first | (with_reducible exact ⟨(KB.head).four.2.1, (KB.head).four.2.2.1, (KB.head).four.2.2.2.1, (KB.head).four.2.2.2.2.1⟩) | (with_reducible exact ⟨(KB.drew.head).four.2.1, (KB.drew.head).four.2.2.1, (KB.drew.head).four.2.2.2.1, (KB.drew.head).four.2.2.2.2.1⟩) | go_keep)
    (first
      | (go_at_call 65; (with_reducible refine (NR.out _ (by with_reducible first | exact L.mono KB.hb | exact L.mono KB.drew.hb)).mono ?_); rintro e W9 ⟨rfl, k⟩
         with_reducible (first | replace KB := KB.below k | replace KB := KB.drew.below k)
         clear k
         obtain ⟨_, k0a, k0b, k0c, k0d, _⟩ := (KB.head).four))
  all_goals
    go_wp2
    go_ret
    exact ⟨rfl, by first | exact KB.hb | exact KB.drew.hb⟩
theorem near_same {x k : Int} : nearT x k = x ↔ 0 ≤ x ∧ x ≤ k := by
  unfold nearT
  repeat' split
  all_goals omega
theorem rightK (h m s n : Int) (w : World) (L : Sizes w) : Calls Tryz.prog 33 #[.agg #[.int .i64 (h), .int .i64 (m), .int .i64 (s), .int .i64 (n)]] w (RetV w (.bool (decide (okT h m s n)))) := by
  have NR := fun (W : World) (l : Sizes W) => nearestK h m s n W l
  have n0 := near_same (x := h) (k := 23)
  have n1 := near_same (x := m) (k := 59)
  have n2 := near_same (x := s) (k := 59)
  have n3 := near_same (x := n) (k := 999999999)
  by_cases t0 : nearT h 23 = h
  case neg => rw [decide_eq_false (by unfold okT; omega)]; exact rightK0 h m s n _ _ _ _ t0 (Lib.hid NR) w L
  by_cases t1 : nearT m 59 = m
  case neg => rw [decide_eq_false (by unfold okT; omega)]; rw [t0] at NR; exact rightK1 h m s n _ _ _ t1 (Lib.hid NR) w L
  by_cases t2 : nearT s 59 = s
  case neg => rw [decide_eq_false (by unfold okT; omega)]; rw [t0, t1] at NR; exact rightK2 h m s n _ _ t2 (Lib.hid NR) w L
  by_cases t3 : nearT n 999999999 = n
  case neg => rw [decide_eq_false (by unfold okT; omega)]; rw [t0, t1, t2] at NR; exact rightK3 h m s n _ t3 (Lib.hid NR) w L
  rw [decide_eq_true (by unfold okT; omega)]; rw [t0, t1, t2, t3] at NR; exact rightK4 h m s n (Lib.hid NR) w L
end Go.Proofs.YtlidicnbmfkghaaGreatDoor

/- What package clock has to answer, in the document's words; what the wide numbers of its laws are. -/
namespace Go.Proofs.YtlidicnbmfkghaaGreatDoor
open Go.RowKit

/-- What a call that answers a time and a bool leaves. -/
def RetTB (w : World) (h m s n : Int) (ok : Bool) (e : Ending) (w' : World) : Prop := e = .returned (.tuple #[.agg #[.int .i64 h, .int .i64 m, .int .i64 s, .int .i64 n], .bool ok]) ∧ Below w.heap.size w w'
/-- What a call that answers a number of 64 bits and a bool leaves. -/
def RetIB (w : World) (n : Int) (ok : Bool) (e : Ending) (w' : World) : Prop := e = .returned (.tuple #[.int .i64 n, .bool ok]) ∧ Below w.heap.size w w'
/-- what Nanos tells -/
def nvT (h m s n : Int) : Int := if okT h m s n then numT h m s n else 0
structure ClockP : Prop where
  right : ∀ (h m s n : Int) (_ : In64 h) (_ : In64 m) (_ : In64 s) (_ : In64 n) (W : World), Sizes W → Calls Tryz.prog 33 #[.agg #[.int .i64 (h), .int .i64 (m), .int .i64 (s), .int .i64 (n)]] W (RetV W (.bool (decide (okT h m s n))))
  nanos : ∀ (h m s n : Int) (_ : In64 h) (_ : In64 m) (_ : In64 s) (_ : In64 n) (W : World), Sizes W → Calls Tryz.prog 16 #[.agg #[.int .i64 (h), .int .i64 (m), .int .i64 (s), .int .i64 (n)]] W (RetIB W (nvT h m s n) (decide (okT h m s n)))
  of_no : ∀ (N : Int) (_ : In64 N) (_ : N < 0 ∨ 86400000000000 ≤ N) (W : World), Sizes W → Calls Tryz.prog 42 #[.int .i64 N] W (RetTB W 0 0 0 0 false)
  of_yes : ∀ (N h m s n : Int) (_ : okT h m s n) (_ : numT h m s n = N) (W : World), Sizes W → Calls Tryz.prog 42 #[.int .i64 N] W (RetTB W h m s n true)
  add_bad : ∀ (h m s n a : Int) (_ : In64 h) (_ : In64 m) (_ : In64 s) (_ : In64 n) (_ : InW a) (_ : ¬ okT h m s n) (W : World), Sizes W → Calls Tryz.prog 64 #[.agg #[.int .i64 (h), .int .i64 (m), .int .i64 (s), .int .i64 (n)], .agg #[.int .i64 (hiW a), .int .u64 (loW a)]] W (RetTNE W 0 0 0 0 0 1)
  add_over : ∀ (h m s n a : Int) (_ : okT h m s n) (_ : InW a) (_ : ¬ In64 ((numT h m s n + a) / 86400000000000)) (W : World), Sizes W → Calls Tryz.prog 64 #[.agg #[.int .i64 (h), .int .i64 (m), .int .i64 (s), .int .i64 (n)], .agg #[.int .i64 (hiW a), .int .u64 (loW a)]] W (RetTNE W 0 0 0 0 0 2)
  add_yes : ∀ (h m s n a x0 x1 x2 x3 : Int) (_ : okT h m s n) (_ : InW a) (_ : In64 ((numT h m s n + a) / 86400000000000)) (_ : okT x0 x1 x2 x3) (_ : numT x0 x1 x2 x3 = (numT h m s n + a) % 86400000000000) (W : World), Sizes W →
    Calls Tryz.prog 64 #[.agg #[.int .i64 (h), .int .i64 (m), .int .i64 (s), .int .i64 (n)], .agg #[.int .i64 (hiW a), .int .u64 (loW a)]] W (RetTNE W x0 x1 x2 x3 ((numT h m s n + a) / 86400000000000) 0)
  round_bad : ∀ (h m s n ic mo : Int) (_ : In64 h) (_ : In64 m) (_ : In64 s) (_ : In64 n) (_ : In64 ic) (_ : In64 mo) (_ : ¬ okT h m s n ∨ ic < 1 ∨ 86400000000000 < ic ∨ (86400000000000 : Int) % ic ≠ 0 ∨ mo < 1 ∨ 9 < mo) (W : World), Sizes W → Calls Tryz.prog 8 #[.agg #[.int .i64 (h), .int .i64 (m), .int .i64 (s), .int .i64 (n)], .int .i64 ic, .int .i64 mo] W (RetTNE W 0 0 0 0 0 1)
  round_day : ∀ (h m s n ic mo : Int) (_ : okT h m s n) (_ : ¬ ic < 1) (_ : ¬ 86400000000000 < ic) (_ : (86400000000000 : Int) % ic = 0) (_ : 1 ≤ mo) (_ : mo ≤ 9) (_ : rndT (numT h m s n) ic mo = 86400000000000) (W : World), Sizes W →
    Calls Tryz.prog 8 #[.agg #[.int .i64 (h), .int .i64 (m), .int .i64 (s), .int .i64 (n)], .int .i64 ic, .int .i64 mo] W (RetTNE W 0 0 0 0 1 0)
  round_yes : ∀ (h m s n ic mo x0 x1 x2 x3 : Int) (_ : okT h m s n) (_ : ¬ ic < 1) (_ : ¬ 86400000000000 < ic) (_ : (86400000000000 : Int) % ic = 0) (_ : 1 ≤ mo) (_ : mo ≤ 9) (_ : okT x0 x1 x2 x3) (_ : numT x0 x1 x2 x3 = rndT (numT h m s n) ic mo) (W : World), Sizes W →
    Calls Tryz.prog 8 #[.agg #[.int .i64 (h), .int .i64 (m), .int .i64 (s), .int .i64 (n)], .int .i64 ic, .int .i64 mo] W (RetTNE W x0 x1 x2 x3 0 0)
theorem wideNeg_ret (a : Int) (ha : InW a) (hm : InW (-a)) (W : World) : Calls Tryz.prog 102 #[.agg #[.int .i64 (hiW a), .int .u64 (loW a)]] W (fun e w' => e = .returned (.tuple #[.agg #[.int .i64 (hiW (-a)), .int .u64 (loW (-a))], .int .i64 0]) ∧ Below W.heap.size W w') := by
  have c := wideNeg a ha W
  unfold RetWE hv lv ev at c
  rwa [if_pos hm, if_pos hm, if_pos hm] at c
/-- who is later has the greater number -/
theorem cmp_num {h m s n h' m' s' n' : Int} (k : okT h m s n) (k' : okT h' m' s' n') :
    (numT h m s n < numT h' m' s' n' → cmpT h m s n h' m' s' n' = -1) ∧ (numT h m s n = numT h' m' s' n' → cmpT h m s n h' m' s' n' = 0) ∧ (numT h' m' s' n' < numT h m s n → cmpT h m s n h' m' s' n' = 1) := by
  obtain ⟨⟨h1, h2⟩, ⟨h3, h4⟩, ⟨h5, h6⟩, h7, h8⟩ := k
  obtain ⟨⟨g1, g2⟩, ⟨g3, g4⟩, ⟨g5, g6⟩, g7, g8⟩ := k'
  unfold numT cmpT
  refine ⟨fun e => ?_, fun e => ?_, fun e => ?_⟩
  all_goals
    repeat' split
    all_goals omega
end Go.Proofs.YtlidicnbmfkghaaGreatDoor

/- Package clock: the number of a time, the time of a number. -/
namespace Go.Proofs.YtlidicnbmfkghaaGreatDoor
open Go.RowKit

set_option maxRecDepth 100000 in
set_option maxHeartbeats 8000000 in
theorem nanosK_no (h m s n : Int) (RI : Hid (∀ W, Sizes W → Calls Tryz.prog 33 #[.agg #[.int .i64 (h), .int .i64 (m), .int .i64 (s), .int .i64 (n)]] W (fun o w' => o = .returned (.bool false) ∧ Below W.heap.size W w'))) (w : World) (L : Sizes w) :
    Calls Tryz.prog 16 #[.agg #[.int .i64 (h), .int .i64 (m), .int .i64 (s), .int .i64 (n)]] w (RetIB w 0 false) := by
  go_enter Tryz.func16, Tryz.ntmps16
  go_upto_region 1 with (fail)
  have KB := ((BK.nil w).more4 (.int .i64 (h)) (.int .i64 (m)) (.int .i64 (s)) (.int .i64 (n)) 25)
  generalize (w.alloc (.cells #[.int .i64 (h), .int .i64 (m), .int .i64 (s), .int .i64 (n)] 25)) = w0 at *
  obtain ⟨_, q0a, q0b, q0c, q0d, _⟩ := (KB.head).four
  go_wp2_with fail
  clear q0a q0b q0c q0d
  refine (RI.out _ (L.mono KB.hb)).mono ?_
  rintro e w1 ⟨rfl, k⟩
  replace KB := KB.below k
  clear k
  have HB := KB.hb
  go_wp2
  exact bodyPost_ret (v := .tuple #[.int .i64 (0), .bool false]) (by simp [results, Tryz.results16, go_sem]) rfl ⟨rfl, HB⟩
set_option maxRecDepth 100000 in
set_option maxHeartbeats 8000000 in
theorem nanosK_yes (h m s n N : Int) (ok : okT h m s n) (E : Hid (((h * 60 + m) * 60 + s) * 1000000000 + n = N)) (RI : Hid (∀ W, Sizes W → Calls Tryz.prog 33 #[.agg #[.int .i64 (h), .int .i64 (m), .int .i64 (s), .int .i64 (n)]] W (fun o w' => o = .returned (.bool true) ∧ Below W.heap.size W w'))) (w : World) (L : Sizes w) :
    Calls Tryz.prog 16 #[.agg #[.int .i64 (h), .int .i64 (m), .int .i64 (s), .int .i64 (n)]] w (RetIB w N true) := by
  obtain ⟨⟨k1, k2⟩, ⟨k3, k4⟩, ⟨k5, k6⟩, k7, k8⟩ := ok
  go_enter Tryz.func16, Tryz.ntmps16
  go_upto_region 1 with (fail)
  have KB := ((BK.nil w).more4 (.int .i64 (h)) (.int .i64 (m)) (.int .i64 (s)) (.int .i64 (n)) 25)
  generalize (w.alloc (.cells #[.int .i64 (h), .int .i64 (m), .int .i64 (s), .int .i64 (n)] 25)) = w0 at *
  obtain ⟨_, q0a, q0b, q0c, q0d, _⟩ := (KB.head).four
  go_wp2_with fail
  clear q0a q0b q0c q0d
  refine (RI.out _ (L.mono KB.hb)).mono ?_
  rintro e w1 ⟨rfl, k⟩
  replace KB := KB.below k
  clear k
  obtain ⟨_, q0a, q0b, q0c, q0d, _⟩ := (KB.head).four
  go_wp2_with fail
  clear q0a q0b q0c q0d
  refine (splitK h m s n _).mono ?_
  rintro e w2 ⟨rfl, k⟩
  replace KB := KB.below k
  clear k
  go_upto_region 4 with (fail)
  have ig0 : w2.heap.size ≠ w.heap.size := Nat.ne_of_gt (KB.head).lt
  have og0 := Ne.symm ig0
  have ggg : w.heap.size ≤ w2.heap.size := KB.hb.size
  replace KB := KB.more4 (.int .i64 (h)) (.int .i64 (m)) (.int .i64 (s)) (.int .i64 (n)) 77
  generalize w2.alloc (.cells #[.int .i64 (h), .int .i64 (m), .int .i64 (s), .int .i64 (n)] 77) = w3 at *
  generalize w2.heap.size = g at *
  go_wp2_with fail
  go_loopw [5, 12] (fun v5 v12 wr => (v5 = .int .i64 (0) ∧ v12 = .int .i64 0 ∧ BK w [(g, [.int .i64 (h), .int .i64 (m), .int .i64 (s), .int .i64 (n)]), (w.heap.size, [.int .i64 (h), .int .i64 (m), .int .i64 (s), .int .i64 (n)])] wr) ∨ (v5 = .int .i64 (h) ∧ v12 = .int .i64 1 ∧ BK w [(g, [.int .i64 (h), .int .i64 (m), .int .i64 (s), .int .i64 (n)]), (w.heap.size, [.int .i64 (h), .int .i64 (m), .int .i64 (s), .int .i64 (n)])] wr) ∨ (v5 = .int .i64 (h * 60 + m) ∧ v12 = .int .i64 2 ∧ BK w [(g, [.int .i64 (h), .int .i64 (m), .int .i64 (s), .int .i64 (n)]), (w.heap.size, [.int .i64 (h), .int .i64 (m), .int .i64 (s), .int .i64 (n)])] wr) ∨ (v5 = .int .i64 ((h * 60 + m) * 60 + s) ∧ v12 = .int .i64 3 ∧ BK w [(g, [.int .i64 (h), .int .i64 (m), .int .i64 (s), .int .i64 (n)]), (w.heap.size, [.int .i64 (h), .int .i64 (m), .int .i64 (s), .int .i64 (n)])] wr) ∨ (v5 = .int .i64 (((h * 60 + m) * 60 + s) * 1000000000 + n) ∧ v12 = .int .i64 4 ∧ BK w [(g, [.int .i64 (h), .int .i64 (m), .int .i64 (s), .int .i64 (n)]), (w.heap.size, [.int .i64 (h), .int .i64 (m), .int .i64 (s), .int .i64 (n)])] wr)) (fun _ v12 _ => (4 - intOf v12).toNat)
  case atStart => exact .inl ⟨rfl, rfl, KB⟩
  case round =>
    clear KB
    rcases hrel with ⟨rfl, rfl, KB⟩ | ⟨rfl, rfl, KB⟩ | ⟨rfl, rfl, KB⟩ | ⟨rfl, rfl, KB⟩ | ⟨rfl, rfl, KB⟩
    · have l := L.mono KB.hb
      obtain ⟨_, c0, c1, c2, c3⟩ := l
      clear c1
      clear c2
      clear c3
      obtain ⟨_, j0, j1, j2, j3, jf0, jf1, jf2, jf3⟩ := (KB.head).four
      replace KB := KB.drew
      go_wp2_with fail
      go_region
      go_wp2_with fail
      go_roundw
      case rel => exact .inr (.inl ⟨by go_num, rfl, KB⟩)
      case measure => simp [intOf]
    · have l := L.mono KB.hb
      obtain ⟨_, c0, c1, c2, c3⟩ := l
      clear c0
      clear c2
      clear c3
      obtain ⟨_, j0, j1, j2, j3, jf0, jf1, jf2, jf3⟩ := (KB.head).four
      replace KB := KB.drew
      go_wp2_with fail
      go_region
      go_wp2_with fail
      go_roundw
      case rel => exact .inr (.inr (.inl ⟨by go_num, rfl, KB⟩))
      case measure => simp [intOf]
    · have l := L.mono KB.hb
      obtain ⟨_, c0, c1, c2, c3⟩ := l
      clear c0
      clear c1
      clear c3
      obtain ⟨_, j0, j1, j2, j3, jf0, jf1, jf2, jf3⟩ := (KB.head).four
      replace KB := KB.drew
      go_wp2_with fail
      go_region
      go_wp2_with fail
      go_roundw
      case rel => exact .inr (.inr (.inr (.inl ⟨by go_num, rfl, KB⟩)))
      case measure => simp [intOf]
    · have l := L.mono KB.hb
      obtain ⟨_, c0, c1, c2, c3⟩ := l
      clear c0
      clear c1
      clear c2
      obtain ⟨_, j0, j1, j2, j3, jf0, jf1, jf2, jf3⟩ := (KB.head).four
      replace KB := KB.drew
      go_wp2_with fail
      go_region
      go_wp2_with fail
      go_roundw
      case rel => exact .inr (.inr (.inr (.inr (⟨by go_num, rfl, KB⟩))))
      case measure => simp [intOf]
    · have HB := KB.hb
      go_wp2
      exact bodyPost_ret (v := .tuple #[.int .i64 (((h * 60 + m) * 60 + s) * 1000000000 + n), .bool true]) (by simp [results, Tryz.results16, go_sem]) rfl ⟨by rw [E.out], HB⟩
theorem nanosK (h m s n : Int) (w : World) (L : Sizes w) : Calls Tryz.prog 16 #[.agg #[.int .i64 (h), .int .i64 (m), .int .i64 (s), .int .i64 (n)]] w (RetIB w (nvT h m s n) (decide (okT h m s n))) := by
  have RI := fun (W : World) (l : Sizes W) => rightK h m s n W l
  unfold nvT
  by_cases k : okT h m s n
  · rw [decide_eq_true k] at RI ⊢
    rw [if_pos k]
    exact nanosK_yes h m s n _ k (Lib.hid (by unfold numT; omega)) (Lib.hid RI) w L
  · rw [decide_eq_false k] at RI ⊢
    rw [if_neg k]
    exact nanosK_no h m s n (Lib.hid RI) w L
set_option maxRecDepth 100000 in
set_option maxHeartbeats 4000000 in
theorem ofK_lt (N : Int) (h0 : N < 0) (w : World) :
    Calls Tryz.prog 42 #[.int .i64 N] w (RetTB w 0 0 0 0 false) := by
  go_enter Tryz.func42, Tryz.ntmps42
  go_upto_region 1 with (fail)
  have KB := ((BK.nil w).more4 (.int .i64 (0)) (.int .i64 (0)) (.int .i64 (0)) (.int .i64 (0)) 25)
  generalize (w.alloc (.cells #[.int .i64 (0), .int .i64 (0), .int .i64 (0), .int .i64 (0)] 25)) = w0 at *
  have d0 : decide (N < 0) = true := decide_eq_true h0
  obtain ⟨_, r0, r1, r2, r3, rf0, rf1, rf2, rf3⟩ := (KB.head).four
  go_wp2
  obtain ⟨_, P0, P1, P2, P3, _⟩ := ((KB.head).self4 (.int .i64 (0)) (.int .i64 (0)) (.int .i64 (0)) (.int .i64 (0))).four
  have HB := ((((KB.hb.setCell (p := ⟨w.heap.size, 0, none⟩) (by show _ ≤ w.heap.size; omega) (.int .i64 (0))).setCell (p := ⟨w.heap.size, 1, none⟩) (by show _ ≤ w.heap.size; omega) (.int .i64 (0))).setCell (p := ⟨w.heap.size, 2, none⟩) (by show _ ≤ w.heap.size; omega) (.int .i64 (0))).setCell (p := ⟨w.heap.size, 3, none⟩) (by show _ ≤ w.heap.size; omega) (.int .i64 (0)))
  exact bodyPost_ret (v := .tuple #[.agg #[.int .i64 (0), .int .i64 (0), .int .i64 (0), .int .i64 (0)], .bool false]) (by simp [results, Tryz.results42, go_sem, P0, P1, P2, P3]) rfl ⟨rfl, HB⟩
set_option maxRecDepth 100000 in
set_option maxHeartbeats 4000000 in
theorem ofK_ge (N : Int) (h0 : ¬ N < 0) (h1 : 86400000000000 ≤ N) (w : World) :
    Calls Tryz.prog 42 #[.int .i64 N] w (RetTB w 0 0 0 0 false) := by
  go_enter Tryz.func42, Tryz.ntmps42
  go_upto_region 1 with (fail)
  have KB := ((BK.nil w).more4 (.int .i64 (0)) (.int .i64 (0)) (.int .i64 (0)) (.int .i64 (0)) 25)
  generalize (w.alloc (.cells #[.int .i64 (0), .int .i64 (0), .int .i64 (0), .int .i64 (0)] 25)) = w0 at *
  have d0 : decide (N < 0) = false := decide_eq_false h0
  have d1 : decide (86400000000000 ≤ N) = true := decide_eq_true h1
  obtain ⟨_, r0, r1, r2, r3, rf0, rf1, rf2, rf3⟩ := (KB.head).four
  go_wp2
  obtain ⟨_, P0, P1, P2, P3, _⟩ := ((KB.head).self4 (.int .i64 (0)) (.int .i64 (0)) (.int .i64 (0)) (.int .i64 (0))).four
  have HB := ((((KB.hb.setCell (p := ⟨w.heap.size, 0, none⟩) (by show _ ≤ w.heap.size; omega) (.int .i64 (0))).setCell (p := ⟨w.heap.size, 1, none⟩) (by show _ ≤ w.heap.size; omega) (.int .i64 (0))).setCell (p := ⟨w.heap.size, 2, none⟩) (by show _ ≤ w.heap.size; omega) (.int .i64 (0))).setCell (p := ⟨w.heap.size, 3, none⟩) (by show _ ≤ w.heap.size; omega) (.int .i64 (0)))
  exact bodyPost_ret (v := .tuple #[.agg #[.int .i64 (0), .int .i64 (0), .int .i64 (0), .int .i64 (0)], .bool false]) (by simp [results, Tryz.results42, go_sem, P0, P1, P2, P3]) rfl ⟨rfl, HB⟩
set_option maxRecDepth 100000 in
set_option maxHeartbeats 8000000 in
theorem ofK_core (N M1 M2 h m s n : Int) (n0 : 0 ≤ N) (_n1 : N < 86400000000000) (_m1 : 0 ≤ M1 ∧ M1 < 86400) (_m2 : 0 ≤ M2 ∧ M2 < 1440) (_h0 : 0 ≤ h ∧ h < 24) (Q0 : Hid (N / 1000000000 = M1)) (R0 : Hid (N % 1000000000 = n)) (Q1 : Hid (M1 / 60 = M2)) (R1 : Hid (M1 % 60 = s)) (Q2 : Hid (M2 / 60 = h)) (R2 : Hid (M2 % 60 = m)) (Q3 : Hid (h / 24 = 0)) (R3 : Hid (h % 24 = h)) (w : World) (L : Sizes w) :
    Calls Tryz.prog 42 #[.int .i64 N] w (RetTB w h m s n true) := by
  go_enter Tryz.func42, Tryz.ntmps42
  go_upto_region 1 with (fail)
  have KB := ((BK.nil w).more4 (.int .i64 (0)) (.int .i64 (0)) (.int .i64 (0)) (.int .i64 (0)) 25)
  generalize (w.alloc (.cells #[.int .i64 (0), .int .i64 (0), .int .i64 (0), .int .i64 (0)] 25)) = w0 at *
  have d0 : decide (N < 0) = false := decide_eq_false (by omega)
  have d1 : decide (86400000000000 ≤ N) = false := decide_eq_false (by omega)
  go_upto_region 4 with (fail)
  have ig0 : w0.heap.size ≠ w.heap.size := Nat.ne_of_gt (KB.head).lt
  have og0 := Ne.symm ig0
  have ggg : w.heap.size ≤ w0.heap.size := KB.hb.size
  replace KB := KB.more4 (.int .i64 (0)) (.int .i64 (0)) (.int .i64 (0)) (.int .i64 (0)) 77
  generalize w0.alloc (.cells #[.int .i64 (0), .int .i64 (0), .int .i64 (0), .int .i64 (0)] 77) = w1 at *
  generalize w0.heap.size = g at *
  clear d0 d1
  go_wp2_with fail
  go_loopw [0, 15] (fun v0 v15 wr => (v0 = .int .i64 N ∧ v15 = .int .i64 0 ∧ BK w [(g, [.int .i64 (0), .int .i64 (0), .int .i64 (0), .int .i64 (0)]), (w.heap.size, [.int .i64 (0), .int .i64 (0), .int .i64 (0), .int .i64 (0)])] wr) ∨ (v0 = .int .i64 M1 ∧ v15 = .int .i64 1 ∧ BK w [(g, [.int .i64 (0), .int .i64 (0), .int .i64 (0), .int .i64 (n)]), (w.heap.size, [.int .i64 (0), .int .i64 (0), .int .i64 (0), .int .i64 (0)])] wr) ∨ (v0 = .int .i64 M2 ∧ v15 = .int .i64 2 ∧ BK w [(g, [.int .i64 (0), .int .i64 (0), .int .i64 (s), .int .i64 (n)]), (w.heap.size, [.int .i64 (0), .int .i64 (0), .int .i64 (0), .int .i64 (0)])] wr) ∨ (v0 = .int .i64 h ∧ v15 = .int .i64 3 ∧ BK w [(g, [.int .i64 (0), .int .i64 (m), .int .i64 (s), .int .i64 (n)]), (w.heap.size, [.int .i64 (0), .int .i64 (0), .int .i64 (0), .int .i64 (0)])] wr) ∨ (v0 = .int .i64 0 ∧ v15 = .int .i64 4 ∧ BK w [(g, [.int .i64 (h), .int .i64 (m), .int .i64 (s), .int .i64 (n)]), (w.heap.size, [.int .i64 (0), .int .i64 (0), .int .i64 (0), .int .i64 (0)])] wr)) (fun _ v15 _ => (4 - intOf v15).toNat)
  case atStart => exact .inl ⟨rfl, rfl, KB⟩
  case round =>
    clear KB
    rcases hrel with ⟨rfl, rfl, KB⟩ | ⟨rfl, rfl, KB⟩ | ⟨rfl, rfl, KB⟩ | ⟨rfl, rfl, KB⟩ | ⟨rfl, rfl, KB⟩
    · have l := L.mono KB.hb
      obtain ⟨_, c0, c1, c2, c3⟩ := l
      clear c0
      clear c1
      clear c2
      obtain ⟨_, j0, j1, j2, j3, jf0, jf1, jf2, jf3⟩ := (KB.head).four
      have KN := KB.one 3 (.int .i64 (n)) (KB.head.at3 _) (by omega) (by intro x hx; simp only [List.mem_cons, List.not_mem_nil, or_false] at hx; rcases hx with rfl <;> (show _ ≠ _; omega))
      have q := Q0.out
      have r := R0.out
      go_wp2_with fail
      go_roundw
      case rel => exact .inr (.inl ⟨by rw [q], rfl, KN⟩)
      case measure => simp [intOf]
    · have l := L.mono KB.hb
      obtain ⟨_, c0, c1, c2, c3⟩ := l
      clear c0
      clear c1
      clear c3
      obtain ⟨_, j0, j1, j2, j3, jf0, jf1, jf2, jf3⟩ := (KB.head).four
      have KN := KB.one 2 (.int .i64 (s)) (KB.head.at2 _) (by omega) (by intro x hx; simp only [List.mem_cons, List.not_mem_nil, or_false] at hx; rcases hx with rfl <;> (show _ ≠ _; omega))
      have q := Q1.out
      have r := R1.out
      go_wp2_with fail
      go_roundw
      case rel => exact .inr (.inr (.inl ⟨by rw [q], rfl, KN⟩))
      case measure => simp [intOf]
    · have l := L.mono KB.hb
      obtain ⟨_, c0, c1, c2, c3⟩ := l
      clear c0
      clear c2
      clear c3
      obtain ⟨_, j0, j1, j2, j3, jf0, jf1, jf2, jf3⟩ := (KB.head).four
      have KN := KB.one 1 (.int .i64 (m)) (KB.head.at1 _) (by omega) (by intro x hx; simp only [List.mem_cons, List.not_mem_nil, or_false] at hx; rcases hx with rfl <;> (show _ ≠ _; omega))
      have q := Q2.out
      have r := R2.out
      go_wp2_with fail
      go_roundw
      case rel => exact .inr (.inr (.inr (.inl ⟨by rw [q], rfl, KN⟩)))
      case measure => simp [intOf]
    · have l := L.mono KB.hb
      obtain ⟨_, c0, c1, c2, c3⟩ := l
      clear c1
      clear c2
      clear c3
      obtain ⟨_, j0, j1, j2, j3, jf0, jf1, jf2, jf3⟩ := (KB.head).four
      have KN := KB.one 0 (.int .i64 (h)) (KB.head.at0 _) (by omega) (by intro x hx; simp only [List.mem_cons, List.not_mem_nil, or_false] at hx; rcases hx with rfl <;> (show _ ≠ _; omega))
      have q := Q3.out
      have r := R3.out
      go_wp2_with fail
      go_roundw
      case rel => exact .inr (.inr (.inr (.inr (⟨by rw [q], rfl, KN⟩))))
      case measure => simp [intOf]
    · obtain ⟨_, j0, j1, j2, j3, jf0, jf1, jf2, jf3⟩ := (KB.head).four
      go_wp2_with fail
      refine (joinedK h m s n _).mono ?_
      rintro e w9 ⟨rfl, k⟩
      replace KB := KB.below k
      clear k
      obtain ⟨_, r0, r1, r2, r3, rf0, rf1, rf2, rf3⟩ := (KB.tail.head).four
      go_wp2
      obtain ⟨_, P0, P1, P2, P3, _⟩ := ((KB.tail.head).self4 (.int .i64 (h)) (.int .i64 (m)) (.int .i64 (s)) (.int .i64 (n))).four
      have HB := ((((KB.hb.setCell (p := ⟨w.heap.size, 0, none⟩) (by show _ ≤ w.heap.size; omega) (.int .i64 (h))).setCell (p := ⟨w.heap.size, 1, none⟩) (by show _ ≤ w.heap.size; omega) (.int .i64 (m))).setCell (p := ⟨w.heap.size, 2, none⟩) (by show _ ≤ w.heap.size; omega) (.int .i64 (s))).setCell (p := ⟨w.heap.size, 3, none⟩) (by show _ ≤ w.heap.size; omega) (.int .i64 (n)))
      exact bodyPost_ret (v := .tuple #[.agg #[.int .i64 (h), .int .i64 (m), .int .i64 (s), .int .i64 (n)], .bool true]) (by simp [results, Tryz.results42, go_sem, P0, P1, P2, P3]) rfl ⟨rfl, HB⟩
theorem ofK_yes (N h m s n : Int) (k : okT h m s n) (e : numT h m s n = N) (w : World) (L : Sizes w) : Calls Tryz.prog 42 #[.int .i64 N] w (RetTB w h m s n true) := by
  obtain ⟨⟨h1, h2⟩, ⟨h3, h4⟩, ⟨h5, h6⟩, h7, h8⟩ := k
  unfold numT at e
  exact ofK_core N (h * 3600 + m * 60 + s) (h * 60 + m) h m s n (by omega) (by omega) ⟨by omega, by omega⟩ ⟨by omega, by omega⟩ ⟨by omega, by omega⟩ (Lib.hid (by omega)) (Lib.hid (by omega)) (Lib.hid (by omega)) (Lib.hid (by omega)) (Lib.hid (by omega)) (Lib.hid (by omega)) (Lib.hid (by omega)) (Lib.hid (by omega)) w L
theorem ofK_no (N : Int) (h : N < 0 ∨ 86400000000000 ≤ N) (w : World) : Calls Tryz.prog 42 #[.int .i64 N] w (RetTB w 0 0 0 0 false) := by
  by_cases h0 : N < 0
  · exact ofK_lt N h0 w
  · exact ofK_ge N h0 (by omega) w
end Go.Proofs.YtlidicnbmfkghaaGreatDoor

/- Two blocks of four cells that a statement makes anywhere among its calls. No walk here. -/
namespace Go.Proofs.YtlidicnbmfkghaaGreatDoor
open Go.RowKit

theorem size_set4 (W : World) (b : Nat) (x y z k : Value) : ((((W.setCell ⟨b, 0, none⟩ x).setCell ⟨b, 1, none⟩ y).setCell ⟨b, 2, none⟩ z).setCell ⟨b, 3, none⟩ k).heap.size = W.heap.size := by simp [World.setCell]
theorem two_ne {g h : Nat} {L : List Nat} (n : (g :: h :: L).Nodup) : g ≠ h ∧ h ≠ g :=
  have k : g ≠ h := fun e => (List.nodup_cons.1 n).1 (by simp [e])
  ⟨k, Ne.symm k⟩
section
variable {lo : Nat} {K : World → Prop} {z0 z1 z2 z3 : Value} {W : World} {L : List Nat} {g h : Nat}
theorem PreB.two1 (s : PreB lo K [z0, z1, z2, z3] W L) (hg : g ∈ L) (hh : h ∈ L) (ne : g ≠ h) (x0 x1 x2 x3 y0 y1 y2 y3 : Value) :
    TwoB lo K ((((((((W.setCell ⟨g, 0, none⟩ x0).setCell ⟨g, 1, none⟩ x1).setCell ⟨g, 2, none⟩ x2).setCell ⟨g, 3, none⟩ x3).setCell ⟨h, 0, none⟩ y0).setCell ⟨h, 1, none⟩ y1).setCell ⟨h, 2, none⟩ y2).setCell ⟨h, 3, none⟩ y3) g h [x0, x1, x2, x3] [y0, y1, y2, y3] :=
  ⟨s.keep, s.keep.setAll (s.ge h hh) [y0, y1, y2, y3] _ 0 (s.keep.setAll (s.ge g hg) [x0, x1, x2, x3] W 0 s.k),
    ((s.al g hg).self [x0, x1, x2, x3] rfl).farAll (Ne.symm ne) [y0, y1, y2, y3] 0, ((s.al h hh).farAll ne [x0, x1, x2, x3] 0).self [y0, y1, y2, y3] rfl, s.ge g hg, s.ge h hh, ne⟩
theorem PreB.two1a (s : PreB lo K [z0, z1, z2, z3] W [h, g]) (x0 x1 x2 x3 y0 y1 y2 y3 : Value) :
    TwoB lo K ((((((((W.setCell ⟨g, 0, none⟩ x0).setCell ⟨g, 1, none⟩ x1).setCell ⟨g, 2, none⟩ x2).setCell ⟨g, 3, none⟩ x3).setCell ⟨h, 0, none⟩ y0).setCell ⟨h, 1, none⟩ y1).setCell ⟨h, 2, none⟩ y2).setCell ⟨h, 3, none⟩ y3) g h [x0, x1, x2, x3] [y0, y1, y2, y3] :=
  s.two1 (by simp) (by simp) (fun e => (List.nodup_cons.1 s.nd).1 (by simp [e])) _ _ _ _ _ _ _ _
theorem PreB.two1b (s : PreB lo K [z0, z1, z2, z3] W [g, h]) (x0 x1 x2 x3 y0 y1 y2 y3 : Value) :
    TwoB lo K ((((((((W.setCell ⟨g, 0, none⟩ x0).setCell ⟨g, 1, none⟩ x1).setCell ⟨g, 2, none⟩ x2).setCell ⟨g, 3, none⟩ x3).setCell ⟨h, 0, none⟩ y0).setCell ⟨h, 1, none⟩ y1).setCell ⟨h, 2, none⟩ y2).setCell ⟨h, 3, none⟩ y3) g h [x0, x1, x2, x3] [y0, y1, y2, y3] :=
  s.two1 (by simp) (by simp) (fun e => (List.nodup_cons.1 s.nd).1 (by simp [e])) _ _ _ _ _ _ _ _
theorem PreB.two2a (s : PreB lo K [z0, z1, z2, z3] W [g]) (x0 x1 x2 x3 y0 y1 y2 y3 : Value) (t : TypeId) :
    TwoB lo K (((((W.setCell ⟨g, 0, none⟩ x0).setCell ⟨g, 1, none⟩ x1).setCell ⟨g, 2, none⟩ x2).setCell ⟨g, 3, none⟩ x3).alloc (.cells #[y0, y1, y2, y3] t)) g W.heap.size [x0, x1, x2, x3] [y0, y1, y2, y3] := by
  have bx := s.al g (by simp)
  have h1 := bx.lt
  have k := below_box ((((W.setCell ⟨g, 0, none⟩ x0).setCell ⟨g, 1, none⟩ x1).setCell ⟨g, 2, none⟩ x2).setCell ⟨g, 3, none⟩ x3) (.cells #[y0, y1, y2, y3] t)
  have nb := Blk.new4 ((((W.setCell ⟨g, 0, none⟩ x0).setCell ⟨g, 1, none⟩ x1).setCell ⟨g, 2, none⟩ x2).setCell ⟨g, 3, none⟩ x3) y0 y1 y2 y3 t
  rw [size_set4] at nb
  exact ⟨s.keep, s.keep.below _ _ (s.keep.setAll (s.ge g (by simp)) [x0, x1, x2, x3] W 0 s.k) k, (bx.self4 x0 x1 x2 x3).below k, nb, s.ge g (by simp), s.lt, by omega⟩
theorem PreB.two2b (s : PreB lo K [z0, z1, z2, z3] W [h]) (x0 x1 x2 x3 y0 y1 y2 y3 : Value) (t : TypeId) :
    TwoB lo K (((((W.setCell ⟨h, 0, none⟩ y0).setCell ⟨h, 1, none⟩ y1).setCell ⟨h, 2, none⟩ y2).setCell ⟨h, 3, none⟩ y3).alloc (.cells #[x0, x1, x2, x3] t)) W.heap.size h [x0, x1, x2, x3] [y0, y1, y2, y3] := by
  have bx := s.al h (by simp)
  have h1 := bx.lt
  have k := below_box ((((W.setCell ⟨h, 0, none⟩ y0).setCell ⟨h, 1, none⟩ y1).setCell ⟨h, 2, none⟩ y2).setCell ⟨h, 3, none⟩ y3) (.cells #[x0, x1, x2, x3] t)
  have nb := Blk.new4 ((((W.setCell ⟨h, 0, none⟩ y0).setCell ⟨h, 1, none⟩ y1).setCell ⟨h, 2, none⟩ y2).setCell ⟨h, 3, none⟩ y3) x0 x1 x2 x3 t
  rw [size_set4] at nb
  exact ⟨s.keep, s.keep.below _ _ (s.keep.setAll (s.ge h (by simp)) [y0, y1, y2, y3] W 0 s.k) k, nb, (bx.self4 y0 y1 y2 y3).below k, s.lt, s.ge h (by simp), by omega⟩
theorem PreB.two3a {zs : List Value} (s : PreB lo K zs W L) (x0 x1 x2 x3 y0 y1 y2 y3 : Value) (t : TypeId) :
    TwoB lo K ((W.alloc (.cells #[x0, x1, x2, x3] t)).alloc (.cells #[y0, y1, y2, y3] t)) W.heap.size (W.heap.size + 1) [x0, x1, x2, x3] [y0, y1, y2, y3] := by
  have k := below_thru (below_box W (.cells #[x0, x1, x2, x3] t)) (below_box _ (.cells #[y0, y1, y2, y3] t))
  have n1 := (Blk.new4 W x0 x1 x2 x3 t).below (below_box _ (.cells #[y0, y1, y2, y3] t))
  have n2 := Blk.new4 (W.alloc (.cells #[x0, x1, x2, x3] t)) y0 y1 y2 y3 t
  rw [World.size_alloc] at n2
  exact ⟨s.keep, s.keep.below _ _ s.k k, n1, n2, s.lt, by have := s.lt; omega, by omega⟩
theorem PreB.two3b {zs : List Value} (s : PreB lo K zs W L) (x0 x1 x2 x3 y0 y1 y2 y3 : Value) (t : TypeId) :
    TwoB lo K ((W.alloc (.cells #[y0, y1, y2, y3] t)).alloc (.cells #[x0, x1, x2, x3] t)) (W.heap.size + 1) W.heap.size [x0, x1, x2, x3] [y0, y1, y2, y3] := by
  have k := below_thru (below_box W (.cells #[y0, y1, y2, y3] t)) (below_box _ (.cells #[x0, x1, x2, x3] t))
  have n1 := (Blk.new4 W y0 y1 y2 y3 t).below (below_box _ (.cells #[x0, x1, x2, x3] t))
  have n2 := Blk.new4 (W.alloc (.cells #[y0, y1, y2, y3] t)) x0 x1 x2 x3 t
  rw [World.size_alloc] at n2
  exact ⟨s.keep, s.keep.below _ _ s.k k, n2, n1, by have := s.lt; omega, s.lt, by omega⟩
end
end Go.Proofs.YtlidicnbmfkghaaGreatDoor

/- Package clock: two times held against each other. -/
namespace Go.Proofs.YtlidicnbmfkghaaGreatDoor
open Go.RowKit

/-- the first that isn't 0 -/
def firstN (a b c d : Int) : Int := if a = 0 then if b = 0 then if c = 0 then d else c else b else a
theorem cmp_first (h m s n h' m' s' n' : Int) : cmpT h m s n h' m' s' n' = firstN (ord h h') (ord m m') (ord s s') (ord n n') := by
  have key : ∀ a b : Int, (ord a b = -1 ∧ a < b) ∨ (ord a b = 0 ∧ ¬ a < b ∧ ¬ b < a) ∨ (ord a b = 1 ∧ ¬ a < b ∧ b < a) := fun a b => by
    unfold ord; repeat' split
    all_goals omega
  unfold cmpT firstN
  rcases key h h' with ⟨e, a⟩ | ⟨e, a, b⟩ | ⟨e, a, b⟩
  · rw [e, if_pos a, if_neg (by omega)]
  · rw [e, if_neg a, if_neg b, if_pos rfl]
    rcases key m m' with ⟨e, a⟩ | ⟨e, a, b⟩ | ⟨e, a, b⟩
    · rw [e, if_pos a, if_neg (by omega)]
    · rw [e, if_neg a, if_neg b, if_pos rfl]
      rcases key s s' with ⟨e, a⟩ | ⟨e, a, b⟩ | ⟨e, a, b⟩
      · rw [e, if_pos a, if_neg (by omega)]
      · rw [e, if_neg a, if_neg b, if_pos rfl]
        rcases key n n' with ⟨e, a⟩ | ⟨e, a, b⟩ | ⟨e, a, b⟩
        · rw [e, if_pos a]
        · rw [e, if_neg a, if_neg b]
        · rw [e, if_neg a, if_pos b]
      · rw [e, if_neg a, if_pos b, if_neg (by omega)]
    · rw [e, if_neg a, if_pos b, if_neg (by omega)]
  · rw [e, if_neg a, if_pos b, if_neg (by omega)]
end Go.Proofs.YtlidicnbmfkghaaGreatDoor

/- Package clock: fields made right, nanoseconds added, times rounded; the package answers as the document says. -/
namespace Go.Proofs.YtlidicnbmfkghaaGreatDoor
open Go.RowKit

set_option maxRecDepth 100000 in
set_option maxHeartbeats 8000000 in
theorem behindK_no (c0 c1 q0 q1 r : Int) (BY : Hid (∀ W, Sizes W → Calls Tryz.prog 40 #[.agg #[.int .i64 (c0), .int .u64 (c1)], .int .i64 86400000000000] W (fun o w' => o = .returned (.tuple #[.agg #[.int .i64 (q0), .int .u64 (q1)], .int .i64 (r), .int .i64 (0)]) ∧ Below W.heap.size W w'))) (IN : Hid (∀ W, Sizes W → Calls Tryz.prog 41 #[.agg #[.int .i64 (q0), .int .u64 (q1)]] W (fun o w' => o = .returned (.tuple #[.int .i64 (0), .bool false]) ∧ Below W.heap.size W w'))) (w : World) (L : Sizes w) :
    Calls Tryz.prog 18 #[.agg #[.int .i64 (c0), .int .u64 (c1)]] w (RetTNE w 0 0 0 0 0 2) := by
  go_enter Tryz.func18, Tryz.ntmps18
  go_upto_region 1 with (fail)
  have KB := (((BK.nil w).more2 (.int .i64 (c0)) (.int .u64 (c1)) 45).more4 (.int .i64 (0)) (.int .i64 (0)) (.int .i64 (0)) (.int .i64 (0)) 25)
  simp only [World.size_alloc] at KB
  generalize ((w.alloc (.cells #[.int .i64 (c0), .int .u64 (c1)] 45)).alloc (.cells #[.int .i64 (0), .int .i64 (0), .int .i64 (0), .int .i64 (0)] 25)) = w0 at *
  obtain ⟨_, q0a, q0b, _⟩ := (KB.tail.head).two
  go_wp2_with fail
  clear q0a q0b
  refine (BY.out _ (L.mono KB.hb)).mono ?_
  rintro e w1 ⟨rfl, k⟩
  replace KB := KB.below k
  clear k
  go_upto_region 2 with (fail)
  have ig0 : w1.heap.size ≠ w.heap.size + 1 := Nat.ne_of_gt (KB.head).lt
  have og0 := Ne.symm ig0
  have ig1 : w1.heap.size ≠ w.heap.size := Nat.ne_of_gt (KB.tail.head).lt
  have og1 := Ne.symm ig1
  have ggg : w.heap.size ≤ w1.heap.size := KB.hb.size
  replace KB := KB.more2 (.int .i64 (q0)) (.int .u64 (q1)) 45
  generalize w1.alloc (.cells #[.int .i64 (q0), .int .u64 (q1)] 45) = w2 at *
  generalize w1.heap.size = g at *
  obtain ⟨_, q0a, q0b, _⟩ := (KB.head).two
  go_wp2_with fail
  clear q0a q0b
  refine (IN.out _ (L.mono KB.hb)).mono ?_
  rintro e w3 ⟨rfl, k⟩
  replace KB := KB.below k
  clear k
  obtain ⟨_, r0, r1, r2, r3, rf0, rf1, rf2, rf3⟩ := (KB.tail.head).four
  go_wp2
  obtain ⟨_, P0, P1, P2, P3, _⟩ := ((KB.tail.head).self4 (.int .i64 (0)) (.int .i64 (0)) (.int .i64 (0)) (.int .i64 (0))).four
  have HB := ((((KB.hb.setCell (p := ⟨w.heap.size + 1, 0, none⟩) (by show _ ≤ w.heap.size + 1; omega) (.int .i64 (0))).setCell (p := ⟨w.heap.size + 1, 1, none⟩) (by show _ ≤ w.heap.size + 1; omega) (.int .i64 (0))).setCell (p := ⟨w.heap.size + 1, 2, none⟩) (by show _ ≤ w.heap.size + 1; omega) (.int .i64 (0))).setCell (p := ⟨w.heap.size + 1, 3, none⟩) (by show _ ≤ w.heap.size + 1; omega) (.int .i64 (0)))
  exact bodyPost_ret (v := .tuple #[.agg #[.int .i64 (0), .int .i64 (0), .int .i64 (0), .int .i64 (0)], .int .i64 (0), .int .i64 (2)]) (by simp [results, Tryz.results18, go_sem, P0, P1, P2, P3]) rfl ⟨rfl, HB⟩
set_option maxRecDepth 100000 in
set_option maxHeartbeats 8000000 in
theorem behindK_yes (c0 c1 q0 q1 r k x0 x1 x2 x3 : Int) (BY : Hid (∀ W, Sizes W → Calls Tryz.prog 40 #[.agg #[.int .i64 (c0), .int .u64 (c1)], .int .i64 86400000000000] W (fun o w' => o = .returned (.tuple #[.agg #[.int .i64 (q0), .int .u64 (q1)], .int .i64 (r), .int .i64 (0)]) ∧ Below W.heap.size W w'))) (IN : Hid (∀ W, Sizes W → Calls Tryz.prog 41 #[.agg #[.int .i64 (q0), .int .u64 (q1)]] W (fun o w' => o = .returned (.tuple #[.int .i64 (k), .bool true]) ∧ Below W.heap.size W w'))) (OF : Hid (∀ W, Sizes W → Calls Tryz.prog 42 #[.int .i64 (r)] W (fun o w' => o = .returned (.tuple #[.agg #[.int .i64 (x0), .int .i64 (x1), .int .i64 (x2), .int .i64 (x3)], .bool true]) ∧ Below W.heap.size W w'))) (w : World) (L : Sizes w) :
    Calls Tryz.prog 18 #[.agg #[.int .i64 (c0), .int .u64 (c1)]] w (RetTNE w x0 x1 x2 x3 k 0) := by
  go_enter Tryz.func18, Tryz.ntmps18
  go_upto_region 1 with (fail)
  have KB := (((BK.nil w).more2 (.int .i64 (c0)) (.int .u64 (c1)) 45).more4 (.int .i64 (0)) (.int .i64 (0)) (.int .i64 (0)) (.int .i64 (0)) 25)
  simp only [World.size_alloc] at KB
  generalize ((w.alloc (.cells #[.int .i64 (c0), .int .u64 (c1)] 45)).alloc (.cells #[.int .i64 (0), .int .i64 (0), .int .i64 (0), .int .i64 (0)] 25)) = w0 at *
  obtain ⟨_, q0a, q0b, _⟩ := (KB.tail.head).two
  go_wp2_with fail
  clear q0a q0b
  refine (BY.out _ (L.mono KB.hb)).mono ?_
  rintro e w1 ⟨rfl, k⟩
  replace KB := KB.below k
  clear k
  go_upto_region 2 with (fail)
  have ig0 : w1.heap.size ≠ w.heap.size + 1 := Nat.ne_of_gt (KB.head).lt
  have og0 := Ne.symm ig0
  have ig1 : w1.heap.size ≠ w.heap.size := Nat.ne_of_gt (KB.tail.head).lt
  have og1 := Ne.symm ig1
  have ggg : w.heap.size ≤ w1.heap.size := KB.hb.size
  replace KB := KB.more2 (.int .i64 (q0)) (.int .u64 (q1)) 45
  generalize w1.alloc (.cells #[.int .i64 (q0), .int .u64 (q1)] 45) = w2 at *
  generalize w1.heap.size = g at *
  obtain ⟨_, q0a, q0b, _⟩ := (KB.head).two
  go_wp2_with fail
  clear q0a q0b
  refine (IN.out _ (L.mono KB.hb)).mono ?_
  rintro e w3 ⟨rfl, k⟩
  replace KB := KB.below k
  clear k
  go_wp2_with fail
  refine (OF.out _ (L.mono KB.hb)).mono ?_
  rintro e w4 ⟨rfl, k⟩
  replace KB := KB.below k
  clear k
  go_upto_region 6 with (fail)
  have ip0 : w4.heap.size ≠ g := Nat.ne_of_gt (KB.head).lt
  have op0 := Ne.symm ip0
  have ip1 : w4.heap.size ≠ w.heap.size + 1 := Nat.ne_of_gt (KB.tail.head).lt
  have op1 := Ne.symm ip1
  have ip2 : w4.heap.size ≠ w.heap.size := Nat.ne_of_gt (KB.tail.tail.head).lt
  have op2 := Ne.symm ip2
  have ggp : w.heap.size ≤ w4.heap.size := KB.hb.size
  replace KB := KB.more4 (.int .i64 (x0)) (.int .i64 (x1)) (.int .i64 (x2)) (.int .i64 (x3)) 25
  generalize w4.alloc (.cells #[.int .i64 (x0), .int .i64 (x1), .int .i64 (x2), .int .i64 (x3)] 25) = w5 at *
  generalize w4.heap.size = p at *
  obtain ⟨_, j0, j1, j2, j3, jf0, jf1, jf2, jf3⟩ := (KB.head).four
  obtain ⟨_, r0, r1, r2, r3, rf0, rf1, rf2, rf3⟩ := (KB.tail.tail.head).four
  go_wp2
  obtain ⟨_, P0, P1, P2, P3, _⟩ := ((KB.tail.tail.head).self4 (.int .i64 (x0)) (.int .i64 (x1)) (.int .i64 (x2)) (.int .i64 (x3))).four
  have HB := ((((KB.hb.setCell (p := ⟨w.heap.size + 1, 0, none⟩) (by show _ ≤ w.heap.size + 1; omega) (.int .i64 (x0))).setCell (p := ⟨w.heap.size + 1, 1, none⟩) (by show _ ≤ w.heap.size + 1; omega) (.int .i64 (x1))).setCell (p := ⟨w.heap.size + 1, 2, none⟩) (by show _ ≤ w.heap.size + 1; omega) (.int .i64 (x2))).setCell (p := ⟨w.heap.size + 1, 3, none⟩) (by show _ ≤ w.heap.size + 1; omega) (.int .i64 (x3)))
  exact bodyPost_ret (v := .tuple #[.agg #[.int .i64 (x0), .int .i64 (x1), .int .i64 (x2), .int .i64 (x3)], .int .i64 (k), .int .i64 (0)]) (by simp [results, Tryz.results18, go_sem, P0, P1, P2, P3]) rfl ⟨rfl, HB⟩
theorem fdiv_day (z : Int) : z.fdiv 86400000000000 = z / 86400000000000 ∧ z.fmod 86400000000000 = z % 86400000000000 :=
  ⟨Int.fdiv_eq_ediv_of_nonneg z (by decide), Int.fmod_eq_emod_of_nonneg z (by decide)⟩
theorem by_day (z : Int) (hz : InW z) (W : World) : Calls Tryz.prog 40 #[.agg #[.int .i64 (hiW z), .int .u64 (loW z)], .int .i64 86400000000000] W (fun o w' => o = .returned (.tuple #[.agg #[.int .i64 (hiW (z / 86400000000000)), .int .u64 (loW (z / 86400000000000))], .int .i64 (z % 86400000000000), .int .i64 0]) ∧ Below W.heap.size W w') := by
  have c := byW_any z 86400000000000 hz (by decide) (by decide) W
  rw [(fdiv_day z).1, (fdiv_day z).2] at c
  exact c
theorem int_no (z : Int) (h : ¬ In64 z) (W : World) : Calls Tryz.prog 41 #[.agg #[.int .i64 (hiW z), .int .u64 (loW z)]] W (fun o w' => o = .returned (.tuple #[.int .i64 0, .bool false]) ∧ Below W.heap.size W w') := by
  have c := wideInt z W
  unfold iv at c
  rw [if_neg h, decide_eq_false h] at c
  exact c
theorem int_yes (z : Int) (h : In64 z) (W : World) : Calls Tryz.prog 41 #[.agg #[.int .i64 (hiW z), .int .u64 (loW z)]] W (fun o w' => o = .returned (.tuple #[.int .i64 z, .bool true]) ∧ Below W.heap.size W w') := by
  have c := wideInt z W
  unfold iv at c
  rw [if_pos h, decide_eq_true h] at c
  exact c
theorem behindK_over (z : Int) (hz : InW z) (h : ¬ In64 (z / 86400000000000)) (w : World) (L : Sizes w) : Calls Tryz.prog 18 #[.agg #[.int .i64 (hiW z), .int .u64 (loW z)]] w (RetTNE w 0 0 0 0 0 2) :=
  behindK_no _ _ _ _ _ (Lib.hid fun W _ => by_day z hz W) (Lib.hid fun W _ => int_no _ h W) w L
theorem behindK (z x0 x1 x2 x3 : Int) (hz : InW z) (h : In64 (z / 86400000000000)) (hx : okT x0 x1 x2 x3) (e : numT x0 x1 x2 x3 = z % 86400000000000) (w : World) (L : Sizes w) : Calls Tryz.prog 18 #[.agg #[.int .i64 (hiW z), .int .u64 (loW z)]] w (RetTNE w x0 x1 x2 x3 (z / 86400000000000) 0) :=
  behindK_yes _ _ _ _ _ _ _ _ _ _ (Lib.hid fun W _ => by_day z hz W) (Lib.hid fun W _ => int_yes _ h W) (Lib.hid fun W l => ofK_yes _ x0 x1 x2 x3 hx e W l) w L
set_option maxRecDepth 100000 in
set_option maxHeartbeats 8000000 in
theorem addK_bad (h m s n a : Int) (NA : Hid (∀ W, Sizes W → Calls Tryz.prog 16 #[.agg #[.int .i64 (h), .int .i64 (m), .int .i64 (s), .int .i64 (n)]] W (fun o w' => o = .returned (.tuple #[.int .i64 (0), .bool false]) ∧ Below W.heap.size W w'))) (w : World) (L : Sizes w) :
    Calls Tryz.prog 64 #[.agg #[.int .i64 (h), .int .i64 (m), .int .i64 (s), .int .i64 (n)], .agg #[.int .i64 (hiW a), .int .u64 (loW a)]] w (RetTNE w 0 0 0 0 0 1) := by
  go_enter Tryz.func64, Tryz.ntmps64
  go_upto_region 1 with (fail)
  have KB := ((((BK.nil w).more4 (.int .i64 (h)) (.int .i64 (m)) (.int .i64 (s)) (.int .i64 (n)) 25).more2 (.int .i64 (hiW a)) (.int .u64 (loW a)) 45).more4 (.int .i64 (0)) (.int .i64 (0)) (.int .i64 (0)) (.int .i64 (0)) 25)
  simp only [World.size_alloc] at KB
  generalize (((w.alloc (.cells #[.int .i64 (h), .int .i64 (m), .int .i64 (s), .int .i64 (n)] 25)).alloc (.cells #[.int .i64 (hiW a), .int .u64 (loW a)] 45)).alloc (.cells #[.int .i64 (0), .int .i64 (0), .int .i64 (0), .int .i64 (0)] 25)) = w0 at *
  obtain ⟨_, q0a, q0b, q0c, q0d, _⟩ := (KB.tail.tail.head).four
  go_wp2_with fail
  clear q0a q0b q0c q0d
  refine (NA.out _ (L.mono KB.hb)).mono ?_
  rintro e w1 ⟨rfl, k⟩
  replace KB := KB.below k
  clear k
  obtain ⟨_, r0, r1, r2, r3, rf0, rf1, rf2, rf3⟩ := (KB.head).four
  go_wp2
  obtain ⟨_, P0, P1, P2, P3, _⟩ := ((KB.head).self4 (.int .i64 (0)) (.int .i64 (0)) (.int .i64 (0)) (.int .i64 (0))).four
  have HB := ((((KB.hb.setCell (p := ⟨w.heap.size + 1 + 1, 0, none⟩) (by show _ ≤ w.heap.size + 1 + 1; omega) (.int .i64 (0))).setCell (p := ⟨w.heap.size + 1 + 1, 1, none⟩) (by show _ ≤ w.heap.size + 1 + 1; omega) (.int .i64 (0))).setCell (p := ⟨w.heap.size + 1 + 1, 2, none⟩) (by show _ ≤ w.heap.size + 1 + 1; omega) (.int .i64 (0))).setCell (p := ⟨w.heap.size + 1 + 1, 3, none⟩) (by show _ ≤ w.heap.size + 1 + 1; omega) (.int .i64 (0)))
  exact bodyPost_ret (v := .tuple #[.agg #[.int .i64 (0), .int .i64 (0), .int .i64 (0), .int .i64 (0)], .int .i64 (0), .int .i64 (1)]) (by simp [results, Tryz.results64, go_sem, P0, P1, P2, P3]) rfl ⟨rfl, HB⟩
set_option maxRecDepth 100000 in
set_option maxHeartbeats 8000000 in
theorem addK_wide (h m s n a N o0 o1 : Int) (NA : Hid (∀ W, Sizes W → Calls Tryz.prog 16 #[.agg #[.int .i64 (h), .int .i64 (m), .int .i64 (s), .int .i64 (n)]] W (fun o w' => o = .returned (.tuple #[.int .i64 (N), .bool true]) ∧ Below W.heap.size W w'))) (OF : Hid (∀ W, Sizes W → Calls Tryz.prog 15 #[.int .i64 (N)] W (fun o w' => o = .returned (.agg #[.int .i64 (o0), .int .u64 (o1)]) ∧ Below W.heap.size W w'))) (AD : Hid (∀ W, Sizes W → Calls Tryz.prog 30 #[.agg #[.int .i64 (hiW a), .int .u64 (loW a)], .agg #[.int .i64 (o0), .int .u64 (o1)]] W (fun o w' => o = .returned (.tuple #[.agg #[.int .i64 0, .int .u64 0], .int .i64 (2)]) ∧ Below W.heap.size W w'))) (w : World) (L : Sizes w) :
    Calls Tryz.prog 64 #[.agg #[.int .i64 (h), .int .i64 (m), .int .i64 (s), .int .i64 (n)], .agg #[.int .i64 (hiW a), .int .u64 (loW a)]] w (RetTNE w 0 0 0 0 0 2) := by
  go_enter Tryz.func64, Tryz.ntmps64
  go_upto_region 1 with (fail)
  have KB := ((((BK.nil w).more4 (.int .i64 (h)) (.int .i64 (m)) (.int .i64 (s)) (.int .i64 (n)) 25).more2 (.int .i64 (hiW a)) (.int .u64 (loW a)) 45).more4 (.int .i64 (0)) (.int .i64 (0)) (.int .i64 (0)) (.int .i64 (0)) 25)
  simp only [World.size_alloc] at KB
  generalize (((w.alloc (.cells #[.int .i64 (h), .int .i64 (m), .int .i64 (s), .int .i64 (n)] 25)).alloc (.cells #[.int .i64 (hiW a), .int .u64 (loW a)] 45)).alloc (.cells #[.int .i64 (0), .int .i64 (0), .int .i64 (0), .int .i64 (0)] 25)) = w0 at *
  obtain ⟨_, q0a, q0b, q0c, q0d, _⟩ := (KB.tail.tail.head).four
  go_wp2_with fail
  clear q0a q0b q0c q0d
  refine (NA.out _ (L.mono KB.hb)).mono ?_
  rintro e w1 ⟨rfl, k⟩
  replace KB := KB.below k
  clear k
  go_wp2_with fail
  obtain ⟨lo, st, hlo⟩ := KB.preB (KB.tail.tail.head).lt [.int .i64 0, .int .u64 0]
  have la0 : w.heap.size + 1 + 1 ≤ lo := hlo (w.heap.size + 1 + 1, [.int .i64 (0), .int .i64 (0), .int .i64 (0), .int .i64 (0)]) (by simp)
  have la1 : w.heap.size + 1 ≤ lo := hlo (w.heap.size + 1, [.int .i64 (hiW a), .int .u64 (loW a)]) (by simp)
  have la2 : w.heap.size ≤ lo := hlo (w.heap.size, [.int .i64 (h), .int .i64 (m), .int .i64 (s), .int .i64 (n)]) (by simp)
  clear hlo
  go_cut [9, 10] (fun v9 v10 wx => CutOneB lo (BK w [(w.heap.size + 1 + 1, [.int .i64 (0), .int .i64 (0), .int .i64 (0), .int .i64 (0)]), (w.heap.size + 1, [.int .i64 (hiW a), .int .u64 (loW a)]), (w.heap.size, [.int .i64 (h), .int .i64 (m), .int .i64 (s), .int .i64 (n)])]) [.int .i64 0, .int .u64 0] v9 wx ∧ v10 = .int .i64 (2))
  case first =>
    obtain ⟨_, j0a, j0b, _⟩ := (KB.tail.head).two
    clear KB
    have ⟨gp0, gq0⟩ := behindB st.lt la1
    have ⟨gp1, gq1⟩ := behindB st.lt la2
    go_region_held3 (fun w' => w'.cell? ⟨w.heap.size + 1, 0, none⟩ = some (.int .i64 (hiW a)) ∧ w'.cell? ⟨w.heap.size + 1, 1, none⟩ = some (.int .u64 (loW a))) (first | (with_reducible exact ⟨(st.k.tail.head).two.2.1, (st.k.tail.head).two.2.2.1⟩) | (with_reducible exact ⟨((st.a2 _).k.tail.head).two.2.1, ((st.a2 _).k.tail.head).two.2.2.1⟩) | (with_reducible exact ⟨(st.drew.k.tail.head).two.2.1, (st.drew.k.tail.head).two.2.2.1⟩) | (with_reducible exact ⟨((st.a2 _).drew.k.tail.head).two.2.1, ((st.a2 _).drew.k.tail.head).two.2.2.1⟩) | go_keep)
      (first
        | (go_at_call 15; (with_reducible refine (OF.out _ (by with_reducible first | exact L.mono st.k.hb | exact L.mono (st.a2 _).k.hb | exact L.mono st.drew.k.hb | exact L.mono (st.a2 _).drew.k.hb)).mono ?_); rintro e x ⟨rfl, k⟩
           with_reducible (first | replace st := st.below k | replace st := (st.a2 _).below k | replace st := st.drew.below k | replace st := (st.a2 _).drew.below k)
           clear k
           obtain ⟨_, k0a, k0b, _⟩ := (st.k.tail.head).two
           obtain ⟨gp0, gq0⟩ := behindB st.lt la1
           try obtain ⟨gr0, gs0⟩ := behindB (st.ge _ (List.mem_cons_self ..)) la1
           obtain ⟨gp1, gq1⟩ := behindB st.lt la2
           try obtain ⟨gr1, gs1⟩ := behindB (st.ge _ (List.mem_cons_self ..)) la2
           try obtain ⟨_, ya, yb, _⟩ := ((st.al _ (List.mem_cons_self ..))).two)
        | (go_at_call 30; (with_reducible refine (AD.out _ (by with_reducible first | exact L.mono st.k.hb | exact L.mono (st.a2 _).k.hb | exact L.mono st.drew.k.hb | exact L.mono (st.a2 _).drew.k.hb)).mono ?_); rintro e x ⟨rfl, k⟩
           with_reducible (first | replace st := st.below k | replace st := (st.a2 _).below k | replace st := st.drew.below k | replace st := (st.a2 _).drew.below k)
           clear k
           obtain ⟨_, k0a, k0b, _⟩ := (st.k.tail.head).two
           obtain ⟨gp0, gq0⟩ := behindB st.lt la1
           try obtain ⟨gr0, gs0⟩ := behindB (st.ge _ (List.mem_cons_self ..)) la1
           obtain ⟨gp1, gq1⟩ := behindB st.lt la2
           try obtain ⟨gr1, gs1⟩ := behindB (st.ge _ (List.mem_cons_self ..)) la2
           try obtain ⟨_, ya, yb, _⟩ := ((st.al _ (List.mem_cons_self ..))).two))
    all_goals
      go_wp2_with fail
      go_meet
      refine ⟨⟨_, rfl, ?_⟩, rfl⟩
      with_reducible first | exact st.p2 _ _  | exact st.q2 _ _ _
  case rest =>
  obtain ⟨⟨g, rfl, s0⟩, rfl⟩ := hcut
  clear st
  have KB := s0.k.cons s0.bg
  have ggg := s0.gg
  have ig0 : g ≠ w.heap.size + 1 + 1 := by omega
  have og0 := Ne.symm ig0
  have ig1 : g ≠ w.heap.size + 1 := by omega
  have og1 := Ne.symm ig1
  have ig2 : g ≠ w.heap.size := by omega
  have og2 := Ne.symm ig2
  clear s0 la0 la1 la2 ggg
  clear lo
  obtain ⟨_, r0, r1, r2, r3, rf0, rf1, rf2, rf3⟩ := (KB.tail.head).four
  go_wp2
  obtain ⟨_, P0, P1, P2, P3, _⟩ := ((KB.tail.head).self4 (.int .i64 (0)) (.int .i64 (0)) (.int .i64 (0)) (.int .i64 (0))).four
  have HB := ((((KB.hb.setCell (p := ⟨w.heap.size + 1 + 1, 0, none⟩) (by show _ ≤ w.heap.size + 1 + 1; omega) (.int .i64 (0))).setCell (p := ⟨w.heap.size + 1 + 1, 1, none⟩) (by show _ ≤ w.heap.size + 1 + 1; omega) (.int .i64 (0))).setCell (p := ⟨w.heap.size + 1 + 1, 2, none⟩) (by show _ ≤ w.heap.size + 1 + 1; omega) (.int .i64 (0))).setCell (p := ⟨w.heap.size + 1 + 1, 3, none⟩) (by show _ ≤ w.heap.size + 1 + 1; omega) (.int .i64 (0)))
  exact bodyPost_ret (v := .tuple #[.agg #[.int .i64 (0), .int .i64 (0), .int .i64 (0), .int .i64 (0)], .int .i64 (0), .int .i64 (2)]) (by simp [results, Tryz.results64, go_sem, P0, P1, P2, P3]) rfl ⟨rfl, HB⟩
set_option maxRecDepth 100000 in
set_option maxHeartbeats 8000000 in
theorem addK_core (h m s n a N o0 o1 s0 s1 x0 x1 x2 x3 k e : Int) (NA : Hid (∀ W, Sizes W → Calls Tryz.prog 16 #[.agg #[.int .i64 (h), .int .i64 (m), .int .i64 (s), .int .i64 (n)]] W (fun o w' => o = .returned (.tuple #[.int .i64 (N), .bool true]) ∧ Below W.heap.size W w'))) (OF : Hid (∀ W, Sizes W → Calls Tryz.prog 15 #[.int .i64 (N)] W (fun o w' => o = .returned (.agg #[.int .i64 (o0), .int .u64 (o1)]) ∧ Below W.heap.size W w'))) (AD : Hid (∀ W, Sizes W → Calls Tryz.prog 30 #[.agg #[.int .i64 (hiW a), .int .u64 (loW a)], .agg #[.int .i64 (o0), .int .u64 (o1)]] W (fun o w' => o = .returned (.tuple #[.agg #[.int .i64 (s0), .int .u64 (s1)], .int .i64 (0)]) ∧ Below W.heap.size W w'))) (BE : Hid (∀ W, Sizes W → Calls Tryz.prog 18 #[.agg #[.int .i64 (s0), .int .u64 (s1)]] W (fun o w' => o = .returned (.tuple #[.agg #[.int .i64 (x0), .int .i64 (x1), .int .i64 (x2), .int .i64 (x3)], .int .i64 (k), .int .i64 (e)]) ∧ Below W.heap.size W w'))) (w : World) (L : Sizes w) :
    Calls Tryz.prog 64 #[.agg #[.int .i64 (h), .int .i64 (m), .int .i64 (s), .int .i64 (n)], .agg #[.int .i64 (hiW a), .int .u64 (loW a)]] w (RetTNE w x0 x1 x2 x3 k e) := by
  go_enter Tryz.func64, Tryz.ntmps64
  go_upto_region 1 with (fail)
  have KB := ((((BK.nil w).more4 (.int .i64 (h)) (.int .i64 (m)) (.int .i64 (s)) (.int .i64 (n)) 25).more2 (.int .i64 (hiW a)) (.int .u64 (loW a)) 45).more4 (.int .i64 (0)) (.int .i64 (0)) (.int .i64 (0)) (.int .i64 (0)) 25)
  simp only [World.size_alloc] at KB
  generalize (((w.alloc (.cells #[.int .i64 (h), .int .i64 (m), .int .i64 (s), .int .i64 (n)] 25)).alloc (.cells #[.int .i64 (hiW a), .int .u64 (loW a)] 45)).alloc (.cells #[.int .i64 (0), .int .i64 (0), .int .i64 (0), .int .i64 (0)] 25)) = w0 at *
  obtain ⟨_, q0a, q0b, q0c, q0d, _⟩ := (KB.tail.tail.head).four
  go_wp2_with fail
  clear q0a q0b q0c q0d
  refine (NA.out _ (L.mono KB.hb)).mono ?_
  rintro e w1 ⟨rfl, k⟩
  replace KB := KB.below k
  clear k
  go_wp2_with fail
  obtain ⟨lo, st, hlo⟩ := KB.preB (KB.tail.tail.head).lt [.int .i64 0, .int .u64 0]
  have la0 : w.heap.size + 1 + 1 ≤ lo := hlo (w.heap.size + 1 + 1, [.int .i64 (0), .int .i64 (0), .int .i64 (0), .int .i64 (0)]) (by simp)
  have la1 : w.heap.size + 1 ≤ lo := hlo (w.heap.size + 1, [.int .i64 (hiW a), .int .u64 (loW a)]) (by simp)
  have la2 : w.heap.size ≤ lo := hlo (w.heap.size, [.int .i64 (h), .int .i64 (m), .int .i64 (s), .int .i64 (n)]) (by simp)
  clear hlo
  go_cut [9, 10] (fun v9 v10 wx => CutOneB lo (BK w [(w.heap.size + 1 + 1, [.int .i64 (0), .int .i64 (0), .int .i64 (0), .int .i64 (0)]), (w.heap.size + 1, [.int .i64 (hiW a), .int .u64 (loW a)]), (w.heap.size, [.int .i64 (h), .int .i64 (m), .int .i64 (s), .int .i64 (n)])]) [.int .i64 (s0), .int .u64 (s1)] v9 wx ∧ v10 = .int .i64 (0))
  case first =>
    obtain ⟨_, j0a, j0b, _⟩ := (KB.tail.head).two
    clear KB
    have ⟨gp0, gq0⟩ := behindB st.lt la1
    have ⟨gp1, gq1⟩ := behindB st.lt la2
    go_region_held3 (fun w' => w'.cell? ⟨w.heap.size + 1, 0, none⟩ = some (.int .i64 (hiW a)) ∧ w'.cell? ⟨w.heap.size + 1, 1, none⟩ = some (.int .u64 (loW a))) (first | (with_reducible exact ⟨(st.k.tail.head).two.2.1, (st.k.tail.head).two.2.2.1⟩) | (with_reducible exact ⟨((st.a2 _).k.tail.head).two.2.1, ((st.a2 _).k.tail.head).two.2.2.1⟩) | (with_reducible exact ⟨(st.drew.k.tail.head).two.2.1, (st.drew.k.tail.head).two.2.2.1⟩) | (with_reducible exact ⟨((st.a2 _).drew.k.tail.head).two.2.1, ((st.a2 _).drew.k.tail.head).two.2.2.1⟩) | go_keep)
      (first
        | (go_at_call 15; (with_reducible refine (OF.out _ (by with_reducible first | exact L.mono st.k.hb | exact L.mono (st.a2 _).k.hb | exact L.mono st.drew.k.hb | exact L.mono (st.a2 _).drew.k.hb)).mono ?_); rintro e x ⟨rfl, k⟩
           with_reducible (first | replace st := st.below k | replace st := (st.a2 _).below k | replace st := st.drew.below k | replace st := (st.a2 _).drew.below k)
           clear k
           obtain ⟨_, k0a, k0b, _⟩ := (st.k.tail.head).two
           obtain ⟨gp0, gq0⟩ := behindB st.lt la1
           try obtain ⟨gr0, gs0⟩ := behindB (st.ge _ (List.mem_cons_self ..)) la1
           obtain ⟨gp1, gq1⟩ := behindB st.lt la2
           try obtain ⟨gr1, gs1⟩ := behindB (st.ge _ (List.mem_cons_self ..)) la2
           try obtain ⟨_, ya, yb, _⟩ := ((st.al _ (List.mem_cons_self ..))).two)
        | (go_at_call 30; (with_reducible refine (AD.out _ (by with_reducible first | exact L.mono st.k.hb | exact L.mono (st.a2 _).k.hb | exact L.mono st.drew.k.hb | exact L.mono (st.a2 _).drew.k.hb)).mono ?_); rintro e x ⟨rfl, k⟩
           with_reducible (first | replace st := st.below k | replace st := (st.a2 _).below k | replace st := st.drew.below k | replace st := (st.a2 _).drew.below k)
           clear k
           obtain ⟨_, k0a, k0b, _⟩ := (st.k.tail.head).two
           obtain ⟨gp0, gq0⟩ := behindB st.lt la1
           try obtain ⟨gr0, gs0⟩ := behindB (st.ge _ (List.mem_cons_self ..)) la1
           obtain ⟨gp1, gq1⟩ := behindB st.lt la2
           try obtain ⟨gr1, gs1⟩ := behindB (st.ge _ (List.mem_cons_self ..)) la2
           try obtain ⟨_, ya, yb, _⟩ := ((st.al _ (List.mem_cons_self ..))).two))
    all_goals
      go_wp2_with fail
      go_meet
      refine ⟨⟨_, rfl, ?_⟩, rfl⟩
      with_reducible first | exact st.p2 _ _  | exact st.q2 _ _ _
  case rest =>
  obtain ⟨⟨g, rfl, s0⟩, rfl⟩ := hcut
  clear st
  have KB := s0.k.cons s0.bg
  have ggg := s0.gg
  have ig0 : g ≠ w.heap.size + 1 + 1 := by omega
  have og0 := Ne.symm ig0
  have ig1 : g ≠ w.heap.size + 1 := by omega
  have og1 := Ne.symm ig1
  have ig2 : g ≠ w.heap.size := by omega
  have og2 := Ne.symm ig2
  clear s0 la0 la1 la2 ggg
  clear lo
  obtain ⟨_, q0a, q0b, _⟩ := (KB.head).two
  go_wp2_with fail
  clear q0a q0b
  refine (BE.out _ (L.mono KB.hb)).mono ?_
  rintro e w2 ⟨rfl, k⟩
  replace KB := KB.below k
  clear k
  obtain ⟨_, r0, r1, r2, r3, rf0, rf1, rf2, rf3⟩ := (KB.tail.head).four
  go_wp2
  obtain ⟨_, P0, P1, P2, P3, _⟩ := ((KB.tail.head).self4 (.int .i64 (x0)) (.int .i64 (x1)) (.int .i64 (x2)) (.int .i64 (x3))).four
  have HB := ((((KB.hb.setCell (p := ⟨w.heap.size + 1 + 1, 0, none⟩) (by show _ ≤ w.heap.size + 1 + 1; omega) (.int .i64 (x0))).setCell (p := ⟨w.heap.size + 1 + 1, 1, none⟩) (by show _ ≤ w.heap.size + 1 + 1; omega) (.int .i64 (x1))).setCell (p := ⟨w.heap.size + 1 + 1, 2, none⟩) (by show _ ≤ w.heap.size + 1 + 1; omega) (.int .i64 (x2))).setCell (p := ⟨w.heap.size + 1 + 1, 3, none⟩) (by show _ ≤ w.heap.size + 1 + 1; omega) (.int .i64 (x3)))
  exact bodyPost_ret (v := .tuple #[.agg #[.int .i64 (x0), .int .i64 (x1), .int .i64 (x2), .int .i64 (x3)], .int .i64 (k), .int .i64 (e)]) (by simp [results, Tryz.results64, go_sem, P0, P1, P2, P3]) rfl ⟨rfl, HB⟩
set_option maxRecDepth 100000 in
set_option maxHeartbeats 8000000 in
theorem roundK_t (h m s n ic mo : Int) (NA : Hid (∀ W, Sizes W → Calls Tryz.prog 16 #[.agg #[.int .i64 (h), .int .i64 (m), .int .i64 (s), .int .i64 (n)]] W (fun o w' => o = .returned (.tuple #[.int .i64 (0), .bool false]) ∧ Below W.heap.size W w'))) (w : World) (L : Sizes w) :
    Calls Tryz.prog 8 #[.agg #[.int .i64 (h), .int .i64 (m), .int .i64 (s), .int .i64 (n)], .int .i64 ic, .int .i64 mo] w (RetTNE w 0 0 0 0 0 1) := by
  go_enter Tryz.func8, Tryz.ntmps8
  go_upto_region 1 with (fail)
  have KB := (((BK.nil w).more4 (.int .i64 (h)) (.int .i64 (m)) (.int .i64 (s)) (.int .i64 (n)) 25).more4 (.int .i64 (0)) (.int .i64 (0)) (.int .i64 (0)) (.int .i64 (0)) 25)
  simp only [World.size_alloc] at KB
  generalize ((w.alloc (.cells #[.int .i64 (h), .int .i64 (m), .int .i64 (s), .int .i64 (n)] 25)).alloc (.cells #[.int .i64 (0), .int .i64 (0), .int .i64 (0), .int .i64 (0)] 25)) = w0 at *
  obtain ⟨_, q0a, q0b, q0c, q0d, _⟩ := (KB.tail.head).four
  go_wp2_with fail
  clear q0a q0b q0c q0d
  refine (NA.out _ (L.mono KB.hb)).mono ?_
  rintro e w1 ⟨rfl, k⟩
  replace KB := KB.below k
  clear k
  obtain ⟨_, r0, r1, r2, r3, rf0, rf1, rf2, rf3⟩ := (KB.head).four
  go_wp2
  obtain ⟨_, P0, P1, P2, P3, _⟩ := ((KB.head).self4 (.int .i64 (0)) (.int .i64 (0)) (.int .i64 (0)) (.int .i64 (0))).four
  have HB := ((((KB.hb.setCell (p := ⟨w.heap.size + 1, 0, none⟩) (by show _ ≤ w.heap.size + 1; omega) (.int .i64 (0))).setCell (p := ⟨w.heap.size + 1, 1, none⟩) (by show _ ≤ w.heap.size + 1; omega) (.int .i64 (0))).setCell (p := ⟨w.heap.size + 1, 2, none⟩) (by show _ ≤ w.heap.size + 1; omega) (.int .i64 (0))).setCell (p := ⟨w.heap.size + 1, 3, none⟩) (by show _ ≤ w.heap.size + 1; omega) (.int .i64 (0)))
  exact bodyPost_ret (v := .tuple #[.agg #[.int .i64 (0), .int .i64 (0), .int .i64 (0), .int .i64 (0)], .int .i64 (0), .int .i64 (1)]) (by simp [results, Tryz.results8, go_sem, P0, P1, P2, P3]) rfl ⟨rfl, HB⟩
set_option maxRecDepth 100000 in
set_option maxHeartbeats 8000000 in
theorem roundK_lt (h m s n ic mo N : Int) (h1 : ic < 1) (NA : Hid (∀ W, Sizes W → Calls Tryz.prog 16 #[.agg #[.int .i64 (h), .int .i64 (m), .int .i64 (s), .int .i64 (n)]] W (fun o w' => o = .returned (.tuple #[.int .i64 (N), .bool true]) ∧ Below W.heap.size W w'))) (w : World) (L : Sizes w) :
    Calls Tryz.prog 8 #[.agg #[.int .i64 (h), .int .i64 (m), .int .i64 (s), .int .i64 (n)], .int .i64 ic, .int .i64 mo] w (RetTNE w 0 0 0 0 0 1) := by
  go_enter Tryz.func8, Tryz.ntmps8
  go_upto_region 1 with (fail)
  have KB := (((BK.nil w).more4 (.int .i64 (h)) (.int .i64 (m)) (.int .i64 (s)) (.int .i64 (n)) 25).more4 (.int .i64 (0)) (.int .i64 (0)) (.int .i64 (0)) (.int .i64 (0)) 25)
  simp only [World.size_alloc] at KB
  generalize ((w.alloc (.cells #[.int .i64 (h), .int .i64 (m), .int .i64 (s), .int .i64 (n)] 25)).alloc (.cells #[.int .i64 (0), .int .i64 (0), .int .i64 (0), .int .i64 (0)] 25)) = w0 at *
  obtain ⟨_, q0a, q0b, q0c, q0d, _⟩ := (KB.tail.head).four
  go_wp2_with fail
  clear q0a q0b q0c q0d
  refine (NA.out _ (L.mono KB.hb)).mono ?_
  rintro e w1 ⟨rfl, k⟩
  replace KB := KB.below k
  clear k
  have d1 : decide (ic < 1) = true := decide_eq_true h1
  obtain ⟨_, r0, r1, r2, r3, rf0, rf1, rf2, rf3⟩ := (KB.head).four
  go_wp2
  obtain ⟨_, P0, P1, P2, P3, _⟩ := ((KB.head).self4 (.int .i64 (0)) (.int .i64 (0)) (.int .i64 (0)) (.int .i64 (0))).four
  have HB := ((((KB.hb.setCell (p := ⟨w.heap.size + 1, 0, none⟩) (by show _ ≤ w.heap.size + 1; omega) (.int .i64 (0))).setCell (p := ⟨w.heap.size + 1, 1, none⟩) (by show _ ≤ w.heap.size + 1; omega) (.int .i64 (0))).setCell (p := ⟨w.heap.size + 1, 2, none⟩) (by show _ ≤ w.heap.size + 1; omega) (.int .i64 (0))).setCell (p := ⟨w.heap.size + 1, 3, none⟩) (by show _ ≤ w.heap.size + 1; omega) (.int .i64 (0)))
  exact bodyPost_ret (v := .tuple #[.agg #[.int .i64 (0), .int .i64 (0), .int .i64 (0), .int .i64 (0)], .int .i64 (0), .int .i64 (1)]) (by simp [results, Tryz.results8, go_sem, P0, P1, P2, P3]) rfl ⟨rfl, HB⟩
set_option maxRecDepth 100000 in
set_option maxHeartbeats 8000000 in
theorem roundK_rem (h m s n ic mo N : Int) (h1 : 1 ≤ ic) (_h2 : ic ≤ 9223372036854775807) (h3 : (86400000000000 : Int) % ic ≠ 0) (NA : Hid (∀ W, Sizes W → Calls Tryz.prog 16 #[.agg #[.int .i64 (h), .int .i64 (m), .int .i64 (s), .int .i64 (n)]] W (fun o w' => o = .returned (.tuple #[.int .i64 (N), .bool true]) ∧ Below W.heap.size W w'))) (w : World) (L : Sizes w) :
    Calls Tryz.prog 8 #[.agg #[.int .i64 (h), .int .i64 (m), .int .i64 (s), .int .i64 (n)], .int .i64 ic, .int .i64 mo] w (RetTNE w 0 0 0 0 0 1) := by
  go_enter Tryz.func8, Tryz.ntmps8
  go_upto_region 1 with (fail)
  have KB := (((BK.nil w).more4 (.int .i64 (h)) (.int .i64 (m)) (.int .i64 (s)) (.int .i64 (n)) 25).more4 (.int .i64 (0)) (.int .i64 (0)) (.int .i64 (0)) (.int .i64 (0)) 25)
  simp only [World.size_alloc] at KB
  generalize ((w.alloc (.cells #[.int .i64 (h), .int .i64 (m), .int .i64 (s), .int .i64 (n)] 25)).alloc (.cells #[.int .i64 (0), .int .i64 (0), .int .i64 (0), .int .i64 (0)] 25)) = w0 at *
  obtain ⟨_, q0a, q0b, q0c, q0d, _⟩ := (KB.tail.head).four
  go_wp2_with fail
  clear q0a q0b q0c q0d
  refine (NA.out _ (L.mono KB.hb)).mono ?_
  rintro e w1 ⟨rfl, k⟩
  replace KB := KB.below k
  clear k
  have d1 : decide (ic < 1) = false := decide_eq_false (by omega)
  have d0 : ¬ ic = 0 := by omega
  have d3 : (ic == 0) = false := by rw [beq_eq_false_iff_ne]; exact d0
  have d2 : ((86400000000000 : Int) % ic != 0) = true := bne_iff_ne.2 h3
  obtain ⟨_, r0, r1, r2, r3, rf0, rf1, rf2, rf3⟩ := (KB.head).four
  go_wp2
  obtain ⟨_, P0, P1, P2, P3, _⟩ := ((KB.head).self4 (.int .i64 (0)) (.int .i64 (0)) (.int .i64 (0)) (.int .i64 (0))).four
  have HB := ((((KB.hb.setCell (p := ⟨w.heap.size + 1, 0, none⟩) (by show _ ≤ w.heap.size + 1; omega) (.int .i64 (0))).setCell (p := ⟨w.heap.size + 1, 1, none⟩) (by show _ ≤ w.heap.size + 1; omega) (.int .i64 (0))).setCell (p := ⟨w.heap.size + 1, 2, none⟩) (by show _ ≤ w.heap.size + 1; omega) (.int .i64 (0))).setCell (p := ⟨w.heap.size + 1, 3, none⟩) (by show _ ≤ w.heap.size + 1; omega) (.int .i64 (0)))
  exact bodyPost_ret (v := .tuple #[.agg #[.int .i64 (0), .int .i64 (0), .int .i64 (0), .int .i64 (0)], .int .i64 (0), .int .i64 (1)]) (by simp [results, Tryz.results8, go_sem, P0, P1, P2, P3]) rfl ⟨rfl, HB⟩
set_option maxRecDepth 100000 in
set_option maxHeartbeats 8000000 in
theorem roundK_mode (h m s n ic mo N o0 o1 p0 p1 : Int) (h1 : 1 ≤ ic) (_h2 : ic ≤ 9223372036854775807) (h3 : (86400000000000 : Int) % ic = 0) (NA : Hid (∀ W, Sizes W → Calls Tryz.prog 16 #[.agg #[.int .i64 (h), .int .i64 (m), .int .i64 (s), .int .i64 (n)]] W (fun o w' => o = .returned (.tuple #[.int .i64 (N), .bool true]) ∧ Below W.heap.size W w'))) (O1 : Hid (∀ W, Sizes W → Calls Tryz.prog 15 #[.int .i64 (N)] W (fun o w' => o = .returned (.agg #[.int .i64 (o0), .int .u64 (o1)]) ∧ Below W.heap.size W w'))) (O2 : Hid (∀ W, Sizes W → Calls Tryz.prog 15 #[.int .i64 (ic)] W (fun o w' => o = .returned (.agg #[.int .i64 (p0), .int .u64 (p1)]) ∧ Below W.heap.size W w'))) (TO : Hid (∀ W, Sizes W → Calls Tryz.prog 17 #[.agg #[.int .i64 (o0), .int .u64 (o1)], .agg #[.int .i64 (p0), .int .u64 (p1)], .int .i64 mo] W (fun o w' => o = .returned (.tuple #[.agg #[.int .i64 0, .int .u64 0], .int .i64 (1)]) ∧ Below W.heap.size W w'))) (w : World) (L : Sizes w) :
    Calls Tryz.prog 8 #[.agg #[.int .i64 (h), .int .i64 (m), .int .i64 (s), .int .i64 (n)], .int .i64 ic, .int .i64 mo] w (RetTNE w 0 0 0 0 0 1) := by
  go_enter Tryz.func8, Tryz.ntmps8
  go_upto_region 1 with (fail)
  have KB := (((BK.nil w).more4 (.int .i64 (h)) (.int .i64 (m)) (.int .i64 (s)) (.int .i64 (n)) 25).more4 (.int .i64 (0)) (.int .i64 (0)) (.int .i64 (0)) (.int .i64 (0)) 25)
  simp only [World.size_alloc] at KB
  generalize ((w.alloc (.cells #[.int .i64 (h), .int .i64 (m), .int .i64 (s), .int .i64 (n)] 25)).alloc (.cells #[.int .i64 (0), .int .i64 (0), .int .i64 (0), .int .i64 (0)] 25)) = w0 at *
  obtain ⟨_, q0a, q0b, q0c, q0d, _⟩ := (KB.tail.head).four
  go_wp2_with fail
  clear q0a q0b q0c q0d
  refine (NA.out _ (L.mono KB.hb)).mono ?_
  rintro e w1 ⟨rfl, k⟩
  replace KB := KB.below k
  clear k
  have d1 : decide (ic < 1) = false := decide_eq_false (by omega)
  have d0 : ¬ ic = 0 := by omega
  have d3 : (ic == 0) = false := by rw [beq_eq_false_iff_ne]; exact d0
  have d2 : ((86400000000000 : Int) % ic != 0) = false := by rw [bne_eq_false_iff_eq]; exact h3
  go_wp2_with fail
  refine (O1.out _ (L.mono KB.hb)).mono ?_
  rintro e w2 ⟨rfl, k⟩
  replace KB := KB.below k
  clear k
  go_wp2_with fail
  refine (O2.out _ (L.mono KB.hb)).mono ?_
  rintro e w3 ⟨rfl, k⟩
  replace KB := KB.below k
  clear k
  go_wp2_with fail
  refine (TO.out _ (L.mono KB.hb)).mono ?_
  rintro e w4 ⟨rfl, k⟩
  replace KB := KB.below k
  clear k
  clear d0 d1 d2 d3 h3
  go_upto_region 5 with (fail)
  have ig0 : w4.heap.size ≠ w.heap.size + 1 := Nat.ne_of_gt (KB.head).lt
  have og0 := Ne.symm ig0
  have ig1 : w4.heap.size ≠ w.heap.size := Nat.ne_of_gt (KB.tail.head).lt
  have og1 := Ne.symm ig1
  have ggg : w.heap.size ≤ w4.heap.size := KB.hb.size
  replace KB := KB.more2 (.int .i64 0) (.int .u64 0) 45
  generalize w4.alloc (.cells #[.int .i64 0, .int .u64 0] 45) = w5 at *
  generalize w4.heap.size = g at *
  obtain ⟨_, r0, r1, r2, r3, rf0, rf1, rf2, rf3⟩ := (KB.tail.head).four
  go_wp2
  obtain ⟨_, P0, P1, P2, P3, _⟩ := ((KB.tail.head).self4 (.int .i64 (0)) (.int .i64 (0)) (.int .i64 (0)) (.int .i64 (0))).four
  have HB := ((((KB.hb.setCell (p := ⟨w.heap.size + 1, 0, none⟩) (by show _ ≤ w.heap.size + 1; omega) (.int .i64 (0))).setCell (p := ⟨w.heap.size + 1, 1, none⟩) (by show _ ≤ w.heap.size + 1; omega) (.int .i64 (0))).setCell (p := ⟨w.heap.size + 1, 2, none⟩) (by show _ ≤ w.heap.size + 1; omega) (.int .i64 (0))).setCell (p := ⟨w.heap.size + 1, 3, none⟩) (by show _ ≤ w.heap.size + 1; omega) (.int .i64 (0)))
  exact bodyPost_ret (v := .tuple #[.agg #[.int .i64 (0), .int .i64 (0), .int .i64 (0), .int .i64 (0)], .int .i64 (0), .int .i64 (1)]) (by simp [results, Tryz.results8, go_sem, P0, P1, P2, P3]) rfl ⟨rfl, HB⟩
set_option maxRecDepth 100000 in
set_option maxHeartbeats 8000000 in
theorem roundK_core (h m s n ic mo N o0 o1 p0 p1 s0 s1 x0 x1 x2 x3 k e : Int) (h1 : 1 ≤ ic) (_h2 : ic ≤ 9223372036854775807) (h3 : (86400000000000 : Int) % ic = 0) (NA : Hid (∀ W, Sizes W → Calls Tryz.prog 16 #[.agg #[.int .i64 (h), .int .i64 (m), .int .i64 (s), .int .i64 (n)]] W (fun o w' => o = .returned (.tuple #[.int .i64 (N), .bool true]) ∧ Below W.heap.size W w'))) (O1 : Hid (∀ W, Sizes W → Calls Tryz.prog 15 #[.int .i64 (N)] W (fun o w' => o = .returned (.agg #[.int .i64 (o0), .int .u64 (o1)]) ∧ Below W.heap.size W w'))) (O2 : Hid (∀ W, Sizes W → Calls Tryz.prog 15 #[.int .i64 (ic)] W (fun o w' => o = .returned (.agg #[.int .i64 (p0), .int .u64 (p1)]) ∧ Below W.heap.size W w'))) (TO : Hid (∀ W, Sizes W → Calls Tryz.prog 17 #[.agg #[.int .i64 (o0), .int .u64 (o1)], .agg #[.int .i64 (p0), .int .u64 (p1)], .int .i64 mo] W (fun o w' => o = .returned (.tuple #[.agg #[.int .i64 (s0), .int .u64 (s1)], .int .i64 (0)]) ∧ Below W.heap.size W w'))) (BE : Hid (∀ W, Sizes W → Calls Tryz.prog 18 #[.agg #[.int .i64 (s0), .int .u64 (s1)]] W (fun o w' => o = .returned (.tuple #[.agg #[.int .i64 (x0), .int .i64 (x1), .int .i64 (x2), .int .i64 (x3)], .int .i64 (k), .int .i64 (e)]) ∧ Below W.heap.size W w'))) (w : World) (L : Sizes w) :
    Calls Tryz.prog 8 #[.agg #[.int .i64 (h), .int .i64 (m), .int .i64 (s), .int .i64 (n)], .int .i64 ic, .int .i64 mo] w (RetTNE w x0 x1 x2 x3 k e) := by
  go_enter Tryz.func8, Tryz.ntmps8
  go_upto_region 1 with (fail)
  have KB := (((BK.nil w).more4 (.int .i64 (h)) (.int .i64 (m)) (.int .i64 (s)) (.int .i64 (n)) 25).more4 (.int .i64 (0)) (.int .i64 (0)) (.int .i64 (0)) (.int .i64 (0)) 25)
  simp only [World.size_alloc] at KB
  generalize ((w.alloc (.cells #[.int .i64 (h), .int .i64 (m), .int .i64 (s), .int .i64 (n)] 25)).alloc (.cells #[.int .i64 (0), .int .i64 (0), .int .i64 (0), .int .i64 (0)] 25)) = w0 at *
  obtain ⟨_, q0a, q0b, q0c, q0d, _⟩ := (KB.tail.head).four
  go_wp2_with fail
  clear q0a q0b q0c q0d
  refine (NA.out _ (L.mono KB.hb)).mono ?_
  rintro e w1 ⟨rfl, k⟩
  replace KB := KB.below k
  clear k
  have d1 : decide (ic < 1) = false := decide_eq_false (by omega)
  have d0 : ¬ ic = 0 := by omega
  have d3 : (ic == 0) = false := by rw [beq_eq_false_iff_ne]; exact d0
  have d2 : ((86400000000000 : Int) % ic != 0) = false := by rw [bne_eq_false_iff_eq]; exact h3
  go_wp2_with fail
  refine (O1.out _ (L.mono KB.hb)).mono ?_
  rintro e w2 ⟨rfl, k⟩
  replace KB := KB.below k
  clear k
  go_wp2_with fail
  refine (O2.out _ (L.mono KB.hb)).mono ?_
  rintro e w3 ⟨rfl, k⟩
  replace KB := KB.below k
  clear k
  go_wp2_with fail
  refine (TO.out _ (L.mono KB.hb)).mono ?_
  rintro e w4 ⟨rfl, k⟩
  replace KB := KB.below k
  clear k
  clear d0 d1 d2 d3 h3
  go_upto_region 5 with (fail)
  have ig0 : w4.heap.size ≠ w.heap.size + 1 := Nat.ne_of_gt (KB.head).lt
  have og0 := Ne.symm ig0
  have ig1 : w4.heap.size ≠ w.heap.size := Nat.ne_of_gt (KB.tail.head).lt
  have og1 := Ne.symm ig1
  have ggg : w.heap.size ≤ w4.heap.size := KB.hb.size
  replace KB := KB.more2 (.int .i64 (s0)) (.int .u64 (s1)) 45
  generalize w4.alloc (.cells #[.int .i64 (s0), .int .u64 (s1)] 45) = w5 at *
  generalize w4.heap.size = g at *
  obtain ⟨_, q0a, q0b, _⟩ := (KB.head).two
  go_wp2_with fail
  clear q0a q0b
  refine (BE.out _ (L.mono KB.hb)).mono ?_
  rintro e w6 ⟨rfl, k⟩
  replace KB := KB.below k
  clear k
  obtain ⟨_, r0, r1, r2, r3, rf0, rf1, rf2, rf3⟩ := (KB.tail.head).four
  go_wp2
  obtain ⟨_, P0, P1, P2, P3, _⟩ := ((KB.tail.head).self4 (.int .i64 (x0)) (.int .i64 (x1)) (.int .i64 (x2)) (.int .i64 (x3))).four
  have HB := ((((KB.hb.setCell (p := ⟨w.heap.size + 1, 0, none⟩) (by show _ ≤ w.heap.size + 1; omega) (.int .i64 (x0))).setCell (p := ⟨w.heap.size + 1, 1, none⟩) (by show _ ≤ w.heap.size + 1; omega) (.int .i64 (x1))).setCell (p := ⟨w.heap.size + 1, 2, none⟩) (by show _ ≤ w.heap.size + 1; omega) (.int .i64 (x2))).setCell (p := ⟨w.heap.size + 1, 3, none⟩) (by show _ ≤ w.heap.size + 1; omega) (.int .i64 (x3)))
  exact bodyPost_ret (v := .tuple #[.agg #[.int .i64 (x0), .int .i64 (x1), .int .i64 (x2), .int .i64 (x3)], .int .i64 (k), .int .i64 (e)]) (by simp [results, Tryz.results8, go_sem, P0, P1, P2, P3]) rfl ⟨rfl, HB⟩
end Go.Proofs.YtlidicnbmfkghaaGreatDoor

/- Package clock answers as the document says. -/
namespace Go.Proofs.YtlidicnbmfkghaaGreatDoor
open Go.RowKit

theorem add_in (a b : Int) (ha : InW a) (hb : InW b) (h : InW (a + b)) (W : World) : Calls Tryz.prog 30 #[.agg #[.int .i64 (hiW a), .int .u64 (loW a)], .agg #[.int .i64 (hiW b), .int .u64 (loW b)]] W (fun o w' => o = .returned (.tuple #[.agg #[.int .i64 (hiW (a + b)), .int .u64 (loW (a + b))], .int .i64 0]) ∧ Below W.heap.size W w') := by
  have c := wideAdd a b ha hb W
  unfold RetWE hv lv ev at c
  rwa [if_pos h, if_pos h, if_pos h] at c
theorem add_out (a b : Int) (ha : InW a) (hb : InW b) (h : ¬ InW (a + b)) (W : World) : Calls Tryz.prog 30 #[.agg #[.int .i64 (hiW a), .int .u64 (loW a)], .agg #[.int .i64 (hiW b), .int .u64 (loW b)]] W (fun o w' => o = .returned (.tuple #[.agg #[.int .i64 0, .int .u64 0], .int .i64 2]) ∧ Below W.heap.size W w') := by
  have c := wideAdd a b ha hb W
  unfold RetWE hv lv ev at c
  rwa [if_neg h, if_neg h, if_neg h] at c
theorem to_in (a b mo : Int) (ha : InW a) (hb : InW b) (b0 : 0 < b) (m1 : 1 ≤ mo) (m9 : mo ≤ 9) (h : InW (nearZ a b mo * b)) (W : World) : Calls Tryz.prog 17 #[.agg #[.int .i64 (hiW a), .int .u64 (loW a)], .agg #[.int .i64 (hiW b), .int .u64 (loW b)], .int .i64 mo] W (fun o w' => o = .returned (.tuple #[.agg #[.int .i64 (hiW (nearZ a b mo * b)), .int .u64 (loW (nearZ a b mo * b))], .int .i64 0]) ∧ Below W.heap.size W w') := by
  have c := roundTo_any a b mo ha hb b0 m1 m9 W
  have e : nearR a b mo = nearZ a b mo := by unfold nearR upN upD; rw [if_neg (by omega), if_neg (by omega)]
  rw [e] at c
  unfold RetWE hv lv ev at c
  rwa [if_pos h, if_pos h, if_pos h] at c
theorem nanosK_ok {h m s n : Int} (k : okT h m s n) (W : World) (l : Sizes W) : Calls Tryz.prog 16 #[.agg #[.int .i64 (h), .int .i64 (m), .int .i64 (s), .int .i64 (n)]] W (RetIB W (numT h m s n) true) := by
  have c := nanosK h m s n W l
  unfold nvT at c
  rwa [if_pos k, decide_eq_true k] at c
theorem nanosK_bad {h m s n : Int} (k : ¬ okT h m s n) (W : World) (l : Sizes W) : Calls Tryz.prog 16 #[.agg #[.int .i64 (h), .int .i64 (m), .int .i64 (s), .int .i64 (n)]] W (RetIB W 0 false) := by
  have c := nanosK h m s n W l
  unfold nvT at c
  rwa [if_neg k, decide_eq_false k] at c
theorem rightK_yes {h m s n : Int} (k : okT h m s n) (W : World) (l : Sizes W) : Calls Tryz.prog 33 #[.agg #[.int .i64 (h), .int .i64 (m), .int .i64 (s), .int .i64 (n)]] W (RetV W (.bool true)) := by
  have c := rightK h m s n W l
  rwa [decide_eq_true k] at c
theorem rightK_no {h m s n : Int} (k : ¬ okT h m s n) (W : World) (l : Sizes W) : Calls Tryz.prog 33 #[.agg #[.int .i64 (h), .int .i64 (m), .int .i64 (s), .int .i64 (n)]] W (RetV W (.bool false)) := by
  have c := rightK h m s n W l
  rwa [decide_eq_false k] at c
theorem near_ok {h m s n : Int} (k : okT h m s n) (W : World) (l : Sizes W) : Calls Tryz.prog 65 #[.agg #[.int .i64 (h), .int .i64 (m), .int .i64 (s), .int .i64 (n)]] W (RetV W (.agg #[.int .i64 (h), .int .i64 (m), .int .i64 (s), .int .i64 (n)])) := by
  have c := nearestK h m s n W l
  obtain ⟨⟨h1, h2⟩, ⟨h3, h4⟩, ⟨h5, h6⟩, h7, h8⟩ := k
  rwa [near_same.2 ⟨h1, by omega⟩, near_same.2 ⟨h3, by omega⟩, near_same.2 ⟨h5, by omega⟩, near_same.2 ⟨h7, by omega⟩] at c
theorem numT_in64 {h m s n : Int} (k : okT h m s n) : In64 (numT h m s n) := by
  have := numT_range k
  unfold In64; omega
theorem clockP : ClockP where
  right h m s n _ _ _ _ W L := rightK h m s n W L
  nanos h m s n _ _ _ _ W L := nanosK h m s n W L
  of_no N _ h W _ := ofK_no N h W
  of_yes N h m s n k e W L := ofK_yes N h m s n k e W L
  add_bad h m s n a _ _ _ _ _ k W L := addK_bad h m s n a (Lib.hid fun W l => nanosK_bad k W l) W L
  add_over h m s n a k ha hq W L := by
    have i := numT_in64 k
    have e : numT h m s n + a = a + numT h m s n := Int.add_comm ..
    rw [e] at hq
    by_cases hs : InW (a + numT h m s n)
    · exact addK_core h m s n a _ _ _ _ _ _ _ _ _ _ _ (Lib.hid fun W l => nanosK_ok k W l) (Lib.hid fun W _ => wideOf _ i W) (Lib.hid fun W _ => add_in a _ ha (inW_of_64 i) hs W) (Lib.hid fun W l => behindK_over _ hs hq W l) W L
    · exact addK_wide h m s n a _ _ _ (Lib.hid fun W l => nanosK_ok k W l) (Lib.hid fun W _ => wideOf _ i W) (Lib.hid fun W _ => add_out a _ ha (inW_of_64 i) hs W) W L
  add_yes h m s n a x0 x1 x2 x3 k ha hq hx e W L := by
    have i := numT_in64 k
    have e' : numT h m s n + a = a + numT h m s n := Int.add_comm ..
    rw [e'] at hq e ⊢
    have hs : InW (a + numT h m s n) := by unfold In64 at hq; unfold InW two127; omega
    exact addK_core h m s n a _ _ _ _ _ _ _ _ _ _ _ (Lib.hid fun W l => nanosK_ok k W l) (Lib.hid fun W _ => wideOf _ i W) (Lib.hid fun W _ => add_in a _ ha (inW_of_64 i) hs W) (Lib.hid fun W l => behindK _ x0 x1 x2 x3 hs hq hx e W l) W L
  round_bad h m s n ic mo _ _ _ _ i5 i6 b W L := by
    by_cases k : okT h m s n
    case neg => exact roundK_t h m s n ic mo (Lib.hid fun W l => nanosK_bad k W l) W L
    have i := numT_in64 k
    by_cases h1 : ic < 1
    · exact roundK_lt h m s n ic mo _ h1 (Lib.hid fun W l => nanosK_ok k W l) W L
    by_cases h3 : (86400000000000 : Int) % ic = 0
    case neg => exact roundK_rem h m s n ic mo _ (by omega) i5.2 h3 (Lib.hid fun W l => nanosK_ok k W l) W L
    have h2 : ¬ 86400000000000 < ic := by
      intro c
      rw [Int.emod_eq_of_lt (by omega) c] at h3
      omega
    have hm : mo < 1 ∨ 9 < mo := by
      rcases b with c | c | c | c | c | c
      · exact absurd k c
      · exact absurd c h1
      · exact absurd c h2
      · exact absurd h3 c
      · exact .inl c
      · exact .inr c
    exact roundK_mode h m s n ic mo _ _ _ _ _ (by omega) i5.2 h3 (Lib.hid fun W l => nanosK_ok k W l) (Lib.hid fun W _ => wideOf _ i W) (Lib.hid fun W _ => wideOf _ i5 W) (Lib.hid fun W _ => roundTo_no _ _ mo (by omega) W) W L
  round_day h m s n ic mo k h1 h2 h3 m1 m9 e W L := by
    have i := numT_in64 k
    have i5 : In64 ic := by unfold In64; omega
    have hs : InW (nearZ (numT h m s n) ic mo * ic) := by rw [show nearZ (numT h m s n) ic mo * ic = 86400000000000 from e]; decide
    exact roundK_core h m s n ic mo _ _ _ _ _ _ _ _ _ _ _ _ _ (by omega) i5.2 h3 (Lib.hid fun W l => nanosK_ok k W l) (Lib.hid fun W _ => wideOf _ i W) (Lib.hid fun W _ => wideOf _ i5 W) (Lib.hid fun W _ => to_in _ _ mo (inW_of_64 i) (inW_of_64 i5) (by omega) m1 m9 hs W)
      (Lib.hid fun W l => by
        have c := behindK 86400000000000 0 0 0 0 (by decide) (by decide) (by decide) (by decide) W l
        rw [show nearZ (numT h m s n) ic mo * ic = 86400000000000 from e]
        exact c) W L
  round_yes h m s n ic mo x0 x1 x2 x3 k h1 h2 h3 m1 m9 hx e W L := by
    have i := numT_in64 k
    have i5 : In64 ic := by unfold In64; omega
    have r := numT_range hx
    have e' : nearZ (numT h m s n) ic mo * ic = numT x0 x1 x2 x3 := e.symm
    have hs : InW (nearZ (numT h m s n) ic mo * ic) := by rw [e']; unfold InW two127; omega
    exact roundK_core h m s n ic mo _ _ _ _ _ _ _ _ _ _ _ _ _ (by omega) i5.2 h3 (Lib.hid fun W l => nanosK_ok k W l) (Lib.hid fun W _ => wideOf _ i W) (Lib.hid fun W _ => wideOf _ i5 W) (Lib.hid fun W _ => to_in _ _ mo (inW_of_64 i) (inW_of_64 i5) (by omega) m1 m9 hs W)
      (Lib.hid fun W l => by
        have c := behindK (numT x0 x1 x2 x3) x0 x1 x2 x3 (by unfold InW two127; omega) (by unfold In64; omega) hx (by omega) W l
        rw [show numT x0 x1 x2 x3 / 86400000000000 = 0 by omega] at c
        rw [e']
        exact c) W L
end Go.Proofs.YtlidicnbmfkghaaGreatDoor
