/- Package clock: the number of a time, the time of a number. -/
import Derived.Test.YteggdabnhdjfcaaDoorKfield
import Derived.Test.YteggdabnhdjfcaaDoorKspec
import Derived.Deep.RegionHeld3
import Derived.LoopTactic
namespace Go.Proofs.YteggdabnhdjfcaaDoor
open Go.RowKit

set_option maxRecDepth 100000 in
set_option maxHeartbeats 8000000 in
theorem nanosK_no (h m s n : Int) (RI : Hid (∀ W, Sizes W → Calls Tryd.prog 15 #[.agg #[.int .i64 (h), .int .i64 (m), .int .i64 (s), .int .i64 (n)]] W (fun o w' => o = .returned (.bool false) ∧ Below W.heap.size W w'))) (w : World) (L : Sizes w) :
    Calls Tryd.prog 9 #[.agg #[.int .i64 (h), .int .i64 (m), .int .i64 (s), .int .i64 (n)]] w (RetIB w 0 false) := by
  go_enter Tryd.func9, Tryd.ntmps9
  go_upto_region 1 with (fail)
  have KB := ((BK.nil w).more4 (.int .i64 (h)) (.int .i64 (m)) (.int .i64 (s)) (.int .i64 (n)) 23)
  generalize (w.alloc (.cells #[.int .i64 (h), .int .i64 (m), .int .i64 (s), .int .i64 (n)] 23)) = w0 at *
  obtain ⟨_, q0a, q0b, q0c, q0d, _⟩ := (KB.head).four
  go_wp2_with fail
  clear q0a q0b q0c q0d
  refine (RI.out _ (L.mono KB.hb)).mono ?_
  rintro e w1 ⟨rfl, k⟩
  replace KB := KB.below k
  clear k
  have HB := KB.hb
  go_wp2
  exact bodyPost_ret (v := .tuple #[.int .i64 (0), .bool false]) (by simp [results, Tryd.results9, go_sem]) rfl ⟨rfl, HB⟩
set_option maxRecDepth 100000 in
set_option maxHeartbeats 8000000 in
theorem nanosK_yes (h m s n N : Int) (ok : okT h m s n) (E : Hid (((h * 60 + m) * 60 + s) * 1000000000 + n = N)) (RI : Hid (∀ W, Sizes W → Calls Tryd.prog 15 #[.agg #[.int .i64 (h), .int .i64 (m), .int .i64 (s), .int .i64 (n)]] W (fun o w' => o = .returned (.bool true) ∧ Below W.heap.size W w'))) (w : World) (L : Sizes w) :
    Calls Tryd.prog 9 #[.agg #[.int .i64 (h), .int .i64 (m), .int .i64 (s), .int .i64 (n)]] w (RetIB w N true) := by
  obtain ⟨⟨k1, k2⟩, ⟨k3, k4⟩, ⟨k5, k6⟩, k7, k8⟩ := ok
  go_enter Tryd.func9, Tryd.ntmps9
  go_upto_region 1 with (fail)
  have KB := ((BK.nil w).more4 (.int .i64 (h)) (.int .i64 (m)) (.int .i64 (s)) (.int .i64 (n)) 23)
  generalize (w.alloc (.cells #[.int .i64 (h), .int .i64 (m), .int .i64 (s), .int .i64 (n)] 23)) = w0 at *
  obtain ⟨_, q0a, q0b, q0c, q0d, _⟩ := (KB.head).four
  go_wp2_with fail
  clear q0a q0b q0c q0d
  refine (RI.out _ (L.mono KB.hb)).mono ?_
  rintro e w1 ⟨rfl, k⟩
  replace KB := KB.below k
  clear k
  obtain ⟨_, q0a, q0b, q0c, q0d, _⟩ := (KB.head).four
  go_wp2_with fail
  clear q0a q0b q0c q0d
  refine (splitK h m s n _).mono ?_
  rintro e w2 ⟨rfl, k⟩
  replace KB := KB.below k
  clear k
  go_upto_region 4 with (fail)
  have ig0 : w2.heap.size ≠ w.heap.size := Nat.ne_of_gt (KB.head).lt
  have og0 := Ne.symm ig0
  have ggg : w.heap.size ≤ w2.heap.size := KB.hb.size
  replace KB := KB.more4 (.int .i64 (h)) (.int .i64 (m)) (.int .i64 (s)) (.int .i64 (n)) 33
  generalize w2.alloc (.cells #[.int .i64 (h), .int .i64 (m), .int .i64 (s), .int .i64 (n)] 33) = w3 at *
  generalize w2.heap.size = g at *
  go_wp2_with fail
  go_loopw [5, 12] (fun v5 v12 wr => (v5 = .int .i64 (0) ∧ v12 = .int .i64 0 ∧ BK w [(g, [.int .i64 (h), .int .i64 (m), .int .i64 (s), .int .i64 (n)]), (w.heap.size, [.int .i64 (h), .int .i64 (m), .int .i64 (s), .int .i64 (n)])] wr) ∨ (v5 = .int .i64 (h) ∧ v12 = .int .i64 1 ∧ BK w [(g, [.int .i64 (h), .int .i64 (m), .int .i64 (s), .int .i64 (n)]), (w.heap.size, [.int .i64 (h), .int .i64 (m), .int .i64 (s), .int .i64 (n)])] wr) ∨ (v5 = .int .i64 (h * 60 + m) ∧ v12 = .int .i64 2 ∧ BK w [(g, [.int .i64 (h), .int .i64 (m), .int .i64 (s), .int .i64 (n)]), (w.heap.size, [.int .i64 (h), .int .i64 (m), .int .i64 (s), .int .i64 (n)])] wr) ∨ (v5 = .int .i64 ((h * 60 + m) * 60 + s) ∧ v12 = .int .i64 3 ∧ BK w [(g, [.int .i64 (h), .int .i64 (m), .int .i64 (s), .int .i64 (n)]), (w.heap.size, [.int .i64 (h), .int .i64 (m), .int .i64 (s), .int .i64 (n)])] wr) ∨ (v5 = .int .i64 (((h * 60 + m) * 60 + s) * 1000000000 + n) ∧ v12 = .int .i64 4 ∧ BK w [(g, [.int .i64 (h), .int .i64 (m), .int .i64 (s), .int .i64 (n)]), (w.heap.size, [.int .i64 (h), .int .i64 (m), .int .i64 (s), .int .i64 (n)])] wr)) (fun _ v12 _ => (4 - intOf v12).toNat)
  case atStart => exact .inl ⟨rfl, rfl, KB⟩
  case round =>
    clear KB
    rcases hrel with ⟨rfl, rfl, KB⟩ | ⟨rfl, rfl, KB⟩ | ⟨rfl, rfl, KB⟩ | ⟨rfl, rfl, KB⟩ | ⟨rfl, rfl, KB⟩
    · have l := L.mono KB.hb
      obtain ⟨_, c0, c1, c2, c3⟩ := l
      clear c1
      clear c2
      clear c3
      obtain ⟨_, j0, j1, j2, j3, jf0, jf1, jf2, jf3⟩ := (KB.head).four
      replace KB := KB.drew
      go_wp2_with fail
      go_region
      go_wp2_with fail
      go_roundw
      case rel => exact .inr (.inl ⟨by go_num, rfl, KB⟩)
      case measure => simp [intOf]
    · have l := L.mono KB.hb
      obtain ⟨_, c0, c1, c2, c3⟩ := l
      clear c0
      clear c2
      clear c3
      obtain ⟨_, j0, j1, j2, j3, jf0, jf1, jf2, jf3⟩ := (KB.head).four
      replace KB := KB.drew
      go_wp2_with fail
      go_region
      go_wp2_with fail
      go_roundw
      case rel => exact .inr (.inr (.inl ⟨by go_num, rfl, KB⟩))
      case measure => simp [intOf]
    · have l := L.mono KB.hb
      obtain ⟨_, c0, c1, c2, c3⟩ := l
      clear c0
      clear c1
      clear c3
      obtain ⟨_, j0, j1, j2, j3, jf0, jf1, jf2, jf3⟩ := (KB.head).four
      replace KB := KB.drew
      go_wp2_with fail
      go_region
      go_wp2_with fail
      go_roundw
      case rel => exact .inr (.inr (.inr (.inl ⟨by go_num, rfl, KB⟩)))
      case measure => simp [intOf]
    · have l := L.mono KB.hb
      obtain ⟨_, c0, c1, c2, c3⟩ := l
      clear c0
      clear c1
      clear c2
      obtain ⟨_, j0, j1, j2, j3, jf0, jf1, jf2, jf3⟩ := (KB.head).four
      replace KB := KB.drew
      go_wp2_with fail
      go_region
      go_wp2_with fail
      go_roundw
      case rel => exact .inr (.inr (.inr (.inr (⟨by go_num, rfl, KB⟩))))
      case measure => simp [intOf]
    · have HB := KB.hb
      go_wp2
      exact bodyPost_ret (v := .tuple #[.int .i64 (((h * 60 + m) * 60 + s) * 1000000000 + n), .bool true]) (by simp [results, Tryd.results9, go_sem]) rfl ⟨by rw [E.out], HB⟩
theorem nanosK (h m s n : Int) (w : World) (L : Sizes w) : Calls Tryd.prog 9 #[.agg #[.int .i64 (h), .int .i64 (m), .int .i64 (s), .int .i64 (n)]] w (RetIB w (nvT h m s n) (decide (okT h m s n))) := by
  have RI := fun (W : World) (l : Sizes W) => rightK h m s n W l
  unfold nvT
  by_cases k : okT h m s n
  · rw [decide_eq_true k] at RI ⊢
    rw [if_pos k]
    exact nanosK_yes h m s n _ k (Lib.hid (by unfold numT; omega)) (Lib.hid RI) w L
  · rw [decide_eq_false k] at RI ⊢
    rw [if_neg k]
    exact nanosK_no h m s n (Lib.hid RI) w L
set_option maxRecDepth 100000 in
set_option maxHeartbeats 4000000 in
theorem ofK_lt (N : Int) (h0 : N < 0) (w : World) :
    Calls Tryd.prog 11 #[.int .i64 N] w (RetTB w 0 0 0 0 false) := by
  go_enter Tryd.func11, Tryd.ntmps11
  go_upto_region 1 with (fail)
  have KB := ((BK.nil w).more4 (.int .i64 (0)) (.int .i64 (0)) (.int .i64 (0)) (.int .i64 (0)) 23)
  generalize (w.alloc (.cells #[.int .i64 (0), .int .i64 (0), .int .i64 (0), .int .i64 (0)] 23)) = w0 at *
  have d0 : decide (N < 0) = true := decide_eq_true h0
  obtain ⟨_, r0, r1, r2, r3, rf0, rf1, rf2, rf3⟩ := (KB.head).four
  go_wp2
  obtain ⟨_, P0, P1, P2, P3, _⟩ := ((KB.head).self4 (.int .i64 (0)) (.int .i64 (0)) (.int .i64 (0)) (.int .i64 (0))).four
  have HB := ((((KB.hb.setCell (p := ⟨w.heap.size, 0, none⟩) (by show _ ≤ w.heap.size; omega) (.int .i64 (0))).setCell (p := ⟨w.heap.size, 1, none⟩) (by show _ ≤ w.heap.size; omega) (.int .i64 (0))).setCell (p := ⟨w.heap.size, 2, none⟩) (by show _ ≤ w.heap.size; omega) (.int .i64 (0))).setCell (p := ⟨w.heap.size, 3, none⟩) (by show _ ≤ w.heap.size; omega) (.int .i64 (0)))
  exact bodyPost_ret (v := .tuple #[.agg #[.int .i64 (0), .int .i64 (0), .int .i64 (0), .int .i64 (0)], .bool false]) (by simp [results, Tryd.results11, go_sem, P0, P1, P2, P3]) rfl ⟨rfl, HB⟩
set_option maxRecDepth 100000 in
set_option maxHeartbeats 4000000 in
theorem ofK_ge (N : Int) (h0 : ¬ N < 0) (h1 : 86400000000000 ≤ N) (w : World) :
    Calls Tryd.prog 11 #[.int .i64 N] w (RetTB w 0 0 0 0 false) := by
  go_enter Tryd.func11, Tryd.ntmps11
  go_upto_region 1 with (fail)
  have KB := ((BK.nil w).more4 (.int .i64 (0)) (.int .i64 (0)) (.int .i64 (0)) (.int .i64 (0)) 23)
  generalize (w.alloc (.cells #[.int .i64 (0), .int .i64 (0), .int .i64 (0), .int .i64 (0)] 23)) = w0 at *
  have d0 : decide (N < 0) = false := decide_eq_false h0
  have d1 : decide (86400000000000 ≤ N) = true := decide_eq_true h1
  obtain ⟨_, r0, r1, r2, r3, rf0, rf1, rf2, rf3⟩ := (KB.head).four
  go_wp2
  obtain ⟨_, P0, P1, P2, P3, _⟩ := ((KB.head).self4 (.int .i64 (0)) (.int .i64 (0)) (.int .i64 (0)) (.int .i64 (0))).four
  have HB := ((((KB.hb.setCell (p := ⟨w.heap.size, 0, none⟩) (by show _ ≤ w.heap.size; omega) (.int .i64 (0))).setCell (p := ⟨w.heap.size, 1, none⟩) (by show _ ≤ w.heap.size; omega) (.int .i64 (0))).setCell (p := ⟨w.heap.size, 2, none⟩) (by show _ ≤ w.heap.size; omega) (.int .i64 (0))).setCell (p := ⟨w.heap.size, 3, none⟩) (by show _ ≤ w.heap.size; omega) (.int .i64 (0)))
  exact bodyPost_ret (v := .tuple #[.agg #[.int .i64 (0), .int .i64 (0), .int .i64 (0), .int .i64 (0)], .bool false]) (by simp [results, Tryd.results11, go_sem, P0, P1, P2, P3]) rfl ⟨rfl, HB⟩
set_option maxRecDepth 100000 in
set_option maxHeartbeats 8000000 in
theorem ofK_core (N M1 M2 h m s n : Int) (n0 : 0 ≤ N) (_n1 : N < 86400000000000) (_m1 : 0 ≤ M1 ∧ M1 < 86400) (_m2 : 0 ≤ M2 ∧ M2 < 1440) (_h0 : 0 ≤ h ∧ h < 24) (Q0 : Hid (N / 1000000000 = M1)) (R0 : Hid (N % 1000000000 = n)) (Q1 : Hid (M1 / 60 = M2)) (R1 : Hid (M1 % 60 = s)) (Q2 : Hid (M2 / 60 = h)) (R2 : Hid (M2 % 60 = m)) (Q3 : Hid (h / 24 = 0)) (R3 : Hid (h % 24 = h)) (w : World) (L : Sizes w) :
    Calls Tryd.prog 11 #[.int .i64 N] w (RetTB w h m s n true) := by
  go_enter Tryd.func11, Tryd.ntmps11
  go_upto_region 1 with (fail)
  have KB := ((BK.nil w).more4 (.int .i64 (0)) (.int .i64 (0)) (.int .i64 (0)) (.int .i64 (0)) 23)
  generalize (w.alloc (.cells #[.int .i64 (0), .int .i64 (0), .int .i64 (0), .int .i64 (0)] 23)) = w0 at *
  have d0 : decide (N < 0) = false := decide_eq_false (by omega)
  have d1 : decide (86400000000000 ≤ N) = false := decide_eq_false (by omega)
  go_upto_region 4 with (fail)
  have ig0 : w0.heap.size ≠ w.heap.size := Nat.ne_of_gt (KB.head).lt
  have og0 := Ne.symm ig0
  have ggg : w.heap.size ≤ w0.heap.size := KB.hb.size
  replace KB := KB.more4 (.int .i64 (0)) (.int .i64 (0)) (.int .i64 (0)) (.int .i64 (0)) 33
  generalize w0.alloc (.cells #[.int .i64 (0), .int .i64 (0), .int .i64 (0), .int .i64 (0)] 33) = w1 at *
  generalize w0.heap.size = g at *
  clear d0 d1
  go_wp2_with fail
  go_loopw [0, 15] (fun v0 v15 wr => (v0 = .int .i64 N ∧ v15 = .int .i64 0 ∧ BK w [(g, [.int .i64 (0), .int .i64 (0), .int .i64 (0), .int .i64 (0)]), (w.heap.size, [.int .i64 (0), .int .i64 (0), .int .i64 (0), .int .i64 (0)])] wr) ∨ (v0 = .int .i64 M1 ∧ v15 = .int .i64 1 ∧ BK w [(g, [.int .i64 (0), .int .i64 (0), .int .i64 (0), .int .i64 (n)]), (w.heap.size, [.int .i64 (0), .int .i64 (0), .int .i64 (0), .int .i64 (0)])] wr) ∨ (v0 = .int .i64 M2 ∧ v15 = .int .i64 2 ∧ BK w [(g, [.int .i64 (0), .int .i64 (0), .int .i64 (s), .int .i64 (n)]), (w.heap.size, [.int .i64 (0), .int .i64 (0), .int .i64 (0), .int .i64 (0)])] wr) ∨ (v0 = .int .i64 h ∧ v15 = .int .i64 3 ∧ BK w [(g, [.int .i64 (0), .int .i64 (m), .int .i64 (s), .int .i64 (n)]), (w.heap.size, [.int .i64 (0), .int .i64 (0), .int .i64 (0), .int .i64 (0)])] wr) ∨ (v0 = .int .i64 0 ∧ v15 = .int .i64 4 ∧ BK w [(g, [.int .i64 (h), .int .i64 (m), .int .i64 (s), .int .i64 (n)]), (w.heap.size, [.int .i64 (0), .int .i64 (0), .int .i64 (0), .int .i64 (0)])] wr)) (fun _ v15 _ => (4 - intOf v15).toNat)
  case atStart => exact .inl ⟨rfl, rfl, KB⟩
  case round =>
    clear KB
    rcases hrel with ⟨rfl, rfl, KB⟩ | ⟨rfl, rfl, KB⟩ | ⟨rfl, rfl, KB⟩ | ⟨rfl, rfl, KB⟩ | ⟨rfl, rfl, KB⟩
    · have l := L.mono KB.hb
      obtain ⟨_, c0, c1, c2, c3⟩ := l
      clear c0
      clear c1
      clear c2
      obtain ⟨_, j0, j1, j2, j3, jf0, jf1, jf2, jf3⟩ := (KB.head).four
      have KN := KB.one 3 (.int .i64 (n)) (KB.head.at3 _) (by omega) (by intro x hx; simp only [List.mem_cons, List.not_mem_nil, or_false] at hx; rcases hx with rfl <;> (show _ ≠ _; omega))
      have q := Q0.out
      have r := R0.out
      go_wp2_with fail
      go_roundw
      case rel => exact .inr (.inl ⟨by rw [q], rfl, KN⟩)
      case measure => simp [intOf]
    · have l := L.mono KB.hb
      obtain ⟨_, c0, c1, c2, c3⟩ := l
      clear c0
      clear c1
      clear c3
      obtain ⟨_, j0, j1, j2, j3, jf0, jf1, jf2, jf3⟩ := (KB.head).four
      have KN := KB.one 2 (.int .i64 (s)) (KB.head.at2 _) (by omega) (by intro x hx; simp only [List.mem_cons, List.not_mem_nil, or_false] at hx; rcases hx with rfl <;> (show _ ≠ _; omega))
      have q := Q1.out
      have r := R1.out
      go_wp2_with fail
      go_roundw
      case rel => exact .inr (.inr (.inl ⟨by rw [q], rfl, KN⟩))
      case measure => simp [intOf]
    · have l := L.mono KB.hb
      obtain ⟨_, c0, c1, c2, c3⟩ := l
      clear c0
      clear c2
      clear c3
      obtain ⟨_, j0, j1, j2, j3, jf0, jf1, jf2, jf3⟩ := (KB.head).four
      have KN := KB.one 1 (.int .i64 (m)) (KB.head.at1 _) (by omega) (by intro x hx; simp only [List.mem_cons, List.not_mem_nil, or_false] at hx; rcases hx with rfl <;> (show _ ≠ _; omega))
      have q := Q2.out
      have r := R2.out
      go_wp2_with fail
      go_roundw
      case rel => exact .inr (.inr (.inr (.inl ⟨by rw [q], rfl, KN⟩)))
      case measure => simp [intOf]
    · have l := L.mono KB.hb
      obtain ⟨_, c0, c1, c2, c3⟩ := l
      clear c1
      clear c2
      clear c3
      obtain ⟨_, j0, j1, j2, j3, jf0, jf1, jf2, jf3⟩ := (KB.head).four
      have KN := KB.one 0 (.int .i64 (h)) (KB.head.at0 _) (by omega) (by intro x hx; simp only [List.mem_cons, List.not_mem_nil, or_false] at hx; rcases hx with rfl <;> (show _ ≠ _; omega))
      have q := Q3.out
      have r := R3.out
      go_wp2_with fail
      go_roundw
      case rel => exact .inr (.inr (.inr (.inr (⟨by rw [q], rfl, KN⟩))))
      case measure => simp [intOf]
    · obtain ⟨_, j0, j1, j2, j3, jf0, jf1, jf2, jf3⟩ := (KB.head).four
      go_wp2_with fail
      refine (joinedK h m s n _).mono ?_
      rintro e w9 ⟨rfl, k⟩
      replace KB := KB.below k
      clear k
      obtain ⟨_, r0, r1, r2, r3, rf0, rf1, rf2, rf3⟩ := (KB.tail.head).four
      go_wp2
      obtain ⟨_, P0, P1, P2, P3, _⟩ := ((KB.tail.head).self4 (.int .i64 (h)) (.int .i64 (m)) (.int .i64 (s)) (.int .i64 (n))).four
      have HB := ((((KB.hb.setCell (p := ⟨w.heap.size, 0, none⟩) (by show _ ≤ w.heap.size; omega) (.int .i64 (h))).setCell (p := ⟨w.heap.size, 1, none⟩) (by show _ ≤ w.heap.size; omega) (.int .i64 (m))).setCell (p := ⟨w.heap.size, 2, none⟩) (by show _ ≤ w.heap.size; omega) (.int .i64 (s))).setCell (p := ⟨w.heap.size, 3, none⟩) (by show _ ≤ w.heap.size; omega) (.int .i64 (n)))
      exact bodyPost_ret (v := .tuple #[.agg #[.int .i64 (h), .int .i64 (m), .int .i64 (s), .int .i64 (n)], .bool true]) (by simp [results, Tryd.results11, go_sem, P0, P1, P2, P3]) rfl ⟨rfl, HB⟩
theorem ofK_yes (N h m s n : Int) (k : okT h m s n) (e : numT h m s n = N) (w : World) (L : Sizes w) : Calls Tryd.prog 11 #[.int .i64 N] w (RetTB w h m s n true) := by
  obtain ⟨⟨h1, h2⟩, ⟨h3, h4⟩, ⟨h5, h6⟩, h7, h8⟩ := k
  unfold numT at e
  exact ofK_core N (h * 3600 + m * 60 + s) (h * 60 + m) h m s n (by omega) (by omega) ⟨by omega, by omega⟩ ⟨by omega, by omega⟩ ⟨by omega, by omega⟩ (Lib.hid (by omega)) (Lib.hid (by omega)) (Lib.hid (by omega)) (Lib.hid (by omega)) (Lib.hid (by omega)) (Lib.hid (by omega)) (Lib.hid (by omega)) (Lib.hid (by omega)) w L
theorem ofK_no (N : Int) (h : N < 0 ∨ 86400000000000 ≤ N) (w : World) : Calls Tryd.prog 11 #[.int .i64 N] w (RetTB w 0 0 0 0 false) := by
  by_cases h0 : N < 0
  · exact ofK_lt N h0 w
  · exact ofK_ge N h0 (by omega) w
end Go.Proofs.YteggdabnhdjfcaaDoor
