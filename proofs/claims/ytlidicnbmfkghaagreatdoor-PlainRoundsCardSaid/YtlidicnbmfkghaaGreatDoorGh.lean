import Derived.IntWalk
import Derived.Test.YtlidicnbmfkghaaGreatDoorGm
import Derived.Test.YtlidicnbmfkghaaGreatDoorGa
import Derived.LoopTactic
import Derived.Outline
import Derived.Test.YtlidicnbmfkghaaGreatDoorGs
import Derived.Deep.RegionHeld3
import Derived.Test.YtlidicnbmfkghaaGreatDoorGw
/- Times of the day, as numbers. No program here. -/
namespace Go.Proofs.YtlidicnbmfkghaaGreatDoor

def okT (h m s n : Int) : Prop := (0 ≤ h ∧ h < 24) ∧ (0 ≤ m ∧ m < 60) ∧ (0 ≤ s ∧ s < 60) ∧ 0 ≤ n ∧ n < 1000000000
instance (h m s n : Int) : Decidable (okT h m s n) := by unfold okT; infer_instance
def numT (h m s n : Int) : Int := h * 3600000000000 + m * 60000000000 + s * 1000000000 + n
theorem numT_range {h m s n : Int} (k : okT h m s n) : 0 ≤ numT h m s n ∧ numT h m s n < 86400000000000 := by
  obtain ⟨⟨h1, h2⟩, ⟨h3, h4⟩, ⟨h5, h6⟩, h7, h8⟩ := k; unfold numT; omega
theorem numT_inj {h m s n h' m' s' n' : Int} (k : okT h m s n) (k' : okT h' m' s' n') (e : numT h m s n = numT h' m' s' n') : h = h' ∧ m = m' ∧ s = s' ∧ n = n' := by
  obtain ⟨⟨h1, h2⟩, ⟨h3, h4⟩, ⟨h5, h6⟩, h7, h8⟩ := k
  obtain ⟨⟨g1, g2⟩, ⟨g3, g4⟩, ⟨g5, g6⟩, g7, g8⟩ := k'
  unfold numT at e; omega
theorem time_of {n : Int} (h0 : 0 ≤ n) (h1 : n < 86400000000000) : ∃ h m s k : Int, okT h m s k ∧ numT h m s k = n :=
  ⟨n / 3600000000000, n % 3600000000000 / 60000000000, n % 60000000000 / 1000000000, n % 1000000000, by unfold okT; omega, by unfold numT; omega⟩
/-- which of two times is ahead -/
def cmpT (h m s n h' m' s' n' : Int) : Int :=
  if h < h' then -1 else if h' < h then 1 else if m < m' then -1 else if m' < m then 1 else if s < s' then -1 else if s' < s then 1 else if n < n' then -1 else if n' < n then 1 else 0
/-- the nearest one up to most -/
def nearT (n k : Int) : Int := if n < 0 then 0 else if k < n then k else n
end Go.Proofs.YtlidicnbmfkghaaGreatDoor

/- The document's answer of layer 6: right times, their numbers, the times of numbers, fields made right, times held against one another. -/
namespace Go.Proofs.YtlidicnbmfkghaaGreatDoor
open Go.RowKit

set_option maxRecDepth 100000 in
set_option maxHeartbeats 4000000 in
theorem rightT0 (h m s n : Int)  (t0 : ¬ 0 ≤ h) (w : World) :
    Calls Tryz.prog 20 #[.agg #[.int .i64 (h), .int .i64 (m), .int .i64 (s), .int .i64 (n)]] w (RetV w (.bool false)) := by
  have g0 : decide (0 ≤ h) = false := decide_eq_false t0
  have KB := (BK.nil w).more4 (.int .i64 (h)) (.int .i64 (m)) (.int .i64 (s)) (.int .i64 (n)) 25
  go_enter Tryz.func20, Tryz.ntmps20
  go_upto_region 1 with (fail)
  generalize w.alloc (.cells #[.int .i64 (h), .int .i64 (m), .int .i64 (s), .int .i64 (n)] 25) = w0 at *
  obtain ⟨_, a0, a1, a2, a3, _⟩ := KB.head.four
  have HB := KB.hb
  go_wp2
  go_ret
  exact ⟨rfl, HB⟩
set_option maxRecDepth 100000 in
set_option maxHeartbeats 4000000 in
theorem rightT1 (h m s n : Int) (t0 : 0 ≤ h) (t1 : ¬ h < 24) (w : World) :
    Calls Tryz.prog 20 #[.agg #[.int .i64 (h), .int .i64 (m), .int .i64 (s), .int .i64 (n)]] w (RetV w (.bool false)) := by
  have g0 : decide (0 ≤ h) = true := decide_eq_true t0
  have g1 : decide (h < 24) = false := decide_eq_false t1
  have KB := (BK.nil w).more4 (.int .i64 (h)) (.int .i64 (m)) (.int .i64 (s)) (.int .i64 (n)) 25
  go_enter Tryz.func20, Tryz.ntmps20
  go_upto_region 1 with (fail)
  generalize w.alloc (.cells #[.int .i64 (h), .int .i64 (m), .int .i64 (s), .int .i64 (n)] 25) = w0 at *
  obtain ⟨_, a0, a1, a2, a3, _⟩ := KB.head.four
  have HB := KB.hb
  go_wp2
  go_ret
  exact ⟨rfl, HB⟩
set_option maxRecDepth 100000 in
set_option maxHeartbeats 4000000 in
theorem rightT2 (h m s n : Int) (t0 : 0 ≤ h) (t1 : h < 24) (t2 : ¬ 0 ≤ m) (w : World) :
    Calls Tryz.prog 20 #[.agg #[.int .i64 (h), .int .i64 (m), .int .i64 (s), .int .i64 (n)]] w (RetV w (.bool false)) := by
  have g0 : decide (0 ≤ h) = true := decide_eq_true t0
  have g1 : decide (h < 24) = true := decide_eq_true t1
  have g2 : decide (0 ≤ m) = false := decide_eq_false t2
  have KB := (BK.nil w).more4 (.int .i64 (h)) (.int .i64 (m)) (.int .i64 (s)) (.int .i64 (n)) 25
  go_enter Tryz.func20, Tryz.ntmps20
  go_upto_region 1 with (fail)
  generalize w.alloc (.cells #[.int .i64 (h), .int .i64 (m), .int .i64 (s), .int .i64 (n)] 25) = w0 at *
  obtain ⟨_, a0, a1, a2, a3, _⟩ := KB.head.four
  have HB := KB.hb
  go_wp2
  go_ret
  exact ⟨rfl, HB⟩
set_option maxRecDepth 100000 in
set_option maxHeartbeats 4000000 in
theorem rightT3 (h m s n : Int) (t0 : 0 ≤ h) (t1 : h < 24) (t2 : 0 ≤ m) (t3 : ¬ m < 60) (w : World) :
    Calls Tryz.prog 20 #[.agg #[.int .i64 (h), .int .i64 (m), .int .i64 (s), .int .i64 (n)]] w (RetV w (.bool false)) := by
  have g0 : decide (0 ≤ h) = true := decide_eq_true t0
  have g1 : decide (h < 24) = true := decide_eq_true t1
  have g2 : decide (0 ≤ m) = true := decide_eq_true t2
  have g3 : decide (m < 60) = false := decide_eq_false t3
  have KB := (BK.nil w).more4 (.int .i64 (h)) (.int .i64 (m)) (.int .i64 (s)) (.int .i64 (n)) 25
  go_enter Tryz.func20, Tryz.ntmps20
  go_upto_region 1 with (fail)
  generalize w.alloc (.cells #[.int .i64 (h), .int .i64 (m), .int .i64 (s), .int .i64 (n)] 25) = w0 at *
  obtain ⟨_, a0, a1, a2, a3, _⟩ := KB.head.four
  have HB := KB.hb
  go_wp2
  go_ret
  exact ⟨rfl, HB⟩
set_option maxRecDepth 100000 in
set_option maxHeartbeats 4000000 in
theorem rightT4 (h m s n : Int) (t0 : 0 ≤ h) (t1 : h < 24) (t2 : 0 ≤ m) (t3 : m < 60) (t4 : ¬ 0 ≤ s) (w : World) :
    Calls Tryz.prog 20 #[.agg #[.int .i64 (h), .int .i64 (m), .int .i64 (s), .int .i64 (n)]] w (RetV w (.bool false)) := by
  have g0 : decide (0 ≤ h) = true := decide_eq_true t0
  have g1 : decide (h < 24) = true := decide_eq_true t1
  have g2 : decide (0 ≤ m) = true := decide_eq_true t2
  have g3 : decide (m < 60) = true := decide_eq_true t3
  have g4 : decide (0 ≤ s) = false := decide_eq_false t4
  have KB := (BK.nil w).more4 (.int .i64 (h)) (.int .i64 (m)) (.int .i64 (s)) (.int .i64 (n)) 25
  go_enter Tryz.func20, Tryz.ntmps20
  go_upto_region 1 with (fail)
  generalize w.alloc (.cells #[.int .i64 (h), .int .i64 (m), .int .i64 (s), .int .i64 (n)] 25) = w0 at *
  obtain ⟨_, a0, a1, a2, a3, _⟩ := KB.head.four
  have HB := KB.hb
  go_wp2
  go_ret
  exact ⟨rfl, HB⟩
set_option maxRecDepth 100000 in
set_option maxHeartbeats 4000000 in
theorem rightT5 (h m s n : Int) (t0 : 0 ≤ h) (t1 : h < 24) (t2 : 0 ≤ m) (t3 : m < 60) (t4 : 0 ≤ s) (t5 : ¬ s < 60) (w : World) :
    Calls Tryz.prog 20 #[.agg #[.int .i64 (h), .int .i64 (m), .int .i64 (s), .int .i64 (n)]] w (RetV w (.bool false)) := by
  have g0 : decide (0 ≤ h) = true := decide_eq_true t0
  have g1 : decide (h < 24) = true := decide_eq_true t1
  have g2 : decide (0 ≤ m) = true := decide_eq_true t2
  have g3 : decide (m < 60) = true := decide_eq_true t3
  have g4 : decide (0 ≤ s) = true := decide_eq_true t4
  have g5 : decide (s < 60) = false := decide_eq_false t5
  have KB := (BK.nil w).more4 (.int .i64 (h)) (.int .i64 (m)) (.int .i64 (s)) (.int .i64 (n)) 25
  go_enter Tryz.func20, Tryz.ntmps20
  go_upto_region 1 with (fail)
  generalize w.alloc (.cells #[.int .i64 (h), .int .i64 (m), .int .i64 (s), .int .i64 (n)] 25) = w0 at *
  obtain ⟨_, a0, a1, a2, a3, _⟩ := KB.head.four
  have HB := KB.hb
  go_wp2
  go_ret
  exact ⟨rfl, HB⟩
set_option maxRecDepth 100000 in
set_option maxHeartbeats 4000000 in
theorem rightT6 (h m s n : Int) (t0 : 0 ≤ h) (t1 : h < 24) (t2 : 0 ≤ m) (t3 : m < 60) (t4 : 0 ≤ s) (t5 : s < 60) (t6 : ¬ 0 ≤ n) (w : World) :
    Calls Tryz.prog 20 #[.agg #[.int .i64 (h), .int .i64 (m), .int .i64 (s), .int .i64 (n)]] w (RetV w (.bool false)) := by
  have g0 : decide (0 ≤ h) = true := decide_eq_true t0
  have g1 : decide (h < 24) = true := decide_eq_true t1
  have g2 : decide (0 ≤ m) = true := decide_eq_true t2
  have g3 : decide (m < 60) = true := decide_eq_true t3
  have g4 : decide (0 ≤ s) = true := decide_eq_true t4
  have g5 : decide (s < 60) = true := decide_eq_true t5
  have g6 : decide (0 ≤ n) = false := decide_eq_false t6
  have KB := (BK.nil w).more4 (.int .i64 (h)) (.int .i64 (m)) (.int .i64 (s)) (.int .i64 (n)) 25
  go_enter Tryz.func20, Tryz.ntmps20
  go_upto_region 1 with (fail)
  generalize w.alloc (.cells #[.int .i64 (h), .int .i64 (m), .int .i64 (s), .int .i64 (n)] 25) = w0 at *
  obtain ⟨_, a0, a1, a2, a3, _⟩ := KB.head.four
  have HB := KB.hb
  go_wp2
  go_ret
  exact ⟨rfl, HB⟩
set_option maxRecDepth 100000 in
set_option maxHeartbeats 4000000 in
theorem rightT7 (h m s n : Int) (t0 : 0 ≤ h) (t1 : h < 24) (t2 : 0 ≤ m) (t3 : m < 60) (t4 : 0 ≤ s) (t5 : s < 60) (t6 : 0 ≤ n) (t7 : ¬ n < 1000000000) (w : World) :
    Calls Tryz.prog 20 #[.agg #[.int .i64 (h), .int .i64 (m), .int .i64 (s), .int .i64 (n)]] w (RetV w (.bool false)) := by
  have g0 : decide (0 ≤ h) = true := decide_eq_true t0
  have g1 : decide (h < 24) = true := decide_eq_true t1
  have g2 : decide (0 ≤ m) = true := decide_eq_true t2
  have g3 : decide (m < 60) = true := decide_eq_true t3
  have g4 : decide (0 ≤ s) = true := decide_eq_true t4
  have g5 : decide (s < 60) = true := decide_eq_true t5
  have g6 : decide (0 ≤ n) = true := decide_eq_true t6
  have g7 : decide (n < 1000000000) = false := decide_eq_false t7
  have KB := (BK.nil w).more4 (.int .i64 (h)) (.int .i64 (m)) (.int .i64 (s)) (.int .i64 (n)) 25
  go_enter Tryz.func20, Tryz.ntmps20
  go_upto_region 1 with (fail)
  generalize w.alloc (.cells #[.int .i64 (h), .int .i64 (m), .int .i64 (s), .int .i64 (n)] 25) = w0 at *
  obtain ⟨_, a0, a1, a2, a3, _⟩ := KB.head.four
  have HB := KB.hb
  go_wp2
  go_ret
  exact ⟨rfl, HB⟩
set_option maxRecDepth 100000 in
set_option maxHeartbeats 4000000 in
theorem rightT8 (h m s n : Int) (t0 : 0 ≤ h) (t1 : h < 24) (t2 : 0 ≤ m) (t3 : m < 60) (t4 : 0 ≤ s) (t5 : s < 60) (t6 : 0 ≤ n) (t7 : n < 1000000000) (w : World) :
    Calls Tryz.prog 20 #[.agg #[.int .i64 (h), .int .i64 (m), .int .i64 (s), .int .i64 (n)]] w (RetV w (.bool true)) := by
  have g0 : decide (0 ≤ h) = true := decide_eq_true t0
  have g1 : decide (h < 24) = true := decide_eq_true t1
  have g2 : decide (0 ≤ m) = true := decide_eq_true t2
  have g3 : decide (m < 60) = true := decide_eq_true t3
  have g4 : decide (0 ≤ s) = true := decide_eq_true t4
  have g5 : decide (s < 60) = true := decide_eq_true t5
  have g6 : decide (0 ≤ n) = true := decide_eq_true t6
  have g7 : decide (n < 1000000000) = true := decide_eq_true t7
  have KB := (BK.nil w).more4 (.int .i64 (h)) (.int .i64 (m)) (.int .i64 (s)) (.int .i64 (n)) 25
  go_enter Tryz.func20, Tryz.ntmps20
  go_upto_region 1 with (fail)
  generalize w.alloc (.cells #[.int .i64 (h), .int .i64 (m), .int .i64 (s), .int .i64 (n)] 25) = w0 at *
  obtain ⟨_, a0, a1, a2, a3, _⟩ := KB.head.four
  have HB := KB.hb
  go_wp2
  go_ret
  exact ⟨rfl, HB⟩
theorem rightT (h m s n : Int) (w : World) : Calls Tryz.prog 20 #[.agg #[.int .i64 (h), .int .i64 (m), .int .i64 (s), .int .i64 (n)]] w (RetV w (.bool (decide (okT h m s n)))) := by
  by_cases t0 : 0 ≤ h
  case neg => rw [decide_eq_false (by unfold okT; omega)]; exact rightT0 h m s n t0 w
  by_cases t1 : h < 24
  case neg => rw [decide_eq_false (by unfold okT; omega)]; exact rightT1 h m s n t0 t1 w
  by_cases t2 : 0 ≤ m
  case neg => rw [decide_eq_false (by unfold okT; omega)]; exact rightT2 h m s n t0 t1 t2 w
  by_cases t3 : m < 60
  case neg => rw [decide_eq_false (by unfold okT; omega)]; exact rightT3 h m s n t0 t1 t2 t3 w
  by_cases t4 : 0 ≤ s
  case neg => rw [decide_eq_false (by unfold okT; omega)]; exact rightT4 h m s n t0 t1 t2 t3 t4 w
  by_cases t5 : s < 60
  case neg => rw [decide_eq_false (by unfold okT; omega)]; exact rightT5 h m s n t0 t1 t2 t3 t4 t5 w
  by_cases t6 : 0 ≤ n
  case neg => rw [decide_eq_false (by unfold okT; omega)]; exact rightT6 h m s n t0 t1 t2 t3 t4 t5 t6 w
  by_cases t7 : n < 1000000000
  case neg => rw [decide_eq_false (by unfold okT; omega)]; exact rightT7 h m s n t0 t1 t2 t3 t4 t5 t6 t7 w
  rw [decide_eq_true (by unfold okT; omega)]; exact rightT8 h m s n t0 t1 t2 t3 t4 t5 t6 t7 w
set_option maxRecDepth 100000 in
set_option maxHeartbeats 4000000 in
theorem nanosT (h m s n : Int) (k : okT h m s n) (w : World) :
    Calls Tryz.prog 23 #[.agg #[.int .i64 (h), .int .i64 (m), .int .i64 (s), .int .i64 (n)]] w (RetV w (.int .i64 (numT h m s n))) := by
  obtain ⟨⟨k1, k2⟩, ⟨k3, k4⟩, ⟨k5, k6⟩, k7, k8⟩ := k
  unfold numT
  have KB := (BK.nil w).more4 (.int .i64 (h)) (.int .i64 (m)) (.int .i64 (s)) (.int .i64 (n)) 25
  go_enter Tryz.func23, Tryz.ntmps23
  go_upto_region 1 with (fail)
  generalize w.alloc (.cells #[.int .i64 (h), .int .i64 (m), .int .i64 (s), .int .i64 (n)] 25) = w0 at *
  obtain ⟨_, a0, a1, a2, a3, _⟩ := KB.head.four
  have HB := KB.hb
  go_wp2
  go_ret
  exact ⟨rfl, HB⟩
set_option maxRecDepth 100000 in
set_option maxHeartbeats 4000000 in
theorem ofT (h m s k : Int) (ok : okT h m s k) (n : Int) (hn : numT h m s k = n) (w : World) :
    Calls Tryz.prog 26 #[.int .i64 n] w (fun e w' => e = .returned (.agg #[.int .i64 (h), .int .i64 (m), .int .i64 (s), .int .i64 (k)]) ∧ Below w.heap.size w w') := by
  obtain ⟨⟨h1, h2⟩, ⟨m1, m2⟩, ⟨s1, s2⟩, k1, k2⟩ := ok
  unfold numT at hn
  have KB := ((BK.nil w).more4 (.int .i64 (0)) (.int .i64 (0)) (.int .i64 (0)) (.int .i64 (0)) 25).more4 (.int .i64 (0)) (.int .i64 (0)) (.int .i64 (0)) (.int .i64 (0)) 25
  rw [World.size_alloc] at KB
  go_enter Tryz.func26, Tryz.ntmps26
  go_upto_region 1 with (fail)
  go_wp2_with fail
  generalize (w.alloc (.cells #[.int .i64 (0), .int .i64 (0), .int .i64 (0), .int .i64 (0)] 25)).alloc (.cells #[.int .i64 (0), .int .i64 (0), .int .i64 (0), .int .i64 (0)] 25) = w0 at *
  go_loopw [0] (fun v0 wr => ∃ i : Int, 0 ≤ i ∧ i ≤ h ∧ v0 = .int .i64 (n - 3600000000000 * i) ∧ BK w [(w.heap.size + 1, [.int .i64 (i), .int .i64 (0), .int .i64 (0), .int .i64 (0)]), (w.heap.size, [.int .i64 (0), .int .i64 (0), .int .i64 (0), .int .i64 (0)])] wr) (fun v0 _ => (intOf v0).toNat)
  case atStart => exact ⟨0, by omega, by omega, by go_num, KB⟩
  case round =>
    clear KB
    obtain ⟨i, i1, i2, rfl, KB⟩ := hrel
    by_cases hi : i < h
    · have ge : 3600000000000 ≤ n - 3600000000000 * i := by omega
      obtain ⟨_, b0, b1, b2, b3, bf0, bf1, bf2, bf3⟩ := (KB.head).four
      have KN := KB.one 0 (.int .i64 (i + 1)) (KB.head.at0 _) (by omega) (by intro x hx; simp only [List.mem_cons, List.not_mem_nil, or_false] at hx; rcases hx with rfl; show _ ≠ _; omega)
      go_wp2_with fail
      go_roundw
      case rel => exact ⟨i + 1, by omega, by omega, by go_num, KN⟩
      case measure => simp [intOf]; omega
    · have e : i = h := by omega
      subst e
      have lt : ¬ 3600000000000 ≤ n - 3600000000000 * i := by omega
      have e1 : n - 3600000000000 * i = m * 60000000000 + s * 1000000000 + k := by omega
      generalize n - 3600000000000 * i = n1 at *
      clear hn
      go_wp2_with fail
      go_loopw [0] (fun v0 wr => ∃ j : Int, 0 ≤ j ∧ j ≤ m ∧ v0 = .int .i64 (n1 - 60000000000 * j) ∧ BK w [(w.heap.size + 1, [.int .i64 (i), .int .i64 (j), .int .i64 (0), .int .i64 (0)]), (w.heap.size, [.int .i64 (0), .int .i64 (0), .int .i64 (0), .int .i64 (0)])] wr) (fun v0 _ => (intOf v0).toNat)
      case atStart => exact ⟨0, by omega, by omega, by go_num, KB⟩
      case round =>
        clear KB
        obtain ⟨j, ja, jb, rfl, KB⟩ := hrel
        by_cases hj : j < m
        · have ge : 60000000000 ≤ n1 - 60000000000 * j := by omega
          obtain ⟨_, b0, b1, b2, b3, bf0, bf1, bf2, bf3⟩ := (KB.head).four
          have KN := KB.one 1 (.int .i64 (j + 1)) (KB.head.at1 _) (by omega) (by intro x hx; simp only [List.mem_cons, List.not_mem_nil, or_false] at hx; rcases hx with rfl; show _ ≠ _; omega)
          go_wp2_with fail
          go_roundw
          case rel => exact ⟨j + 1, by omega, by omega, by go_num, KN⟩
          case measure => simp [intOf]; omega
        · have e : j = m := by omega
          subst e
          have lt : ¬ 60000000000 ≤ n1 - 60000000000 * j := by omega
          have e2 : n1 - 60000000000 * j = s * 1000000000 + k := by omega
          generalize n1 - 60000000000 * j = n2 at *
          clear e1
          go_wp2_with fail
          go_loopw [0] (fun v0 wr => ∃ l : Int, 0 ≤ l ∧ l ≤ s ∧ v0 = .int .i64 (n2 - 1000000000 * l) ∧ BK w [(w.heap.size + 1, [.int .i64 (i), .int .i64 (j), .int .i64 (l), .int .i64 (0)]), (w.heap.size, [.int .i64 (0), .int .i64 (0), .int .i64 (0), .int .i64 (0)])] wr) (fun v0 _ => (intOf v0).toNat)
          case atStart => exact ⟨0, by omega, by omega, by go_num, KB⟩
          case round =>
            clear KB
            obtain ⟨l, la, lb, rfl, KB⟩ := hrel
            by_cases hl : l < s
            · have ge : 1000000000 ≤ n2 - 1000000000 * l := by omega
              obtain ⟨_, b0, b1, b2, b3, bf0, bf1, bf2, bf3⟩ := (KB.head).four
              have KN := KB.one 2 (.int .i64 (l + 1)) (KB.head.at2 _) (by omega) (by intro x hx; simp only [List.mem_cons, List.not_mem_nil, or_false] at hx; rcases hx with rfl; show _ ≠ _; omega)
              go_wp2_with fail
              go_roundw
              case rel => exact ⟨l + 1, by omega, by omega, by go_num, KN⟩
              case measure => simp [intOf]; omega
            · have e : l = s := by omega
              subst e
              have lt : ¬ 1000000000 ≤ n2 - 1000000000 * l := by omega
              have e3 : n2 - 1000000000 * l = k := by omega
              have E3 := Lib.hid e3
              clear e3 e2
              have n30 : 0 ≤ n2 - 1000000000 * l := by have := E3.out; omega
              have n31 : n2 - 1000000000 * l < 1000000000 := by have := E3.out; omega
              generalize n2 - 1000000000 * l = n3 at *
              obtain ⟨_, b0, b1, b2, b3, bf0, bf1, bf2, bf3⟩ := (KB.head).four
              obtain ⟨_, r0, r1, r2, r3, rf0, rf1, rf2, rf3⟩ := (KB.tail.head).four
              have i5 : w.heap.size + 1 ≠ w.heap.size := by omega
              have i6 := Ne.symm i5
              replace KB := KB.one 3 (.int .i64 n3) (KB.head.at3 _) (by omega) (by intro x hx; simp only [List.mem_cons, List.not_mem_nil, or_false] at hx; rcases hx with rfl; show _ ≠ _; omega)
              go_wp2
              obtain ⟨_, P0, P1, P2, P3, _⟩ := ((KB.tail.head).self4 (.int .i64 (i)) (.int .i64 (j)) (.int .i64 (l)) (.int .i64 (n3))).four
              have HB := ((((KB.hb.setCell (p := ⟨w.heap.size, 0, none⟩) (by show _ ≤ w.heap.size; omega) (.int .i64 (i))).setCell (p := ⟨w.heap.size, 1, none⟩) (by show _ ≤ w.heap.size; omega) (.int .i64 (j))).setCell (p := ⟨w.heap.size, 2, none⟩) (by show _ ≤ w.heap.size; omega) (.int .i64 (l))).setCell (p := ⟨w.heap.size, 3, none⟩) (by show _ ≤ w.heap.size; omega) (.int .i64 (n3)))
              exact bodyPost_ret (v := .agg #[.int .i64 (i), .int .i64 (j), .int .i64 (l), .int .i64 (n3)]) (by simp [results, Tryz.results26, go_sem, P0, P1, P2, P3]) rfl ⟨by rw [E3.out], HB⟩
/-- What a call that answers a time and an error's number leaves. -/
def RetTE (w : World) (h m s n x : Int) (e : Ending) (w' : World) : Prop := e = .returned (.tuple #[.agg #[.int .i64 h, .int .i64 m, .int .i64 s, .int .i64 n], .int .i64 x]) ∧ Below w.heap.size w w'
end Go.Proofs.YtlidicnbmfkghaaGreatDoor

/- The document's answer of layer 6: nanoseconds added to times, times rounded, out of what their calls answer. -/
namespace Go.Proofs.YtlidicnbmfkghaaGreatDoor
open Go.RowKit

/-- What a call that answers a time, a number and an error's number leaves. -/
def RetTNE (w : World) (h m s n k x : Int) (e : Ending) (w' : World) : Prop := e = .returned (.tuple #[.agg #[.int .i64 h, .int .i64 m, .int .i64 s, .int .i64 n], .int .i64 k, .int .i64 x]) ∧ Below w.heap.size w w'
set_option maxRecDepth 100000 in
set_option maxHeartbeats 8000000 in
theorem roundT_arg (h m s n ic mo : Int) (RI : Hid (∀ W, Calls Tryz.prog 20 #[.agg #[.int .i64 (h), .int .i64 (m), .int .i64 (s), .int .i64 (n)]] W (fun e w' => e = .returned (.bool false) ∧ Below W.heap.size W w'))) (w : World) :
    Calls Tryz.prog 10 #[.agg #[.int .i64 (h), .int .i64 (m), .int .i64 (s), .int .i64 (n)], .int .i64 ic, .int .i64 mo] w (RetTNE w 0 0 0 0 0 1) := by
  go_enter Tryz.func10, Tryz.ntmps10
  go_upto_region 1 with (fail)
  have KM := (((BM.nil w).more4 (.int .i64 (h)) (.int .i64 (m)) (.int .i64 (s)) (.int .i64 (n)) 25).more4 (.int .i64 0) (.int .i64 0) (.int .i64 0) (.int .i64 0) 25)
  try simp only [World.size_alloc] at KM
  generalize ((w.alloc (.cells #[.int .i64 (h), .int .i64 (m), .int .i64 (s), .int .i64 (n)] 25)).alloc (.cells #[.int .i64 0, .int .i64 0, .int .i64 0, .int .i64 0] 25)) = w0 at *
  obtain ⟨_, aa, ab, ac, ad, _⟩ := (KM.tail.head).four
  go_wp2_with fail
  clear aa ab ac ad
  refine (RI.out _).mono ?_
  rintro e w1 ⟨rfl, k⟩
  replace KM := KM.below k
  clear k
  obtain ⟨_, r0, r1, r2, r3, f0, f1, f2, f3⟩ := (KM.head).four
  go_wp2
  obtain ⟨_, P0, P1, P2, P3, _⟩ := ((KM.head).self4 (.int .i64 0) (.int .i64 0) (.int .i64 0) (.int .i64 0)).four
  have HB := ((((KM.hb.setCell (p := ⟨w.heap.size + 1, 0, none⟩) (by show _ ≤ w.heap.size + 1; omega) (.int .i64 0)).setCell (p := ⟨w.heap.size + 1, 1, none⟩) (by show _ ≤ w.heap.size + 1; omega) (.int .i64 0)).setCell (p := ⟨w.heap.size + 1, 2, none⟩) (by show _ ≤ w.heap.size + 1; omega) (.int .i64 0)).setCell (p := ⟨w.heap.size + 1, 3, none⟩) (by show _ ≤ w.heap.size + 1; omega) (.int .i64 0))
  exact bodyPost_ret (v := .tuple #[.agg #[.int .i64 0, .int .i64 0, .int .i64 0, .int .i64 0], .int .i64 0, .int .i64 1]) (by simp [results, Tryz.results10, go_sem, P0, P1, P2, P3]) rfl ⟨rfl, HB⟩
set_option maxRecDepth 100000 in
set_option maxHeartbeats 8000000 in
theorem roundT_less (h m s n ic mo : Int) (RI : Hid (∀ W, Calls Tryz.prog 20 #[.agg #[.int .i64 (h), .int .i64 (m), .int .i64 (s), .int .i64 (n)]] W (fun e w' => e = .returned (.bool true) ∧ Below W.heap.size W w'))) (h1 : ic < 1) (w : World) :
    Calls Tryz.prog 10 #[.agg #[.int .i64 (h), .int .i64 (m), .int .i64 (s), .int .i64 (n)], .int .i64 ic, .int .i64 mo] w (RetTNE w 0 0 0 0 0 1) := by
  go_enter Tryz.func10, Tryz.ntmps10
  go_upto_region 1 with (fail)
  have KM := (((BM.nil w).more4 (.int .i64 (h)) (.int .i64 (m)) (.int .i64 (s)) (.int .i64 (n)) 25).more4 (.int .i64 0) (.int .i64 0) (.int .i64 0) (.int .i64 0) 25)
  try simp only [World.size_alloc] at KM
  generalize ((w.alloc (.cells #[.int .i64 (h), .int .i64 (m), .int .i64 (s), .int .i64 (n)] 25)).alloc (.cells #[.int .i64 0, .int .i64 0, .int .i64 0, .int .i64 0] 25)) = w0 at *
  obtain ⟨_, aa, ab, ac, ad, _⟩ := (KM.tail.head).four
  go_wp2_with fail
  clear aa ab ac ad
  refine (RI.out _).mono ?_
  rintro e w1 ⟨rfl, k⟩
  replace KM := KM.below k
  clear k
  obtain ⟨_, r0, r1, r2, r3, f0, f1, f2, f3⟩ := (KM.head).four
  go_wp2
  obtain ⟨_, P0, P1, P2, P3, _⟩ := ((KM.head).self4 (.int .i64 0) (.int .i64 0) (.int .i64 0) (.int .i64 0)).four
  have HB := ((((KM.hb.setCell (p := ⟨w.heap.size + 1, 0, none⟩) (by show _ ≤ w.heap.size + 1; omega) (.int .i64 0)).setCell (p := ⟨w.heap.size + 1, 1, none⟩) (by show _ ≤ w.heap.size + 1; omega) (.int .i64 0)).setCell (p := ⟨w.heap.size + 1, 2, none⟩) (by show _ ≤ w.heap.size + 1; omega) (.int .i64 0)).setCell (p := ⟨w.heap.size + 1, 3, none⟩) (by show _ ≤ w.heap.size + 1; omega) (.int .i64 0))
  exact bodyPost_ret (v := .tuple #[.agg #[.int .i64 0, .int .i64 0, .int .i64 0, .int .i64 0], .int .i64 0, .int .i64 1]) (by simp [results, Tryz.results10, go_sem, P0, P1, P2, P3]) rfl ⟨rfl, HB⟩
set_option maxRecDepth 100000 in
set_option maxHeartbeats 8000000 in
theorem roundT_more (h m s n ic mo : Int) (RI : Hid (∀ W, Calls Tryz.prog 20 #[.agg #[.int .i64 (h), .int .i64 (m), .int .i64 (s), .int .i64 (n)]] W (fun e w' => e = .returned (.bool true) ∧ Below W.heap.size W w'))) (h1 : ¬ ic < 1) (h2 : 86400000000000 < ic) (w : World) :
    Calls Tryz.prog 10 #[.agg #[.int .i64 (h), .int .i64 (m), .int .i64 (s), .int .i64 (n)], .int .i64 ic, .int .i64 mo] w (RetTNE w 0 0 0 0 0 1) := by
  go_enter Tryz.func10, Tryz.ntmps10
  go_upto_region 1 with (fail)
  have KM := (((BM.nil w).more4 (.int .i64 (h)) (.int .i64 (m)) (.int .i64 (s)) (.int .i64 (n)) 25).more4 (.int .i64 0) (.int .i64 0) (.int .i64 0) (.int .i64 0) 25)
  try simp only [World.size_alloc] at KM
  generalize ((w.alloc (.cells #[.int .i64 (h), .int .i64 (m), .int .i64 (s), .int .i64 (n)] 25)).alloc (.cells #[.int .i64 0, .int .i64 0, .int .i64 0, .int .i64 0] 25)) = w0 at *
  obtain ⟨_, aa, ab, ac, ad, _⟩ := (KM.tail.head).four
  go_wp2_with fail
  clear aa ab ac ad
  refine (RI.out _).mono ?_
  rintro e w1 ⟨rfl, k⟩
  replace KM := KM.below k
  clear k
  obtain ⟨_, r0, r1, r2, r3, f0, f1, f2, f3⟩ := (KM.head).four
  go_wp2
  obtain ⟨_, P0, P1, P2, P3, _⟩ := ((KM.head).self4 (.int .i64 0) (.int .i64 0) (.int .i64 0) (.int .i64 0)).four
  have HB := ((((KM.hb.setCell (p := ⟨w.heap.size + 1, 0, none⟩) (by show _ ≤ w.heap.size + 1; omega) (.int .i64 0)).setCell (p := ⟨w.heap.size + 1, 1, none⟩) (by show _ ≤ w.heap.size + 1; omega) (.int .i64 0)).setCell (p := ⟨w.heap.size + 1, 2, none⟩) (by show _ ≤ w.heap.size + 1; omega) (.int .i64 0)).setCell (p := ⟨w.heap.size + 1, 3, none⟩) (by show _ ≤ w.heap.size + 1; omega) (.int .i64 0))
  exact bodyPost_ret (v := .tuple #[.agg #[.int .i64 0, .int .i64 0, .int .i64 0, .int .i64 0], .int .i64 0, .int .i64 1]) (by simp [results, Tryz.results10, go_sem, P0, P1, P2, P3]) rfl ⟨rfl, HB⟩
set_option maxRecDepth 100000 in
set_option maxHeartbeats 8000000 in
theorem roundT_part (h m s n ic mo : Int) (RI : Hid (∀ W, Calls Tryz.prog 20 #[.agg #[.int .i64 (h), .int .i64 (m), .int .i64 (s), .int .i64 (n)]] W (fun e w' => e = .returned (.bool true) ∧ Below W.heap.size W w'))) (h1 : ¬ ic < 1) (h2 : ¬ 86400000000000 < ic) (h3 : ((86400000000000 : Int) % ic != 0) = true) (w : World) :
    Calls Tryz.prog 10 #[.agg #[.int .i64 (h), .int .i64 (m), .int .i64 (s), .int .i64 (n)], .int .i64 ic, .int .i64 mo] w (RetTNE w 0 0 0 0 0 1) := by
  have i0 : ¬ ic = 0 := by omega
  have i1 : (ic == 0) = false := by rw [beq_eq_false_iff_ne]; exact i0
  go_enter Tryz.func10, Tryz.ntmps10
  go_upto_region 1 with (fail)
  have KM := (((BM.nil w).more4 (.int .i64 (h)) (.int .i64 (m)) (.int .i64 (s)) (.int .i64 (n)) 25).more4 (.int .i64 0) (.int .i64 0) (.int .i64 0) (.int .i64 0) 25)
  try simp only [World.size_alloc] at KM
  generalize ((w.alloc (.cells #[.int .i64 (h), .int .i64 (m), .int .i64 (s), .int .i64 (n)] 25)).alloc (.cells #[.int .i64 0, .int .i64 0, .int .i64 0, .int .i64 0] 25)) = w0 at *
  obtain ⟨_, aa, ab, ac, ad, _⟩ := (KM.tail.head).four
  go_wp2_with fail
  clear aa ab ac ad
  refine (RI.out _).mono ?_
  rintro e w1 ⟨rfl, k⟩
  replace KM := KM.below k
  clear k
  obtain ⟨_, r0, r1, r2, r3, f0, f1, f2, f3⟩ := (KM.head).four
  go_wp2
  obtain ⟨_, P0, P1, P2, P3, _⟩ := ((KM.head).self4 (.int .i64 0) (.int .i64 0) (.int .i64 0) (.int .i64 0)).four
  have HB := ((((KM.hb.setCell (p := ⟨w.heap.size + 1, 0, none⟩) (by show _ ≤ w.heap.size + 1; omega) (.int .i64 0)).setCell (p := ⟨w.heap.size + 1, 1, none⟩) (by show _ ≤ w.heap.size + 1; omega) (.int .i64 0)).setCell (p := ⟨w.heap.size + 1, 2, none⟩) (by show _ ≤ w.heap.size + 1; omega) (.int .i64 0)).setCell (p := ⟨w.heap.size + 1, 3, none⟩) (by show _ ≤ w.heap.size + 1; omega) (.int .i64 0))
  exact bodyPost_ret (v := .tuple #[.agg #[.int .i64 0, .int .i64 0, .int .i64 0, .int .i64 0], .int .i64 0, .int .i64 1]) (by simp [results, Tryz.results10, go_sem, P0, P1, P2, P3]) rfl ⟨rfl, HB⟩
set_option maxRecDepth 100000 in
set_option maxHeartbeats 8000000 in
theorem roundT_mode (h m s n ic mo nn : Int) (RI : Hid (∀ W, Calls Tryz.prog 20 #[.agg #[.int .i64 (h), .int .i64 (m), .int .i64 (s), .int .i64 (n)]] W (fun e w' => e = .returned (.bool true) ∧ Below W.heap.size W w'))) (h1 : ¬ ic < 1) (h2 : ¬ 86400000000000 < ic) (h3 : ((86400000000000 : Int) % ic != 0) = false) (NA : Hid (∀ W, Calls Tryz.prog 23 #[.agg #[.int .i64 (h), .int .i64 (m), .int .i64 (s), .int .i64 (n)]] W (fun e w' => e = .returned (.int .i64 nn) ∧ Below W.heap.size W w'))) (ON : Hid (∀ W, Calls Tryz.prog 22 #[.int .i64 (nn)] W (RetZ W (nn)))) (sn : Hid ((nn).natAbs < 65536 ^ 9)) (OI : Hid (∀ W, Calls Tryz.prog 22 #[.int .i64 (ic)] W (RetZ W (ic)))) (si : Hid ((ic).natAbs < 65536 ^ 9)) (NO : Hid (∀ (p q : Bool) (A B : Option Addr) (n m c d : Nat) (W : World), Calls Tryz.prog 21 #[.agg #[.bool p, .slice A n c], .agg #[.bool q, .slice B m d], .int .i64 mo] W (fun e w' => e = .returned (.tuple #[.agg #[.bool false, .slice none 0 0], .bool false]) ∧ Below W.heap.size W w'))) (w : World) :
    Calls Tryz.prog 10 #[.agg #[.int .i64 (h), .int .i64 (m), .int .i64 (s), .int .i64 (n)], .int .i64 ic, .int .i64 mo] w (RetTNE w 0 0 0 0 0 1) := by
  have i0 : ¬ ic = 0 := by omega
  have i1 : (ic == 0) = false := by rw [beq_eq_false_iff_ne]; exact i0
  go_enter Tryz.func10, Tryz.ntmps10
  go_upto_region 1 with (fail)
  have KM := (((BM.nil w).more4 (.int .i64 (h)) (.int .i64 (m)) (.int .i64 (s)) (.int .i64 (n)) 25).more4 (.int .i64 0) (.int .i64 0) (.int .i64 0) (.int .i64 0) 25)
  try simp only [World.size_alloc] at KM
  generalize ((w.alloc (.cells #[.int .i64 (h), .int .i64 (m), .int .i64 (s), .int .i64 (n)] 25)).alloc (.cells #[.int .i64 0, .int .i64 0, .int .i64 0, .int .i64 0] 25)) = w0 at *
  obtain ⟨_, aa, ab, ac, ad, _⟩ := (KM.tail.head).four
  go_wp2_with fail
  clear aa ab ac ad
  refine (RI.out _).mono ?_
  rintro e w1 ⟨rfl, k⟩
  replace KM := KM.below k
  clear k
  go_upto_region 3 with (fail)
  obtain ⟨_, aa, ab, ac, ad, _⟩ := (KM.tail.head).four
  go_wp2_with fail
  clear aa ab ac ad
  refine (NA.out _).mono ?_
  rintro e w2 ⟨rfl, k⟩
  replace KM := KM.below k
  clear k
  go_wp2_with fail
  refine (ON.out _).mono ?_
  rintro e w3 ⟨p3, A3, n3, c3, rfl, z3, k⟩
  have l3 := z3.small sn.out
  replace KM := (KM.below k).ncons z3
  clear k z3
  go_wp2_with fail
  refine (OI.out _).mono ?_
  rintro e w4 ⟨p4, A4, n4, c4, rfl, z4, k⟩
  have l4 := z4.small si.out
  replace KM := (KM.below k).ncons z4
  clear k z4
  go_wp2_with fail
  refine (NO.out _ _ _ _ _ _ _ _ _).mono ?_
  rintro e w5 ⟨rfl, k⟩
  replace KM := KM.below k
  clear k
  go_upto_region 4 with (fail)
  have hlg := KM.head.lt
  replace KM := KM.more2 (.bool false) (.slice none 0 0) 61
  generalize w5.alloc (.cells #[.bool false, .slice none 0 0] 61) = w6 at *
  have ig0 : w5.heap.size ≠ w.heap.size + 1 := by omega
  have ig1 : w5.heap.size ≠ w.heap.size := by omega
  generalize w5.heap.size = g at *
  obtain ⟨_, r0, r1, r2, r3, f0, f1, f2, f3⟩ := (KM.tail.head).four
  go_wp2
  obtain ⟨_, P0, P1, P2, P3, _⟩ := ((KM.tail.head).self4 (.int .i64 0) (.int .i64 0) (.int .i64 0) (.int .i64 0)).four
  have HB := ((((KM.hb.setCell (p := ⟨w.heap.size + 1, 0, none⟩) (by show _ ≤ w.heap.size + 1; omega) (.int .i64 0)).setCell (p := ⟨w.heap.size + 1, 1, none⟩) (by show _ ≤ w.heap.size + 1; omega) (.int .i64 0)).setCell (p := ⟨w.heap.size + 1, 2, none⟩) (by show _ ≤ w.heap.size + 1; omega) (.int .i64 0)).setCell (p := ⟨w.heap.size + 1, 3, none⟩) (by show _ ≤ w.heap.size + 1; omega) (.int .i64 0))
  exact bodyPost_ret (v := .tuple #[.agg #[.int .i64 0, .int .i64 0, .int .i64 0, .int .i64 0], .int .i64 0, .int .i64 1]) (by simp [results, Tryz.results10, go_sem, P0, P1, P2, P3]) rfl ⟨rfl, HB⟩
set_option maxRecDepth 100000 in
set_option maxHeartbeats 8000000 in
theorem roundT_day (h m s n ic mo nn K P : Int) (RI : Hid (∀ W, Calls Tryz.prog 20 #[.agg #[.int .i64 (h), .int .i64 (m), .int .i64 (s), .int .i64 (n)]] W (fun e w' => e = .returned (.bool true) ∧ Below W.heap.size W w'))) (h1 : ¬ ic < 1) (h2 : ¬ 86400000000000 < ic) (h3 : ((86400000000000 : Int) % ic != 0) = false) (NA : Hid (∀ W, Calls Tryz.prog 23 #[.agg #[.int .i64 (h), .int .i64 (m), .int .i64 (s), .int .i64 (n)]] W (fun e w' => e = .returned (.int .i64 nn) ∧ Below W.heap.size W w'))) (ON : Hid (∀ W, Calls Tryz.prog 22 #[.int .i64 (nn)] W (RetZ W (nn)))) (sn : Hid ((nn).natAbs < 65536 ^ 9)) (OI : Hid (∀ W, Calls Tryz.prog 22 #[.int .i64 (ic)] W (RetZ W (ic)))) (si : Hid ((ic).natAbs < 65536 ^ 9)) (NE : Hid (∀ (p q : Bool) (A B : Option Addr) (n m c d : Nat) (W : World), Zs W p A n c (nn) → Zs W q B m d (ic) → Calls Tryz.prog 21 #[.agg #[.bool p, .slice A n c], .agg #[.bool q, .slice B m d], .int .i64 mo] W (RetNB W (K)))) (sk : Hid ((K).natAbs < 65536 ^ 9)) (MU : Hid (∀ (p q : Bool) (A B : Option Addr) (n m c d : Nat) (W : World), Zs W p A n c (K) → Zs W q B m d (ic) → n ≤ 400000 → m ≤ 400000 → Calls Tryz.prog 25 #[.agg #[.bool p, .slice A n c], .agg #[.bool q, .slice B m d]] W (RetZ W (P)))) (sp : Hid ((P).natAbs < 65536 ^ 20)) (FR : Hid (∀ (p : Bool) (A : Option Addr) (n c : Nat) (W : World), Zs W p A n c (P) → n ≤ 900000 → Calls Tryz.prog 24 #[.agg #[.bool p, .slice A n c]] W (fun e w' => e = .returned (.tuple #[.int .i64 (P), .bool true]) ∧ Below W.heap.size W w'))) (hp : P = 86400000000000) (w : World) :
    Calls Tryz.prog 10 #[.agg #[.int .i64 (h), .int .i64 (m), .int .i64 (s), .int .i64 (n)], .int .i64 ic, .int .i64 mo] w (RetTNE w 0 0 0 0 1 0) := by
  subst hp
  have i0 : ¬ ic = 0 := by omega
  have i1 : (ic == 0) = false := by rw [beq_eq_false_iff_ne]; exact i0
  go_enter Tryz.func10, Tryz.ntmps10
  go_upto_region 1 with (fail)
  have KM := (((BM.nil w).more4 (.int .i64 (h)) (.int .i64 (m)) (.int .i64 (s)) (.int .i64 (n)) 25).more4 (.int .i64 0) (.int .i64 0) (.int .i64 0) (.int .i64 0) 25)
  try simp only [World.size_alloc] at KM
  generalize ((w.alloc (.cells #[.int .i64 (h), .int .i64 (m), .int .i64 (s), .int .i64 (n)] 25)).alloc (.cells #[.int .i64 0, .int .i64 0, .int .i64 0, .int .i64 0] 25)) = w0 at *
  obtain ⟨_, aa, ab, ac, ad, _⟩ := (KM.tail.head).four
  go_wp2_with fail
  clear aa ab ac ad
  refine (RI.out _).mono ?_
  rintro e w1 ⟨rfl, k⟩
  replace KM := KM.below k
  clear k
  go_upto_region 3 with (fail)
  obtain ⟨_, aa, ab, ac, ad, _⟩ := (KM.tail.head).four
  go_wp2_with fail
  clear aa ab ac ad
  refine (NA.out _).mono ?_
  rintro e w2 ⟨rfl, k⟩
  replace KM := KM.below k
  clear k
  go_wp2_with fail
  refine (ON.out _).mono ?_
  rintro e w3 ⟨p3, A3, n3, c3, rfl, z3, k⟩
  have l3 := z3.small sn.out
  replace KM := (KM.below k).ncons z3
  clear k z3
  go_wp2_with fail
  refine (OI.out _).mono ?_
  rintro e w4 ⟨p4, A4, n4, c4, rfl, z4, k⟩
  have l4 := z4.small si.out
  replace KM := (KM.below k).ncons z4
  clear k z4
  go_wp2_with fail
  refine (NE.out _ _ _ _ _ _ _ _ _ KM.nt.num KM.num).mono ?_
  rintro e w5 ⟨p5, A5, n5, c5, rfl, z5, k⟩
  have l5 := z5.small sk.out
  replace KM := (KM.below k).ncons z5
  clear k z5
  go_upto_region 4 with (fail)
  have hlg := KM.head.lt
  replace KM := KM.more2 (.bool p5) (.slice A5 n5 c5) 61
  generalize w5.alloc (.cells #[.bool p5, .slice A5 n5 c5] 61) = w6 at *
  have ig0 : w5.heap.size ≠ w.heap.size + 1 := by omega
  have ig1 : w5.heap.size ≠ w.heap.size := by omega
  generalize w5.heap.size = g at *
  go_upto_region 6 with (fail)
  obtain ⟨_, jaa, jab, _⟩ := (KM.head).two
  go_region_held3 (fun w' => w'.cell? ⟨g, 0, none⟩ = some (.bool p5) ∧ w'.cell? ⟨g, 1, none⟩ = some (.slice A5 n5 c5)) (first | (with_reducible exact ⟨(KM.head).two.2.1, (KM.head).two.2.2.1⟩) | (with_reducible exact ⟨(KM.drew.head).two.2.1, (KM.drew.head).two.2.2.1⟩) | go_keep)
    (first
      | (go_at_call 22; (with_reducible refine (OI.out _).mono ?_); rintro e W11 ⟨p11, A11, n11, c11, rfl, z11, k⟩
         have l11 := z11.small si.out
         with_reducible (first | replace KM := KM.below k | replace KM := KM.drew.below k)
         clear k
         obtain ⟨_, kka, kkb, _⟩ := (KM.head).two)
      | (go_at_call 25; (with_reducible refine (MU.out p5 p11 A5 A11 n5 n11 c5 c11 _ (by with_reducible first | exact KM.num | exact KM.drew.num) (by with_reducible first | exact z11 | exact (z11.below (below_box _ _)) | exact z11.drew | exact (z11.below (below_box _ _)).drew | exact ((z11.below (below_box _ _)).below (below_box _ _)) | exact ((z11.below (below_box _ _)).below (below_box _ _)).drew) (by omega) (by omega)).mono ?_); rintro e W12 ⟨p12, A12, n12, c12, rfl, z12, k⟩
         have l12 := z12.small sp.out
         with_reducible (first | replace KM := KM.below k | replace KM := KM.drew.below k)
         clear k
         obtain ⟨_, kka, kkb, _⟩ := (KM.head).two)
      | (go_at_call 24; (with_reducible refine (FR.out p12 A12 n12 c12 _ (by with_reducible first | exact z12 | exact (z12.below (below_box _ _)) | exact z12.drew | exact (z12.below (below_box _ _)).drew | exact ((z12.below (below_box _ _)).below (below_box _ _)) | exact ((z12.below (below_box _ _)).below (below_box _ _)).drew) (by omega)).mono ?_); rintro e W13 ⟨rfl, k⟩
         with_reducible (first | replace KM := KM.below k | replace KM := KM.drew.below k)
         clear k
         obtain ⟨_, kka, kkb, _⟩ := (KM.head).two))
  all_goals
    obtain ⟨_, r0, r1, r2, r3, f0, f1, f2, f3⟩ := (KM.tail.head).four
    go_wp2
    obtain ⟨_, P0, P1, P2, P3, _⟩ := ((KM.tail.head).self4 (.int .i64 0) (.int .i64 0) (.int .i64 0) (.int .i64 0)).four
    have HB := ((((KM.hb.setCell (p := ⟨w.heap.size + 1, 0, none⟩) (by show _ ≤ w.heap.size + 1; omega) (.int .i64 0)).setCell (p := ⟨w.heap.size + 1, 1, none⟩) (by show _ ≤ w.heap.size + 1; omega) (.int .i64 0)).setCell (p := ⟨w.heap.size + 1, 2, none⟩) (by show _ ≤ w.heap.size + 1; omega) (.int .i64 0)).setCell (p := ⟨w.heap.size + 1, 3, none⟩) (by show _ ≤ w.heap.size + 1; omega) (.int .i64 0))
    exact bodyPost_ret (v := .tuple #[.agg #[.int .i64 0, .int .i64 0, .int .i64 0, .int .i64 0], .int .i64 1, .int .i64 0]) (by simp [results, Tryz.results10, go_sem, P0, P1, P2, P3]) rfl ⟨rfl, HB⟩
set_option maxRecDepth 100000 in
set_option maxHeartbeats 8000000 in
theorem roundT_yes (h m s n ic mo nn K P x0 x1 x2 x3 : Int) (RI : Hid (∀ W, Calls Tryz.prog 20 #[.agg #[.int .i64 (h), .int .i64 (m), .int .i64 (s), .int .i64 (n)]] W (fun e w' => e = .returned (.bool true) ∧ Below W.heap.size W w'))) (h1 : ¬ ic < 1) (h2 : ¬ 86400000000000 < ic) (h3 : ((86400000000000 : Int) % ic != 0) = false) (NA : Hid (∀ W, Calls Tryz.prog 23 #[.agg #[.int .i64 (h), .int .i64 (m), .int .i64 (s), .int .i64 (n)]] W (fun e w' => e = .returned (.int .i64 nn) ∧ Below W.heap.size W w'))) (ON : Hid (∀ W, Calls Tryz.prog 22 #[.int .i64 (nn)] W (RetZ W (nn)))) (sn : Hid ((nn).natAbs < 65536 ^ 9)) (OI : Hid (∀ W, Calls Tryz.prog 22 #[.int .i64 (ic)] W (RetZ W (ic)))) (si : Hid ((ic).natAbs < 65536 ^ 9)) (NE : Hid (∀ (p q : Bool) (A B : Option Addr) (n m c d : Nat) (W : World), Zs W p A n c (nn) → Zs W q B m d (ic) → Calls Tryz.prog 21 #[.agg #[.bool p, .slice A n c], .agg #[.bool q, .slice B m d], .int .i64 mo] W (RetNB W (K)))) (sk : Hid ((K).natAbs < 65536 ^ 9)) (MU : Hid (∀ (p q : Bool) (A B : Option Addr) (n m c d : Nat) (W : World), Zs W p A n c (K) → Zs W q B m d (ic) → n ≤ 400000 → m ≤ 400000 → Calls Tryz.prog 25 #[.agg #[.bool p, .slice A n c], .agg #[.bool q, .slice B m d]] W (RetZ W (P)))) (sp : Hid ((P).natAbs < 65536 ^ 20)) (FR : Hid (∀ (p : Bool) (A : Option Addr) (n c : Nat) (W : World), Zs W p A n c (P) → n ≤ 900000 → Calls Tryz.prog 24 #[.agg #[.bool p, .slice A n c]] W (fun e w' => e = .returned (.tuple #[.int .i64 (P), .bool true]) ∧ Below W.heap.size W w'))) (hp : (P == 86400000000000) = false) (TO : Hid (∀ W, Calls Tryz.prog 26 #[.int .i64 P] W (fun e w' => e = .returned (.agg #[.int .i64 (x0), .int .i64 (x1), .int .i64 (x2), .int .i64 (x3)]) ∧ Below W.heap.size W w'))) (w : World) :
    Calls Tryz.prog 10 #[.agg #[.int .i64 (h), .int .i64 (m), .int .i64 (s), .int .i64 (n)], .int .i64 ic, .int .i64 mo] w (RetTNE w x0 x1 x2 x3 0 0) := by
  have hp' : ¬ P = 86400000000000 := by rw [beq_eq_false_iff_ne] at hp; exact hp
  have i0 : ¬ ic = 0 := by omega
  have i1 : (ic == 0) = false := by rw [beq_eq_false_iff_ne]; exact i0
  go_enter Tryz.func10, Tryz.ntmps10
  go_upto_region 1 with (fail)
  have KM := (((BM.nil w).more4 (.int .i64 (h)) (.int .i64 (m)) (.int .i64 (s)) (.int .i64 (n)) 25).more4 (.int .i64 0) (.int .i64 0) (.int .i64 0) (.int .i64 0) 25)
  try simp only [World.size_alloc] at KM
  generalize ((w.alloc (.cells #[.int .i64 (h), .int .i64 (m), .int .i64 (s), .int .i64 (n)] 25)).alloc (.cells #[.int .i64 0, .int .i64 0, .int .i64 0, .int .i64 0] 25)) = w0 at *
  obtain ⟨_, aa, ab, ac, ad, _⟩ := (KM.tail.head).four
  go_wp2_with fail
  clear aa ab ac ad
  refine (RI.out _).mono ?_
  rintro e w1 ⟨rfl, k⟩
  replace KM := KM.below k
  clear k
  go_upto_region 3 with (fail)
  obtain ⟨_, aa, ab, ac, ad, _⟩ := (KM.tail.head).four
  go_wp2_with fail
  clear aa ab ac ad
  refine (NA.out _).mono ?_
  rintro e w2 ⟨rfl, k⟩
  replace KM := KM.below k
  clear k
  go_wp2_with fail
  refine (ON.out _).mono ?_
  rintro e w3 ⟨p3, A3, n3, c3, rfl, z3, k⟩
  have l3 := z3.small sn.out
  replace KM := (KM.below k).ncons z3
  clear k z3
  go_wp2_with fail
  refine (OI.out _).mono ?_
  rintro e w4 ⟨p4, A4, n4, c4, rfl, z4, k⟩
  have l4 := z4.small si.out
  replace KM := (KM.below k).ncons z4
  clear k z4
  go_wp2_with fail
  refine (NE.out _ _ _ _ _ _ _ _ _ KM.nt.num KM.num).mono ?_
  rintro e w5 ⟨p5, A5, n5, c5, rfl, z5, k⟩
  have l5 := z5.small sk.out
  replace KM := (KM.below k).ncons z5
  clear k z5
  go_upto_region 4 with (fail)
  have hlg := KM.head.lt
  replace KM := KM.more2 (.bool p5) (.slice A5 n5 c5) 61
  generalize w5.alloc (.cells #[.bool p5, .slice A5 n5 c5] 61) = w6 at *
  have ig0 : w5.heap.size ≠ w.heap.size + 1 := by omega
  have ig1 : w5.heap.size ≠ w.heap.size := by omega
  generalize w5.heap.size = g at *
  go_upto_region 6 with (fail)
  obtain ⟨_, jaa, jab, _⟩ := (KM.head).two
  go_region_held3 (fun w' => w'.cell? ⟨g, 0, none⟩ = some (.bool p5) ∧ w'.cell? ⟨g, 1, none⟩ = some (.slice A5 n5 c5)) (first | (with_reducible exact ⟨(KM.head).two.2.1, (KM.head).two.2.2.1⟩) | (with_reducible exact ⟨(KM.drew.head).two.2.1, (KM.drew.head).two.2.2.1⟩) | go_keep)
    (first
      | (go_at_call 22; (with_reducible refine (OI.out _).mono ?_); rintro e W11 ⟨p11, A11, n11, c11, rfl, z11, k⟩
         have l11 := z11.small si.out
         with_reducible (first | replace KM := KM.below k | replace KM := KM.drew.below k)
         clear k
         obtain ⟨_, kka, kkb, _⟩ := (KM.head).two)
      | (go_at_call 25; (with_reducible refine (MU.out p5 p11 A5 A11 n5 n11 c5 c11 _ (by with_reducible first | exact KM.num | exact KM.drew.num) (by with_reducible first | exact z11 | exact (z11.below (below_box _ _)) | exact z11.drew | exact (z11.below (below_box _ _)).drew | exact ((z11.below (below_box _ _)).below (below_box _ _)) | exact ((z11.below (below_box _ _)).below (below_box _ _)).drew) (by omega) (by omega)).mono ?_); rintro e W12 ⟨p12, A12, n12, c12, rfl, z12, k⟩
         have l12 := z12.small sp.out
         with_reducible (first | replace KM := KM.below k | replace KM := KM.drew.below k)
         clear k
         obtain ⟨_, kka, kkb, _⟩ := (KM.head).two)
      | (go_at_call 24; (with_reducible refine (FR.out p12 A12 n12 c12 _ (by with_reducible first | exact z12 | exact (z12.below (below_box _ _)) | exact z12.drew | exact (z12.below (below_box _ _)).drew | exact ((z12.below (below_box _ _)).below (below_box _ _)) | exact ((z12.below (below_box _ _)).below (below_box _ _)).drew) (by omega)).mono ?_); rintro e W13 ⟨rfl, k⟩
         with_reducible (first | replace KM := KM.below k | replace KM := KM.drew.below k)
         clear k
         obtain ⟨_, kka, kkb, _⟩ := (KM.head).two))
  all_goals
    go_wp2_with fail
    refine (TO.out _).mono ?_
    rintro e w7 ⟨rfl, k⟩
    replace KM := KM.below k
    clear k
    obtain ⟨_, r0, r1, r2, r3, f0, f1, f2, f3⟩ := (KM.tail.head).four
    go_wp2
    obtain ⟨_, P0, P1, P2, P3, _⟩ := ((KM.tail.head).self4 (.int .i64 (x0)) (.int .i64 (x1)) (.int .i64 (x2)) (.int .i64 (x3))).four
    have HB := ((((KM.hb.setCell (p := ⟨w.heap.size + 1, 0, none⟩) (by show _ ≤ w.heap.size + 1; omega) (.int .i64 (x0))).setCell (p := ⟨w.heap.size + 1, 1, none⟩) (by show _ ≤ w.heap.size + 1; omega) (.int .i64 (x1))).setCell (p := ⟨w.heap.size + 1, 2, none⟩) (by show _ ≤ w.heap.size + 1; omega) (.int .i64 (x2))).setCell (p := ⟨w.heap.size + 1, 3, none⟩) (by show _ ≤ w.heap.size + 1; omega) (.int .i64 (x3)))
    exact bodyPost_ret (v := .tuple #[.agg #[.int .i64 (x0), .int .i64 (x1), .int .i64 (x2), .int .i64 (x3)], .int .i64 0, .int .i64 0]) (by simp [results, Tryz.results10, go_sem, P0, P1, P2, P3]) rfl ⟨rfl, HB⟩
end Go.Proofs.YtlidicnbmfkghaaGreatDoor

/- The document's answer of layer 6, whole: nanoseconds added to a time, a time rounded. -/
namespace Go.Proofs.YtlidicnbmfkghaaGreatDoor
open Go.RowKit

theorem day_small : (86400000000000 : Int).natAbs < 65536 ^ 9 := small_w (inW_of_64 (by decide))
theorem rightT_yes {h m s n : Int} (k : okT h m s n) (W : World) : Calls Tryz.prog 20 #[.agg #[.int .i64 (h), .int .i64 (m), .int .i64 (s), .int .i64 (n)]] W (fun e w' => e = .returned (.bool true) ∧ Below W.heap.size W w') := by
  have c := rightT h m s n W
  rw [decide_eq_true k] at c
  exact c.mono fun _ _ ⟨h1, h2⟩ => ⟨h1, h2⟩
theorem rightT_no {h m s n : Int} (k : ¬ okT h m s n) (W : World) : Calls Tryz.prog 20 #[.agg #[.int .i64 (h), .int .i64 (m), .int .i64 (s), .int .i64 (n)]] W (fun e w' => e = .returned (.bool false) ∧ Below W.heap.size W w') := by
  have c := rightT h m s n W
  rw [decide_eq_false k] at c
  exact c.mono fun _ _ ⟨h1, h2⟩ => ⟨h1, h2⟩
theorem add_small {x a : Int} (x0 : 0 ≤ x) (x1 : x < 86400000000000) (ha : InW a) : (x + a).natAbs < 65536 ^ 9 := by
  have := abs_w ha
  exact small_2w (by omega)
/-- what a time's number becomes -/
def rndT (x ic mo : Int) : Int := nearZ x ic mo * ic
theorem rnd_range {x ic mo : Int} (x0 : 0 ≤ x) (x1 : x < 86400000000000) (i0 : 0 < ic) (hd : (86400000000000 : Int) % ic = 0) : 0 ≤ rndT x ic mo ∧ rndT x ic mo ≤ 86400000000000 := by
  obtain ⟨q, hq⟩ : ∃ q : Int, (86400000000000 : Int) = q * ic := ⟨86400000000000 / ic, (Int.ediv_mul_cancel (Int.dvd_of_emod_eq_zero hd)).symm⟩
  have l1 : 0 ≤ x / ic := Int.ediv_nonneg x0 (by omega)
  have l2 : x / ic + 1 ≤ q := by
    have := Int.ediv_lt_of_lt_mul i0 (show x < q * ic by omega)
    omega
  have key : 0 ≤ nearZ x ic mo ∧ nearZ x ic mo ≤ q := by
    rcases near_two (n := x) (d := ic) (m := mo) with k | ⟨k, _⟩ <;> rw [k] <;> omega
  unfold rndT
  exact ⟨Int.mul_nonneg key.1 (by omega), by rw [hq]; exact Int.mul_le_mul_of_nonneg_right key.2 (by omega)⟩
theorem roundTR_bad {h m s n ic mo : Int} (b : ¬ okT h m s n ∨ ic < 1 ∨ 86400000000000 < ic ∨ (86400000000000 : Int) % ic ≠ 0 ∨ mo < 1 ∨ 9 < mo) (w : World) :
    Calls Tryz.prog 10 #[.agg #[.int .i64 (h), .int .i64 (m), .int .i64 (s), .int .i64 (n)], .int .i64 ic, .int .i64 mo] w (RetTNE w 0 0 0 0 0 1) := by
  by_cases k : okT h m s n
  · have RI := Lib.hid fun W => rightT_yes k W
    by_cases h1 : ic < 1
    · exact roundT_less h m s n ic mo RI h1 w
    by_cases h2 : 86400000000000 < ic
    · exact roundT_more h m s n ic mo RI h1 h2 w
    by_cases h3 : (86400000000000 : Int) % ic = 0
    · obtain ⟨x0, x1⟩ := numT_range k
      have nw : InW (numT h m s n) := inW_of_64 (by unfold In64; omega)
      have iw : InW ic := inW_of_64 (by unfold In64; omega)
      have mm : mo < 1 ∨ 9 < mo := by
        rcases b with b | b | b | b | b | b
        · exact absurd k b
        · omega
        · omega
        · exact absurd h3 b
        · exact .inl b
        · exact .inr b
      exact roundT_mode h m s n ic mo _ RI h1 h2 (by rw [bne_eq_false_iff_eq]; exact h3) (Lib.hid fun W => (nanosT h m s n k W).mono fun _ _ ⟨h1, h2⟩ => ⟨h1, h2⟩) (Lib.hid fun W => of_any _ (by omega) (by omega) W) (Lib.hid (small_w nw))
        (Lib.hid fun W => of_any _ (by omega) (by omega) W) (Lib.hid (small_w iw)) (Lib.hid fun p q A B n m c d W => near_none p q A B n m c d mo mm W) w
    · exact roundT_part h m s n ic mo RI h1 h2 (by rw [bne_iff_ne]; exact h3) w
  · exact roundT_arg h m s n ic mo (Lib.hid fun W => rightT_no k W) w
theorem rnd_small {x ic mo : Int} (x0 : 0 ≤ x) (x1 : x < 86400000000000) (i0 : 0 < ic) (hd : (86400000000000 : Int) % ic = 0) : (nearZ x ic mo).natAbs < 65536 ^ 9 ∧ (rndT x ic mo).natAbs < 65536 ^ 20 := by
  have nl := near_le (x := x) (y := ic) (m := mo) i0
  have r := rnd_range (mo := mo) x0 x1 i0 hd
  refine ⟨small_2w (by omega), Nat.lt_of_lt_of_le (small_w (z := rndT x ic mo) (inW_of_64 (by unfold In64; omega))) (Nat.pow_le_pow_right (by decide) (by decide))⟩
theorem roundTR_day {h m s n ic mo : Int} (k : okT h m s n) (h1 : ¬ ic < 1) (h2 : ¬ 86400000000000 < ic) (h3 : (86400000000000 : Int) % ic = 0) (m1 : 1 ≤ mo) (m9 : mo ≤ 9) (e : rndT (numT h m s n) ic mo = 86400000000000) (w : World) :
    Calls Tryz.prog 10 #[.agg #[.int .i64 (h), .int .i64 (m), .int .i64 (s), .int .i64 (n)], .int .i64 ic, .int .i64 mo] w (RetTNE w 0 0 0 0 1 0) := by
  obtain ⟨x0, x1⟩ := numT_range k
  have nw : InW (numT h m s n) := inW_of_64 (by unfold In64; omega)
  have iw : InW ic := inW_of_64 (by unfold In64; omega)
  obtain ⟨sk, sp⟩ := rnd_small (mo := mo) x0 x1 (by omega) h3
  have r := rnd_range (mo := mo) x0 x1 (by omega) h3
  exact roundT_day h m s n ic mo _ _ (rndT (numT h m s n) ic mo) (Lib.hid fun W => rightT_yes k W) h1 h2 (by rw [bne_eq_false_iff_eq]; exact h3) (Lib.hid fun W => (nanosT h m s n k W).mono fun _ _ ⟨h1, h2⟩ => ⟨h1, h2⟩) (Lib.hid fun W => of_any _ (by omega) (by omega) W) (Lib.hid (small_w nw))
    (Lib.hid fun W => of_any _ (by omega) (by omega) W) (Lib.hid (small_w iw)) (Lib.hid fun p q A B n m c d W h1 h2 => near_any p q A B n m c d _ _ mo (by omega) m1 m9 (small_w nw) (small_w iw) W h1 h2) (Lib.hid sk)
    (Lib.hid fun p q A B n m c d W h1 h2 h3 h4 => mul_any p q A B n m c d _ _ W h1 h2 h3 h4) (Lib.hid sp) (Lib.hid fun p A n c W h1 h2 => fits_yes p A n c _ W h1 h2 (by unfold two63; omega) (by unfold two63; omega)) e w
theorem roundTR {h m s n ic mo x0 x1 x2 x3 : Int} (k : okT h m s n) (h1 : ¬ ic < 1) (h2 : ¬ 86400000000000 < ic) (h3 : (86400000000000 : Int) % ic = 0) (m1 : 1 ≤ mo) (m9 : mo ≤ 9) (hx : okT x0 x1 x2 x3) (e : numT x0 x1 x2 x3 = rndT (numT h m s n) ic mo) (w : World) :
    Calls Tryz.prog 10 #[.agg #[.int .i64 (h), .int .i64 (m), .int .i64 (s), .int .i64 (n)], .int .i64 ic, .int .i64 mo] w (RetTNE w x0 x1 x2 x3 0 0) := by
  obtain ⟨y0, y1⟩ := numT_range k
  have nw : InW (numT h m s n) := inW_of_64 (by unfold In64; omega)
  have iw : InW ic := inW_of_64 (by unfold In64; omega)
  obtain ⟨sk, sp⟩ := rnd_small (mo := mo) y0 y1 (by omega) h3
  have r := numT_range hx
  rw [e] at r
  exact roundT_yes h m s n ic mo _ _ (rndT (numT h m s n) ic mo) x0 x1 x2 x3 (Lib.hid fun W => rightT_yes k W) h1 h2 (by rw [bne_eq_false_iff_eq]; exact h3) (Lib.hid fun W => (nanosT h m s n k W).mono fun _ _ ⟨h1, h2⟩ => ⟨h1, h2⟩) (Lib.hid fun W => of_any _ (by omega) (by omega) W) (Lib.hid (small_w nw))
    (Lib.hid fun W => of_any _ (by omega) (by omega) W) (Lib.hid (small_w iw)) (Lib.hid fun p q A B n m c d W h1 h2 => near_any p q A B n m c d _ _ mo (by omega) m1 m9 (small_w nw) (small_w iw) W h1 h2) (Lib.hid sk)
    (Lib.hid fun p q A B n m c d W h1 h2 h3 h4 => mul_any p q A B n m c d _ _ W h1 h2 h3 h4) (Lib.hid sp) (Lib.hid fun p A n c W h1 h2 => fits_yes p A n c _ W h1 h2 (by unfold two63; omega) (by unfold two63; omega)) (by rw [beq_eq_false_iff_ne]; omega) (Lib.hid fun W => ofT x0 x1 x2 x3 hx _ e W) w
end Go.Proofs.YtlidicnbmfkghaaGreatDoor
