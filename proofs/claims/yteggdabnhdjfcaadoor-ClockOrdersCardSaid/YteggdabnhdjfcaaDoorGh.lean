import Derived.IntWalk
import Derived.Test.YteggdabnhdjfcaaDoorGm
import Derived.Test.YteggdabnhdjfcaaDoorGa
import Derived.LoopTactic
import Derived.Outline
import Derived.Test.YteggdabnhdjfcaaDoorGs
import Derived.Deep.RegionHeld3
import Derived.Test.YteggdabnhdjfcaaDoorGw
/- Times of the day, as numbers. No program here. -/
namespace Go.Proofs.YteggdabnhdjfcaaDoor

def okT (h m s n : Int) : Prop := (0 ≤ h ∧ h < 24) ∧ (0 ≤ m ∧ m < 60) ∧ (0 ≤ s ∧ s < 60) ∧ 0 ≤ n ∧ n < 1000000000
instance (h m s n : Int) : Decidable (okT h m s n) := by unfold okT; infer_instance
def numT (h m s n : Int) : Int := h * 3600000000000 + m * 60000000000 + s * 1000000000 + n
theorem numT_range {h m s n : Int} (k : okT h m s n) : 0 ≤ numT h m s n ∧ numT h m s n < 86400000000000 := by
  obtain ⟨⟨h1, h2⟩, ⟨h3, h4⟩, ⟨h5, h6⟩, h7, h8⟩ := k; unfold numT; omega
theorem numT_inj {h m s n h' m' s' n' : Int} (k : okT h m s n) (k' : okT h' m' s' n') (e : numT h m s n = numT h' m' s' n') : h = h' ∧ m = m' ∧ s = s' ∧ n = n' := by
  obtain ⟨⟨h1, h2⟩, ⟨h3, h4⟩, ⟨h5, h6⟩, h7, h8⟩ := k
  obtain ⟨⟨g1, g2⟩, ⟨g3, g4⟩, ⟨g5, g6⟩, g7, g8⟩ := k'
  unfold numT at e; omega
theorem time_of {n : Int} (h0 : 0 ≤ n) (h1 : n < 86400000000000) : ∃ h m s k : Int, okT h m s k ∧ numT h m s k = n :=
  ⟨n / 3600000000000, n % 3600000000000 / 60000000000, n % 60000000000 / 1000000000, n % 1000000000, by unfold okT; omega, by unfold numT; omega⟩
/-- which of two times is ahead -/
def cmpT (h m s n h' m' s' n' : Int) : Int :=
  if h < h' then -1 else if h' < h then 1 else if m < m' then -1 else if m' < m then 1 else if s < s' then -1 else if s' < s then 1 else if n < n' then -1 else if n' < n then 1 else 0
/-- the nearest one up to most -/
def nearT (n k : Int) : Int := if n < 0 then 0 else if k < n then k else n
end Go.Proofs.YteggdabnhdjfcaaDoor

/- The document's answer of layer 6: right times, their numbers, the times of numbers, fields made right, times held against one another. -/
namespace Go.Proofs.YteggdabnhdjfcaaDoor
open Go.RowKit

set_option maxRecDepth 100000 in
set_option maxHeartbeats 4000000 in
theorem rightT0 (h m s n : Int)  (t0 : ¬ 0 ≤ h) (w : World) :
    Calls Tryd.prog 10 #[.agg #[.int .i64 (h), .int .i64 (m), .int .i64 (s), .int .i64 (n)]] w (RetV w (.bool false)) := by
  have g0 : decide (0 ≤ h) = false := decide_eq_false t0
  have KB := (BK.nil w).more4 (.int .i64 (h)) (.int .i64 (m)) (.int .i64 (s)) (.int .i64 (n)) 23
  go_enter Tryd.func10, Tryd.ntmps10
  go_upto_region 1 with (fail)
  generalize w.alloc (.cells #[.int .i64 (h), .int .i64 (m), .int .i64 (s), .int .i64 (n)] 23) = w0 at *
  obtain ⟨_, a0, a1, a2, a3, _⟩ := KB.head.four
  have HB := KB.hb
  go_wp2
  go_ret
  exact ⟨rfl, HB⟩
set_option maxRecDepth 100000 in
set_option maxHeartbeats 4000000 in
theorem rightT1 (h m s n : Int) (t0 : 0 ≤ h) (t1 : ¬ h < 24) (w : World) :
    Calls Tryd.prog 10 #[.agg #[.int .i64 (h), .int .i64 (m), .int .i64 (s), .int .i64 (n)]] w (RetV w (.bool false)) := by
  have g0 : decide (0 ≤ h) = true := decide_eq_true t0
  have g1 : decide (h < 24) = false := decide_eq_false t1
  have KB := (BK.nil w).more4 (.int .i64 (h)) (.int .i64 (m)) (.int .i64 (s)) (.int .i64 (n)) 23
  go_enter Tryd.func10, Tryd.ntmps10
  go_upto_region 1 with (fail)
  generalize w.alloc (.cells #[.int .i64 (h), .int .i64 (m), .int .i64 (s), .int .i64 (n)] 23) = w0 at *
  obtain ⟨_, a0, a1, a2, a3, _⟩ := KB.head.four
  have HB := KB.hb
  go_wp2
  go_ret
  exact ⟨rfl, HB⟩
set_option maxRecDepth 100000 in
set_option maxHeartbeats 4000000 in
theorem rightT2 (h m s n : Int) (t0 : 0 ≤ h) (t1 : h < 24) (t2 : ¬ 0 ≤ m) (w : World) :
    Calls Tryd.prog 10 #[.agg #[.int .i64 (h), .int .i64 (m), .int .i64 (s), .int .i64 (n)]] w (RetV w (.bool false)) := by
  have g0 : decide (0 ≤ h) = true := decide_eq_true t0
  have g1 : decide (h < 24) = true := decide_eq_true t1
  have g2 : decide (0 ≤ m) = false := decide_eq_false t2
  have KB := (BK.nil w).more4 (.int .i64 (h)) (.int .i64 (m)) (.int .i64 (s)) (.int .i64 (n)) 23
  go_enter Tryd.func10, Tryd.ntmps10
  go_upto_region 1 with (fail)
  generalize w.alloc (.cells #[.int .i64 (h), .int .i64 (m), .int .i64 (s), .int .i64 (n)] 23) = w0 at *
  obtain ⟨_, a0, a1, a2, a3, _⟩ := KB.head.four
  have HB := KB.hb
  go_wp2
  go_ret
  exact ⟨rfl, HB⟩
set_option maxRecDepth 100000 in
set_option maxHeartbeats 4000000 in
theorem rightT3 (h m s n : Int) (t0 : 0 ≤ h) (t1 : h < 24) (t2 : 0 ≤ m) (t3 : ¬ m < 60) (w : World) :
    Calls Tryd.prog 10 #[.agg #[.int .i64 (h), .int .i64 (m), .int .i64 (s), .int .i64 (n)]] w (RetV w (.bool false)) := by
  have g0 : decide (0 ≤ h) = true := decide_eq_true t0
  have g1 : decide (h < 24) = true := decide_eq_true t1
  have g2 : decide (0 ≤ m) = true := decide_eq_true t2
  have g3 : decide (m < 60) = false := decide_eq_false t3
  have KB := (BK.nil w).more4 (.int .i64 (h)) (.int .i64 (m)) (.int .i64 (s)) (.int .i64 (n)) 23
  go_enter Tryd.func10, Tryd.ntmps10
  go_upto_region 1 with (fail)
  generalize w.alloc (.cells #[.int .i64 (h), .int .i64 (m), .int .i64 (s), .int .i64 (n)] 23) = w0 at *
  obtain ⟨_, a0, a1, a2, a3, _⟩ := KB.head.four
  have HB := KB.hb
  go_wp2
  go_ret
  exact ⟨rfl, HB⟩
set_option maxRecDepth 100000 in
set_option maxHeartbeats 4000000 in
theorem rightT4 (h m s n : Int) (t0 : 0 ≤ h) (t1 : h < 24) (t2 : 0 ≤ m) (t3 : m < 60) (t4 : ¬ 0 ≤ s) (w : World) :
    Calls Tryd.prog 10 #[.agg #[.int .i64 (h), .int .i64 (m), .int .i64 (s), .int .i64 (n)]] w (RetV w (.bool false)) := by
  have g0 : decide (0 ≤ h) = true := decide_eq_true t0
  have g1 : decide (h < 24) = true := decide_eq_true t1
  have g2 : decide (0 ≤ m) = true := decide_eq_true t2
  have g3 : decide (m < 60) = true := decide_eq_true t3
  have g4 : decide (0 ≤ s) = false := decide_eq_false t4
  have KB := (BK.nil w).more4 (.int .i64 (h)) (.int .i64 (m)) (.int .i64 (s)) (.int .i64 (n)) 23
  go_enter Tryd.func10, Tryd.ntmps10
  go_upto_region 1 with (fail)
  generalize w.alloc (.cells #[.int .i64 (h), .int .i64 (m), .int .i64 (s), .int .i64 (n)] 23) = w0 at *
  obtain ⟨_, a0, a1, a2, a3, _⟩ := KB.head.four
  have HB := KB.hb
  go_wp2
  go_ret
  exact ⟨rfl, HB⟩
set_option maxRecDepth 100000 in
set_option maxHeartbeats 4000000 in
theorem rightT5 (h m s n : Int) (t0 : 0 ≤ h) (t1 : h < 24) (t2 : 0 ≤ m) (t3 : m < 60) (t4 : 0 ≤ s) (t5 : ¬ s < 60) (w : World) :
    Calls Tryd.prog 10 #[.agg #[.int .i64 (h), .int .i64 (m), .int .i64 (s), .int .i64 (n)]] w (RetV w (.bool false)) := by
  have g0 : decide (0 ≤ h) = true := decide_eq_true t0
  have g1 : decide (h < 24) = true := decide_eq_true t1
  have g2 : decide (0 ≤ m) = true := decide_eq_true t2
  have g3 : decide (m < 60) = true := decide_eq_true t3
  have g4 : decide (0 ≤ s) = true := decide_eq_true t4
  have g5 : decide (s < 60) = false := decide_eq_false t5
  have KB := (BK.nil w).more4 (.int .i64 (h)) (.int .i64 (m)) (.int .i64 (s)) (.int .i64 (n)) 23
  go_enter Tryd.func10, Tryd.ntmps10
  go_upto_region 1 with (fail)
  generalize w.alloc (.cells #[.int .i64 (h), .int .i64 (m), .int .i64 (s), .int .i64 (n)] 23) = w0 at *
  obtain ⟨_, a0, a1, a2, a3, _⟩ := KB.head.four
  have HB := KB.hb
  go_wp2
  go_ret
  exact ⟨rfl, HB⟩
set_option maxRecDepth 100000 in
set_option maxHeartbeats 4000000 in
theorem rightT6 (h m s n : Int) (t0 : 0 ≤ h) (t1 : h < 24) (t2 : 0 ≤ m) (t3 : m < 60) (t4 : 0 ≤ s) (t5 : s < 60) (t6 : ¬ 0 ≤ n) (w : World) :
    Calls Tryd.prog 10 #[.agg #[.int .i64 (h), .int .i64 (m), .int .i64 (s), .int .i64 (n)]] w (RetV w (.bool false)) := by
  have g0 : decide (0 ≤ h) = true := decide_eq_true t0
  have g1 : decide (h < 24) = true := decide_eq_true t1
  have g2 : decide (0 ≤ m) = true := decide_eq_true t2
  have g3 : decide (m < 60) = true := decide_eq_true t3
  have g4 : decide (0 ≤ s) = true := decide_eq_true t4
  have g5 : decide (s < 60) = true := decide_eq_true t5
  have g6 : decide (0 ≤ n) = false := decide_eq_false t6
  have KB := (BK.nil w).more4 (.int .i64 (h)) (.int .i64 (m)) (.int .i64 (s)) (.int .i64 (n)) 23
  go_enter Tryd.func10, Tryd.ntmps10
  go_upto_region 1 with (fail)
  generalize w.alloc (.cells #[.int .i64 (h), .int .i64 (m), .int .i64 (s), .int .i64 (n)] 23) = w0 at *
  obtain ⟨_, a0, a1, a2, a3, _⟩ := KB.head.four
  have HB := KB.hb
  go_wp2
  go_ret
  exact ⟨rfl, HB⟩
set_option maxRecDepth 100000 in
set_option maxHeartbeats 4000000 in
theorem rightT7 (h m s n : Int) (t0 : 0 ≤ h) (t1 : h < 24) (t2 : 0 ≤ m) (t3 : m < 60) (t4 : 0 ≤ s) (t5 : s < 60) (t6 : 0 ≤ n) (t7 : ¬ n < 1000000000) (w : World) :
    Calls Tryd.prog 10 #[.agg #[.int .i64 (h), .int .i64 (m), .int .i64 (s), .int .i64 (n)]] w (RetV w (.bool false)) := by
  have g0 : decide (0 ≤ h) = true := decide_eq_true t0
  have g1 : decide (h < 24) = true := decide_eq_true t1
  have g2 : decide (0 ≤ m) = true := decide_eq_true t2
  have g3 : decide (m < 60) = true := decide_eq_true t3
  have g4 : decide (0 ≤ s) = true := decide_eq_true t4
  have g5 : decide (s < 60) = true := decide_eq_true t5
  have g6 : decide (0 ≤ n) = true := decide_eq_true t6
  have g7 : decide (n < 1000000000) = false := decide_eq_false t7
  have KB := (BK.nil w).more4 (.int .i64 (h)) (.int .i64 (m)) (.int .i64 (s)) (.int .i64 (n)) 23
  go_enter Tryd.func10, Tryd.ntmps10
  go_upto_region 1 with (fail)
  generalize w.alloc (.cells #[.int .i64 (h), .int .i64 (m), .int .i64 (s), .int .i64 (n)] 23) = w0 at *
  obtain ⟨_, a0, a1, a2, a3, _⟩ := KB.head.four
  have HB := KB.hb
  go_wp2
  go_ret
  exact ⟨rfl, HB⟩
set_option maxRecDepth 100000 in
set_option maxHeartbeats 4000000 in
theorem rightT8 (h m s n : Int) (t0 : 0 ≤ h) (t1 : h < 24) (t2 : 0 ≤ m) (t3 : m < 60) (t4 : 0 ≤ s) (t5 : s < 60) (t6 : 0 ≤ n) (t7 : n < 1000000000) (w : World) :
    Calls Tryd.prog 10 #[.agg #[.int .i64 (h), .int .i64 (m), .int .i64 (s), .int .i64 (n)]] w (RetV w (.bool true)) := by
  have g0 : decide (0 ≤ h) = true := decide_eq_true t0
  have g1 : decide (h < 24) = true := decide_eq_true t1
  have g2 : decide (0 ≤ m) = true := decide_eq_true t2
  have g3 : decide (m < 60) = true := decide_eq_true t3
  have g4 : decide (0 ≤ s) = true := decide_eq_true t4
  have g5 : decide (s < 60) = true := decide_eq_true t5
  have g6 : decide (0 ≤ n) = true := decide_eq_true t6
  have g7 : decide (n < 1000000000) = true := decide_eq_true t7
  have KB := (BK.nil w).more4 (.int .i64 (h)) (.int .i64 (m)) (.int .i64 (s)) (.int .i64 (n)) 23
  go_enter Tryd.func10, Tryd.ntmps10
  go_upto_region 1 with (fail)
  generalize w.alloc (.cells #[.int .i64 (h), .int .i64 (m), .int .i64 (s), .int .i64 (n)] 23) = w0 at *
  obtain ⟨_, a0, a1, a2, a3, _⟩ := KB.head.four
  have HB := KB.hb
  go_wp2
  go_ret
  exact ⟨rfl, HB⟩
theorem rightT (h m s n : Int) (w : World) : Calls Tryd.prog 10 #[.agg #[.int .i64 (h), .int .i64 (m), .int .i64 (s), .int .i64 (n)]] w (RetV w (.bool (decide (okT h m s n)))) := by
  by_cases t0 : 0 ≤ h
  case neg => rw [decide_eq_false (by unfold okT; omega)]; exact rightT0 h m s n t0 w
  by_cases t1 : h < 24
  case neg => rw [decide_eq_false (by unfold okT; omega)]; exact rightT1 h m s n t0 t1 w
  by_cases t2 : 0 ≤ m
  case neg => rw [decide_eq_false (by unfold okT; omega)]; exact rightT2 h m s n t0 t1 t2 w
  by_cases t3 : m < 60
  case neg => rw [decide_eq_false (by unfold okT; omega)]; exact rightT3 h m s n t0 t1 t2 t3 w
  by_cases t4 : 0 ≤ s
  case neg => rw [decide_eq_false (by unfold okT; omega)]; exact rightT4 h m s n t0 t1 t2 t3 t4 w
  by_cases t5 : s < 60
  case neg => rw [decide_eq_false (by unfold okT; omega)]; exact rightT5 h m s n t0 t1 t2 t3 t4 t5 w
  by_cases t6 : 0 ≤ n
  case neg => rw [decide_eq_false (by unfold okT; omega)]; exact rightT6 h m s n t0 t1 t2 t3 t4 t5 t6 w
  by_cases t7 : n < 1000000000
  case neg => rw [decide_eq_false (by unfold okT; omega)]; exact rightT7 h m s n t0 t1 t2 t3 t4 t5 t6 t7 w
  rw [decide_eq_true (by unfold okT; omega)]; exact rightT8 h m s n t0 t1 t2 t3 t4 t5 t6 t7 w
set_option maxRecDepth 100000 in
set_option maxHeartbeats 4000000 in
theorem nanosT (h m s n : Int) (k : okT h m s n) (w : World) :
    Calls Tryd.prog 12 #[.agg #[.int .i64 (h), .int .i64 (m), .int .i64 (s), .int .i64 (n)]] w (RetV w (.int .i64 (numT h m s n))) := by
  obtain ⟨⟨k1, k2⟩, ⟨k3, k4⟩, ⟨k5, k6⟩, k7, k8⟩ := k
  unfold numT
  have KB := (BK.nil w).more4 (.int .i64 (h)) (.int .i64 (m)) (.int .i64 (s)) (.int .i64 (n)) 23
  go_enter Tryd.func12, Tryd.ntmps12
  go_upto_region 1 with (fail)
  generalize w.alloc (.cells #[.int .i64 (h), .int .i64 (m), .int .i64 (s), .int .i64 (n)] 23) = w0 at *
  obtain ⟨_, a0, a1, a2, a3, _⟩ := KB.head.four
  have HB := KB.hb
  go_wp2
  go_ret
  exact ⟨rfl, HB⟩
set_option maxRecDepth 100000 in
theorem nearestT (n k : Int) (w : World) : Calls Tryd.prog 29 #[.int .i64 n, .int .i64 k] w (fun e w' => e = .returned (.int .i64 (nearT n k)) ∧ w = w') := by
  unfold nearT
  by_cases h1 : n < 0
  · rw [if_pos h1]
    go_enter Tryd.func29, Tryd.ntmps29
    go_wp2
    go_ret
    exact ⟨rfl, rfl⟩
  · rw [if_neg h1]
    by_cases h2 : k < n
    · rw [if_pos h2]
      go_enter Tryd.func29, Tryd.ntmps29
      go_wp2
      go_ret
      exact ⟨rfl, rfl⟩
    · rw [if_neg h2]
      go_enter Tryd.func29, Tryd.ntmps29
      go_wp2
      go_ret
      exact ⟨rfl, rfl⟩
set_option maxRecDepth 100000 in
set_option maxHeartbeats 4000000 in
theorem ofT (h m s k : Int) (ok : okT h m s k) (n : Int) (hn : numT h m s k = n) (w : World) :
    Calls Tryd.prog 13 #[.int .i64 n] w (fun e w' => e = .returned (.agg #[.int .i64 (h), .int .i64 (m), .int .i64 (s), .int .i64 (k)]) ∧ Below w.heap.size w w') := by
  obtain ⟨⟨h1, h2⟩, ⟨m1, m2⟩, ⟨s1, s2⟩, k1, k2⟩ := ok
  unfold numT at hn
  have KB := ((BK.nil w).more4 (.int .i64 (0)) (.int .i64 (0)) (.int .i64 (0)) (.int .i64 (0)) 23).more4 (.int .i64 (0)) (.int .i64 (0)) (.int .i64 (0)) (.int .i64 (0)) 23
  rw [World.size_alloc] at KB
  go_enter Tryd.func13, Tryd.ntmps13
  go_upto_region 1 with (fail)
  go_wp2_with fail
  generalize (w.alloc (.cells #[.int .i64 (0), .int .i64 (0), .int .i64 (0), .int .i64 (0)] 23)).alloc (.cells #[.int .i64 (0), .int .i64 (0), .int .i64 (0), .int .i64 (0)] 23) = w0 at *
  go_loopw [0] (fun v0 wr => ∃ i : Int, 0 ≤ i ∧ i ≤ h ∧ v0 = .int .i64 (n - 3600000000000 * i) ∧ BK w [(w.heap.size + 1, [.int .i64 (i), .int .i64 (0), .int .i64 (0), .int .i64 (0)]), (w.heap.size, [.int .i64 (0), .int .i64 (0), .int .i64 (0), .int .i64 (0)])] wr) (fun v0 _ => (intOf v0).toNat)
  case atStart => exact ⟨0, by omega, by omega, by go_num, KB⟩
  case round =>
    clear KB
    obtain ⟨i, i1, i2, rfl, KB⟩ := hrel
    by_cases hi : i < h
    · have ge : 3600000000000 ≤ n - 3600000000000 * i := by omega
      obtain ⟨_, b0, b1, b2, b3, bf0, bf1, bf2, bf3⟩ := (KB.head).four
      have KN := KB.one 0 (.int .i64 (i + 1)) (KB.head.at0 _) (by omega) (by intro x hx; simp only [List.mem_cons, List.not_mem_nil, or_false] at hx; rcases hx with rfl; show _ ≠ _; omega)
      go_wp2_with fail
      go_roundw
      case rel => exact ⟨i + 1, by omega, by omega, by go_num, KN⟩
      case measure => simp [intOf]; omega
    · have e : i = h := by omega
      subst e
      have lt : ¬ 3600000000000 ≤ n - 3600000000000 * i := by omega
      have e1 : n - 3600000000000 * i = m * 60000000000 + s * 1000000000 + k := by omega
      generalize n - 3600000000000 * i = n1 at *
      clear hn
      go_wp2_with fail
      go_loopw [0] (fun v0 wr => ∃ j : Int, 0 ≤ j ∧ j ≤ m ∧ v0 = .int .i64 (n1 - 60000000000 * j) ∧ BK w [(w.heap.size + 1, [.int .i64 (i), .int .i64 (j), .int .i64 (0), .int .i64 (0)]), (w.heap.size, [.int .i64 (0), .int .i64 (0), .int .i64 (0), .int .i64 (0)])] wr) (fun v0 _ => (intOf v0).toNat)
      case atStart => exact ⟨0, by omega, by omega, by go_num, KB⟩
      case round =>
        clear KB
        obtain ⟨j, ja, jb, rfl, KB⟩ := hrel
        by_cases hj : j < m
        · have ge : 60000000000 ≤ n1 - 60000000000 * j := by omega
          obtain ⟨_, b0, b1, b2, b3, bf0, bf1, bf2, bf3⟩ := (KB.head).four
          have KN := KB.one 1 (.int .i64 (j + 1)) (KB.head.at1 _) (by omega) (by intro x hx; simp only [List.mem_cons, List.not_mem_nil, or_false] at hx; rcases hx with rfl; show _ ≠ _; omega)
          go_wp2_with fail
          go_roundw
          case rel => exact ⟨j + 1, by omega, by omega, by go_num, KN⟩
          case measure => simp [intOf]; omega
        · have e : j = m := by omega
          subst e
          have lt : ¬ 60000000000 ≤ n1 - 60000000000 * j := by omega
          have e2 : n1 - 60000000000 * j = s * 1000000000 + k := by omega
          generalize n1 - 60000000000 * j = n2 at *
          clear e1
          go_wp2_with fail
          go_loopw [0] (fun v0 wr => ∃ l : Int, 0 ≤ l ∧ l ≤ s ∧ v0 = .int .i64 (n2 - 1000000000 * l) ∧ BK w [(w.heap.size + 1, [.int .i64 (i), .int .i64 (j), .int .i64 (l), .int .i64 (0)]), (w.heap.size, [.int .i64 (0), .int .i64 (0), .int .i64 (0), .int .i64 (0)])] wr) (fun v0 _ => (intOf v0).toNat)
          case atStart => exact ⟨0, by omega, by omega, by go_num, KB⟩
          case round =>
            clear KB
            obtain ⟨l, la, lb, rfl, KB⟩ := hrel
            by_cases hl : l < s
            · have ge : 1000000000 ≤ n2 - 1000000000 * l := by omega
              obtain ⟨_, b0, b1, b2, b3, bf0, bf1, bf2, bf3⟩ := (KB.head).four
              have KN := KB.one 2 (.int .i64 (l + 1)) (KB.head.at2 _) (by omega) (by intro x hx; simp only [List.mem_cons, List.not_mem_nil, or_false] at hx; rcases hx with rfl; show _ ≠ _; omega)
              go_wp2_with fail
              go_roundw
              case rel => exact ⟨l + 1, by omega, by omega, by go_num, KN⟩
              case measure => simp [intOf]; omega
            · have e : l = s := by omega
              subst e
              have lt : ¬ 1000000000 ≤ n2 - 1000000000 * l := by omega
              have e3 : n2 - 1000000000 * l = k := by omega
              have E3 := Lib.hid e3
              clear e3 e2
              have n30 : 0 ≤ n2 - 1000000000 * l := by have := E3.out; omega
              have n31 : n2 - 1000000000 * l < 1000000000 := by have := E3.out; omega
              generalize n2 - 1000000000 * l = n3 at *
              obtain ⟨_, b0, b1, b2, b3, bf0, bf1, bf2, bf3⟩ := (KB.head).four
              obtain ⟨_, r0, r1, r2, r3, rf0, rf1, rf2, rf3⟩ := (KB.tail.head).four
              have i5 : w.heap.size + 1 ≠ w.heap.size := by omega
              have i6 := Ne.symm i5
              replace KB := KB.one 3 (.int .i64 n3) (KB.head.at3 _) (by omega) (by intro x hx; simp only [List.mem_cons, List.not_mem_nil, or_false] at hx; rcases hx with rfl; show _ ≠ _; omega)
              go_wp2
              obtain ⟨_, P0, P1, P2, P3, _⟩ := ((KB.tail.head).self4 (.int .i64 (i)) (.int .i64 (j)) (.int .i64 (l)) (.int .i64 (n3))).four
              have HB := ((((KB.hb.setCell (p := ⟨w.heap.size, 0, none⟩) (by show _ ≤ w.heap.size; omega) (.int .i64 (i))).setCell (p := ⟨w.heap.size, 1, none⟩) (by show _ ≤ w.heap.size; omega) (.int .i64 (j))).setCell (p := ⟨w.heap.size, 2, none⟩) (by show _ ≤ w.heap.size; omega) (.int .i64 (l))).setCell (p := ⟨w.heap.size, 3, none⟩) (by show _ ≤ w.heap.size; omega) (.int .i64 (n3)))
              exact bodyPost_ret (v := .agg #[.int .i64 (i), .int .i64 (j), .int .i64 (l), .int .i64 (n3)]) (by simp [results, Tryd.results13, go_sem, P0, P1, P2, P3]) rfl ⟨by rw [E3.out], HB⟩
/-- What a call that answers a time and an error's number leaves. -/
def RetTE (w : World) (h m s n x : Int) (e : Ending) (w' : World) : Prop := e = .returned (.tuple #[.agg #[.int .i64 h, .int .i64 m, .int .i64 s, .int .i64 n], .int .i64 x]) ∧ Below w.heap.size w w'
set_option maxRecDepth 100000 in
set_option maxHeartbeats 4000000 in
theorem regT_bad (h m s n o : Int) (h1 : ¬ o = 1) (h2 : ¬ o = 2) (w : World) :
    Calls Tryd.prog 17 #[.int .i64 h, .int .i64 m, .int .i64 s, .int .i64 n, .int .i64 o] w (RetTE w 0 0 0 0 1) := by
  have b1 : (o != 1) = true := by simp [h1]
  have b2 : (o != 2) = true := by simp [h2]
  have KB := (BK.nil w).more4 (.int .i64 (0)) (.int .i64 (0)) (.int .i64 (0)) (.int .i64 (0)) 23
  go_enter Tryd.func17, Tryd.ntmps17
  go_upto_region 1 with (fail)
  generalize w.alloc (.cells #[.int .i64 (0), .int .i64 (0), .int .i64 (0), .int .i64 (0)] 23) = w0 at *
  obtain ⟨_, r0, r1, r2, r3, rf0, rf1, rf2, rf3⟩ := (KB.head).four
  go_wp2
  obtain ⟨_, P0, P1, P2, P3, _⟩ := ((KB.head).self4 (.int .i64 (0)) (.int .i64 (0)) (.int .i64 (0)) (.int .i64 (0))).four
  have HB := ((((KB.hb.setCell (p := ⟨w.heap.size, 0, none⟩) (by show _ ≤ w.heap.size; omega) (.int .i64 (0))).setCell (p := ⟨w.heap.size, 1, none⟩) (by show _ ≤ w.heap.size; omega) (.int .i64 (0))).setCell (p := ⟨w.heap.size, 2, none⟩) (by show _ ≤ w.heap.size; omega) (.int .i64 (0))).setCell (p := ⟨w.heap.size, 3, none⟩) (by show _ ≤ w.heap.size; omega) (.int .i64 (0)))
  exact bodyPost_ret (v := .tuple #[.agg #[.int .i64 (0), .int .i64 (0), .int .i64 (0), .int .i64 (0)], .int .i64 1]) (by simp [results, Tryd.results17, go_sem, P0, P1, P2, P3]) rfl ⟨rfl, HB⟩
set_option maxRecDepth 100000 in
set_option maxHeartbeats 4000000 in
theorem regT_yes1 (h m s n : Int) (RI : Hid (∀ W, Calls Tryd.prog 10 #[.agg #[.int .i64 (h), .int .i64 (m), .int .i64 (s), .int .i64 (n)]] W (RetV W (.bool true)))) (w : World) :
    Calls Tryd.prog 17 #[.int .i64 h, .int .i64 m, .int .i64 s, .int .i64 n, .int .i64 1] w (RetTE w h m s n 0) := by
  have KB := (BK.nil w).more4 (.int .i64 (0)) (.int .i64 (0)) (.int .i64 (0)) (.int .i64 (0)) 23
  go_enter Tryd.func17, Tryd.ntmps17
  go_upto_region 1 with (fail)
  generalize w.alloc (.cells #[.int .i64 (0), .int .i64 (0), .int .i64 (0), .int .i64 (0)] 23) = w0 at *
  go_upto_region 4 with (fail)
  have hg := KB.head.lt
  replace KB := KB.more4 (.int .i64 (h)) (.int .i64 (m)) (.int .i64 (s)) (.int .i64 (n)) 23
  generalize w0.alloc (.cells #[.int .i64 (h), .int .i64 (m), .int .i64 (s), .int .i64 (n)] 23) = w1 at *
  generalize w0.heap.size = g at *
  obtain ⟨_, a0, a1, a2, a3, _⟩ := KB.head.four
  go_wp2_with fail
  clear a0 a1 a2 a3
  refine (RI.out _).mono ?_
  rintro e w2 ⟨rfl, k⟩
  replace KB := KB.below k
  clear k
  obtain ⟨_, a0, a1, a2, a3, _⟩ := KB.head.four
  obtain ⟨_, r0, r1, r2, r3, rf0, rf1, rf2, rf3⟩ := (KB.tail.head).four
  go_wp2
  obtain ⟨_, P0, P1, P2, P3, _⟩ := ((KB.tail.head).self4 (.int .i64 (h)) (.int .i64 (m)) (.int .i64 (s)) (.int .i64 (n))).four
  have HB := ((((KB.hb.setCell (p := ⟨w.heap.size, 0, none⟩) (by show _ ≤ w.heap.size; omega) (.int .i64 (h))).setCell (p := ⟨w.heap.size, 1, none⟩) (by show _ ≤ w.heap.size; omega) (.int .i64 (m))).setCell (p := ⟨w.heap.size, 2, none⟩) (by show _ ≤ w.heap.size; omega) (.int .i64 (s))).setCell (p := ⟨w.heap.size, 3, none⟩) (by show _ ≤ w.heap.size; omega) (.int .i64 (n)))
  exact bodyPost_ret (v := .tuple #[.agg #[.int .i64 (h), .int .i64 (m), .int .i64 (s), .int .i64 (n)], .int .i64 0]) (by simp [results, Tryd.results17, go_sem, P0, P1, P2, P3]) rfl ⟨rfl, HB⟩
set_option maxRecDepth 100000 in
set_option maxHeartbeats 4000000 in
theorem regT_yes2 (h m s n : Int) (RI : Hid (∀ W, Calls Tryd.prog 10 #[.agg #[.int .i64 (h), .int .i64 (m), .int .i64 (s), .int .i64 (n)]] W (RetV W (.bool true)))) (w : World) :
    Calls Tryd.prog 17 #[.int .i64 h, .int .i64 m, .int .i64 s, .int .i64 n, .int .i64 2] w (RetTE w h m s n 0) := by
  have KB := (BK.nil w).more4 (.int .i64 (0)) (.int .i64 (0)) (.int .i64 (0)) (.int .i64 (0)) 23
  go_enter Tryd.func17, Tryd.ntmps17
  go_upto_region 1 with (fail)
  generalize w.alloc (.cells #[.int .i64 (0), .int .i64 (0), .int .i64 (0), .int .i64 (0)] 23) = w0 at *
  go_upto_region 4 with (fail)
  have hg := KB.head.lt
  replace KB := KB.more4 (.int .i64 (h)) (.int .i64 (m)) (.int .i64 (s)) (.int .i64 (n)) 23
  generalize w0.alloc (.cells #[.int .i64 (h), .int .i64 (m), .int .i64 (s), .int .i64 (n)] 23) = w1 at *
  generalize w0.heap.size = g at *
  obtain ⟨_, a0, a1, a2, a3, _⟩ := KB.head.four
  go_wp2_with fail
  clear a0 a1 a2 a3
  refine (RI.out _).mono ?_
  rintro e w2 ⟨rfl, k⟩
  replace KB := KB.below k
  clear k
  obtain ⟨_, a0, a1, a2, a3, _⟩ := KB.head.four
  obtain ⟨_, r0, r1, r2, r3, rf0, rf1, rf2, rf3⟩ := (KB.tail.head).four
  go_wp2
  obtain ⟨_, P0, P1, P2, P3, _⟩ := ((KB.tail.head).self4 (.int .i64 (h)) (.int .i64 (m)) (.int .i64 (s)) (.int .i64 (n))).four
  have HB := ((((KB.hb.setCell (p := ⟨w.heap.size, 0, none⟩) (by show _ ≤ w.heap.size; omega) (.int .i64 (h))).setCell (p := ⟨w.heap.size, 1, none⟩) (by show _ ≤ w.heap.size; omega) (.int .i64 (m))).setCell (p := ⟨w.heap.size, 2, none⟩) (by show _ ≤ w.heap.size; omega) (.int .i64 (s))).setCell (p := ⟨w.heap.size, 3, none⟩) (by show _ ≤ w.heap.size; omega) (.int .i64 (n)))
  exact bodyPost_ret (v := .tuple #[.agg #[.int .i64 (h), .int .i64 (m), .int .i64 (s), .int .i64 (n)], .int .i64 0]) (by simp [results, Tryd.results17, go_sem, P0, P1, P2, P3]) rfl ⟨rfl, HB⟩
set_option maxRecDepth 100000 in
set_option maxHeartbeats 4000000 in
theorem regT_field (h m s n : Int) (RI : Hid (∀ W, Calls Tryd.prog 10 #[.agg #[.int .i64 (h), .int .i64 (m), .int .i64 (s), .int .i64 (n)]] W (RetV W (.bool false)))) (w : World) :
    Calls Tryd.prog 17 #[.int .i64 h, .int .i64 m, .int .i64 s, .int .i64 n, .int .i64 2] w (RetTE w 0 0 0 0 5) := by
  have KB := (BK.nil w).more4 (.int .i64 (0)) (.int .i64 (0)) (.int .i64 (0)) (.int .i64 (0)) 23
  go_enter Tryd.func17, Tryd.ntmps17
  go_upto_region 1 with (fail)
  generalize w.alloc (.cells #[.int .i64 (0), .int .i64 (0), .int .i64 (0), .int .i64 (0)] 23) = w0 at *
  go_upto_region 4 with (fail)
  have hg := KB.head.lt
  replace KB := KB.more4 (.int .i64 (h)) (.int .i64 (m)) (.int .i64 (s)) (.int .i64 (n)) 23
  generalize w0.alloc (.cells #[.int .i64 (h), .int .i64 (m), .int .i64 (s), .int .i64 (n)] 23) = w1 at *
  generalize w0.heap.size = g at *
  obtain ⟨_, a0, a1, a2, a3, _⟩ := KB.head.four
  go_wp2_with fail
  clear a0 a1 a2 a3
  refine (RI.out _).mono ?_
  rintro e w2 ⟨rfl, k⟩
  replace KB := KB.below k
  clear k
  obtain ⟨_, a0, a1, a2, a3, _⟩ := KB.head.four
  obtain ⟨_, r0, r1, r2, r3, rf0, rf1, rf2, rf3⟩ := (KB.tail.head).four
  go_wp2
  obtain ⟨_, P0, P1, P2, P3, _⟩ := ((KB.tail.head).self4 (.int .i64 (0)) (.int .i64 (0)) (.int .i64 (0)) (.int .i64 (0))).four
  have HB := ((((KB.hb.setCell (p := ⟨w.heap.size, 0, none⟩) (by show _ ≤ w.heap.size; omega) (.int .i64 (0))).setCell (p := ⟨w.heap.size, 1, none⟩) (by show _ ≤ w.heap.size; omega) (.int .i64 (0))).setCell (p := ⟨w.heap.size, 2, none⟩) (by show _ ≤ w.heap.size; omega) (.int .i64 (0))).setCell (p := ⟨w.heap.size, 3, none⟩) (by show _ ≤ w.heap.size; omega) (.int .i64 (0)))
  exact bodyPost_ret (v := .tuple #[.agg #[.int .i64 (0), .int .i64 (0), .int .i64 (0), .int .i64 (0)], .int .i64 5]) (by simp [results, Tryd.results17, go_sem, P0, P1, P2, P3]) rfl ⟨rfl, HB⟩
set_option maxRecDepth 100000 in
set_option maxHeartbeats 4000000 in
theorem regT_con (h m s n : Int) (RI : Hid (∀ W, Calls Tryd.prog 10 #[.agg #[.int .i64 (h), .int .i64 (m), .int .i64 (s), .int .i64 (n)]] W (RetV W (.bool false)))) (w : World) :
    Calls Tryd.prog 17 #[.int .i64 h, .int .i64 m, .int .i64 s, .int .i64 n, .int .i64 1] w (RetTE w (nearT h 23) (nearT m 59) (nearT s 59) (nearT n 999999999) 0) := by
  have NR := Lib.hid (fun n k W => nearestT n k W)
  have KB := (BK.nil w).more4 (.int .i64 (0)) (.int .i64 (0)) (.int .i64 (0)) (.int .i64 (0)) 23
  go_enter Tryd.func17, Tryd.ntmps17
  go_upto_region 1 with (fail)
  generalize w.alloc (.cells #[.int .i64 (0), .int .i64 (0), .int .i64 (0), .int .i64 (0)] 23) = w0 at *
  go_upto_region 4 with (fail)
  have hg := KB.head.lt
  replace KB := KB.more4 (.int .i64 (h)) (.int .i64 (m)) (.int .i64 (s)) (.int .i64 (n)) 23
  generalize w0.alloc (.cells #[.int .i64 (h), .int .i64 (m), .int .i64 (s), .int .i64 (n)] 23) = w1 at *
  generalize w0.heap.size = g at *
  obtain ⟨_, a0, a1, a2, a3, _⟩ := KB.head.four
  go_wp2_with fail
  clear a0 a1 a2 a3
  refine (RI.out _).mono ?_
  rintro e w2 ⟨rfl, k⟩
  replace KB := KB.below k
  clear k
  obtain ⟨_, a0, a1, a2, a3, _⟩ := KB.head.four
  obtain ⟨_, r0, r1, r2, r3, rf0, rf1, rf2, rf3⟩ := (KB.tail.head).four
  go_wp2_with (go_at_call 29; refine (NR.out _ _ _).mono ?_; rintro e w' ⟨rfl, rfl⟩)
  obtain ⟨_, P0, P1, P2, P3, _⟩ := ((KB.tail.head).self4 (.int .i64 (nearT h 23)) (.int .i64 (nearT m 59)) (.int .i64 (nearT s 59)) (.int .i64 (nearT n 999999999))).four
  have HB := ((((KB.hb.setCell (p := ⟨w.heap.size, 0, none⟩) (by show _ ≤ w.heap.size; omega) (.int .i64 (nearT h 23))).setCell (p := ⟨w.heap.size, 1, none⟩) (by show _ ≤ w.heap.size; omega) (.int .i64 (nearT m 59))).setCell (p := ⟨w.heap.size, 2, none⟩) (by show _ ≤ w.heap.size; omega) (.int .i64 (nearT s 59))).setCell (p := ⟨w.heap.size, 3, none⟩) (by show _ ≤ w.heap.size; omega) (.int .i64 (nearT n 999999999)))
  exact bodyPost_ret (v := .tuple #[.agg #[.int .i64 (nearT h 23), .int .i64 (nearT m 59), .int .i64 (nearT s 59), .int .i64 (nearT n 999999999)], .int .i64 0]) (by simp [results, Tryd.results17, go_sem, P0, P1, P2, P3]) rfl ⟨rfl, HB⟩
set_option maxRecDepth 100000 in
theorem signT_true (w : World) : Calls Tryd.prog 42 #[.bool true] w (fun e w' => e = .returned (.int .i64 (-1)) ∧ w = w') := by
  go_enter Tryd.func42, Tryd.ntmps42
  go_wp2
  go_ret
  exact ⟨rfl, rfl⟩
set_option maxRecDepth 100000 in
theorem signT_false (w : World) : Calls Tryd.prog 42 #[.bool false] w (fun e w' => e = .returned (.int .i64 1) ∧ w = w') := by
  go_enter Tryd.func42, Tryd.ntmps42
  go_wp2
  go_ret
  exact ⟨rfl, rfl⟩
set_option maxRecDepth 100000 in
set_option maxHeartbeats 4000000 in
theorem cmpT_eq (h m s n : Int) (w : World) :
    Calls Tryd.prog 23 #[.agg #[.int .i64 (h), .int .i64 (m), .int .i64 (s), .int .i64 (n)], .agg #[.int .i64 (h), .int .i64 (m), .int .i64 (s), .int .i64 (n)]] w (RetV w (.int .i64 0)) := by
  have SG := Lib.hid signT_true
  have KB := ((BK.nil w).more4 (.int .i64 (h)) (.int .i64 (m)) (.int .i64 (s)) (.int .i64 (n)) 23).more4 (.int .i64 (h)) (.int .i64 (m)) (.int .i64 (s)) (.int .i64 (n)) 23
  rw [World.size_alloc] at KB
  go_enter Tryd.func23, Tryd.ntmps23
  go_upto_region 1 with (fail)
  generalize (w.alloc (.cells #[.int .i64 (h), .int .i64 (m), .int .i64 (s), .int .i64 (n)] 23)).alloc (.cells #[.int .i64 (h), .int .i64 (m), .int .i64 (s), .int .i64 (n)] 23) = w0 at *
  obtain ⟨_, a0, a1, a2, a3, _⟩ := KB.tail.head.four
  obtain ⟨_, b0, b1, b2, b3, _⟩ := KB.head.four
  have HB := KB.hb
  go_wp2_with (go_at_call 42; refine (SG.out _).mono ?_; rintro e w' ⟨rfl, rfl⟩)
  go_ret
  exact ⟨rfl, HB⟩
set_option maxRecDepth 100000 in
set_option maxHeartbeats 4000000 in
theorem cmpT_l0 (h m s n h' m' s' n' : Int) (lt : h < h') (w : World) :
    Calls Tryd.prog 23 #[.agg #[.int .i64 (h), .int .i64 (m), .int .i64 (s), .int .i64 (n)], .agg #[.int .i64 (h'), .int .i64 (m'), .int .i64 (s'), .int .i64 (n')]] w (RetV w (.int .i64 (-1))) := by
  have SG := Lib.hid signT_true
  have c1 : (h == h') = false := by rw [beq_eq_false_iff_ne]; omega
  have c2 : (h != h') = true := by rw [bne_iff_ne]; omega
  have c3 : ¬ h = h' := by omega
  have c4 : decide (h < h') = true := decide_eq_true lt
  have KB := ((BK.nil w).more4 (.int .i64 (h)) (.int .i64 (m)) (.int .i64 (s)) (.int .i64 (n)) 23).more4 (.int .i64 (h')) (.int .i64 (m')) (.int .i64 (s')) (.int .i64 (n')) 23
  rw [World.size_alloc] at KB
  go_enter Tryd.func23, Tryd.ntmps23
  go_upto_region 1 with (fail)
  generalize (w.alloc (.cells #[.int .i64 (h), .int .i64 (m), .int .i64 (s), .int .i64 (n)] 23)).alloc (.cells #[.int .i64 (h'), .int .i64 (m'), .int .i64 (s'), .int .i64 (n')] 23) = w0 at *
  obtain ⟨_, a0, a1, a2, a3, _⟩ := KB.tail.head.four
  obtain ⟨_, b0, b1, b2, b3, _⟩ := KB.head.four
  have HB := KB.hb
  go_wp2_with (go_at_call 42; refine (SG.out _).mono ?_; rintro e w' ⟨rfl, rfl⟩)
  go_ret
  exact ⟨rfl, HB⟩
set_option maxRecDepth 100000 in
set_option maxHeartbeats 4000000 in
theorem cmpT_g0 (h m s n h' m' s' n' : Int) (lt : h' < h) (w : World) :
    Calls Tryd.prog 23 #[.agg #[.int .i64 (h), .int .i64 (m), .int .i64 (s), .int .i64 (n)], .agg #[.int .i64 (h'), .int .i64 (m'), .int .i64 (s'), .int .i64 (n')]] w (RetV w (.int .i64 1)) := by
  have SG := Lib.hid signT_false
  have c1 : (h == h') = false := by rw [beq_eq_false_iff_ne]; omega
  have c2 : (h != h') = true := by rw [bne_iff_ne]; omega
  have c3 : ¬ h = h' := by omega
  have c4 : decide (h < h') = false := decide_eq_false (by omega)
  have KB := ((BK.nil w).more4 (.int .i64 (h)) (.int .i64 (m)) (.int .i64 (s)) (.int .i64 (n)) 23).more4 (.int .i64 (h')) (.int .i64 (m')) (.int .i64 (s')) (.int .i64 (n')) 23
  rw [World.size_alloc] at KB
  go_enter Tryd.func23, Tryd.ntmps23
  go_upto_region 1 with (fail)
  generalize (w.alloc (.cells #[.int .i64 (h), .int .i64 (m), .int .i64 (s), .int .i64 (n)] 23)).alloc (.cells #[.int .i64 (h'), .int .i64 (m'), .int .i64 (s'), .int .i64 (n')] 23) = w0 at *
  obtain ⟨_, a0, a1, a2, a3, _⟩ := KB.tail.head.four
  obtain ⟨_, b0, b1, b2, b3, _⟩ := KB.head.four
  have HB := KB.hb
  go_wp2_with (go_at_call 42; refine (SG.out _).mono ?_; rintro e w' ⟨rfl, rfl⟩)
  go_ret
  exact ⟨rfl, HB⟩
set_option maxRecDepth 100000 in
set_option maxHeartbeats 4000000 in
theorem cmpT_l1 (h m s n m' s' n' : Int) (lt : m < m') (w : World) :
    Calls Tryd.prog 23 #[.agg #[.int .i64 (h), .int .i64 (m), .int .i64 (s), .int .i64 (n)], .agg #[.int .i64 (h), .int .i64 (m'), .int .i64 (s'), .int .i64 (n')]] w (RetV w (.int .i64 (-1))) := by
  have SG := Lib.hid signT_true
  have c1 : (m == m') = false := by rw [beq_eq_false_iff_ne]; omega
  have c2 : (m != m') = true := by rw [bne_iff_ne]; omega
  have c3 : ¬ m = m' := by omega
  have c4 : decide (m < m') = true := decide_eq_true lt
  have KB := ((BK.nil w).more4 (.int .i64 (h)) (.int .i64 (m)) (.int .i64 (s)) (.int .i64 (n)) 23).more4 (.int .i64 (h)) (.int .i64 (m')) (.int .i64 (s')) (.int .i64 (n')) 23
  rw [World.size_alloc] at KB
  go_enter Tryd.func23, Tryd.ntmps23
  go_upto_region 1 with (fail)
  generalize (w.alloc (.cells #[.int .i64 (h), .int .i64 (m), .int .i64 (s), .int .i64 (n)] 23)).alloc (.cells #[.int .i64 (h), .int .i64 (m'), .int .i64 (s'), .int .i64 (n')] 23) = w0 at *
  obtain ⟨_, a0, a1, a2, a3, _⟩ := KB.tail.head.four
  obtain ⟨_, b0, b1, b2, b3, _⟩ := KB.head.four
  have HB := KB.hb
  go_wp2_with (go_at_call 42; refine (SG.out _).mono ?_; rintro e w' ⟨rfl, rfl⟩)
  go_ret
  exact ⟨rfl, HB⟩
set_option maxRecDepth 100000 in
set_option maxHeartbeats 4000000 in
theorem cmpT_g1 (h m s n m' s' n' : Int) (lt : m' < m) (w : World) :
    Calls Tryd.prog 23 #[.agg #[.int .i64 (h), .int .i64 (m), .int .i64 (s), .int .i64 (n)], .agg #[.int .i64 (h), .int .i64 (m'), .int .i64 (s'), .int .i64 (n')]] w (RetV w (.int .i64 1)) := by
  have SG := Lib.hid signT_false
  have c1 : (m == m') = false := by rw [beq_eq_false_iff_ne]; omega
  have c2 : (m != m') = true := by rw [bne_iff_ne]; omega
  have c3 : ¬ m = m' := by omega
  have c4 : decide (m < m') = false := decide_eq_false (by omega)
  have KB := ((BK.nil w).more4 (.int .i64 (h)) (.int .i64 (m)) (.int .i64 (s)) (.int .i64 (n)) 23).more4 (.int .i64 (h)) (.int .i64 (m')) (.int .i64 (s')) (.int .i64 (n')) 23
  rw [World.size_alloc] at KB
  go_enter Tryd.func23, Tryd.ntmps23
  go_upto_region 1 with (fail)
  generalize (w.alloc (.cells #[.int .i64 (h), .int .i64 (m), .int .i64 (s), .int .i64 (n)] 23)).alloc (.cells #[.int .i64 (h), .int .i64 (m'), .int .i64 (s'), .int .i64 (n')] 23) = w0 at *
  obtain ⟨_, a0, a1, a2, a3, _⟩ := KB.tail.head.four
  obtain ⟨_, b0, b1, b2, b3, _⟩ := KB.head.four
  have HB := KB.hb
  go_wp2_with (go_at_call 42; refine (SG.out _).mono ?_; rintro e w' ⟨rfl, rfl⟩)
  go_ret
  exact ⟨rfl, HB⟩
set_option maxRecDepth 100000 in
set_option maxHeartbeats 4000000 in
theorem cmpT_l2 (h m s n s' n' : Int) (lt : s < s') (w : World) :
    Calls Tryd.prog 23 #[.agg #[.int .i64 (h), .int .i64 (m), .int .i64 (s), .int .i64 (n)], .agg #[.int .i64 (h), .int .i64 (m), .int .i64 (s'), .int .i64 (n')]] w (RetV w (.int .i64 (-1))) := by
  have SG := Lib.hid signT_true
  have c1 : (s == s') = false := by rw [beq_eq_false_iff_ne]; omega
  have c2 : (s != s') = true := by rw [bne_iff_ne]; omega
  have c3 : ¬ s = s' := by omega
  have c4 : decide (s < s') = true := decide_eq_true lt
  have KB := ((BK.nil w).more4 (.int .i64 (h)) (.int .i64 (m)) (.int .i64 (s)) (.int .i64 (n)) 23).more4 (.int .i64 (h)) (.int .i64 (m)) (.int .i64 (s')) (.int .i64 (n')) 23
  rw [World.size_alloc] at KB
  go_enter Tryd.func23, Tryd.ntmps23
  go_upto_region 1 with (fail)
  generalize (w.alloc (.cells #[.int .i64 (h), .int .i64 (m), .int .i64 (s), .int .i64 (n)] 23)).alloc (.cells #[.int .i64 (h), .int .i64 (m), .int .i64 (s'), .int .i64 (n')] 23) = w0 at *
  obtain ⟨_, a0, a1, a2, a3, _⟩ := KB.tail.head.four
  obtain ⟨_, b0, b1, b2, b3, _⟩ := KB.head.four
  have HB := KB.hb
  go_wp2_with (go_at_call 42; refine (SG.out _).mono ?_; rintro e w' ⟨rfl, rfl⟩)
  go_ret
  exact ⟨rfl, HB⟩
set_option maxRecDepth 100000 in
set_option maxHeartbeats 4000000 in
theorem cmpT_g2 (h m s n s' n' : Int) (lt : s' < s) (w : World) :
    Calls Tryd.prog 23 #[.agg #[.int .i64 (h), .int .i64 (m), .int .i64 (s), .int .i64 (n)], .agg #[.int .i64 (h), .int .i64 (m), .int .i64 (s'), .int .i64 (n')]] w (RetV w (.int .i64 1)) := by
  have SG := Lib.hid signT_false
  have c1 : (s == s') = false := by rw [beq_eq_false_iff_ne]; omega
  have c2 : (s != s') = true := by rw [bne_iff_ne]; omega
  have c3 : ¬ s = s' := by omega
  have c4 : decide (s < s') = false := decide_eq_false (by omega)
  have KB := ((BK.nil w).more4 (.int .i64 (h)) (.int .i64 (m)) (.int .i64 (s)) (.int .i64 (n)) 23).more4 (.int .i64 (h)) (.int .i64 (m)) (.int .i64 (s')) (.int .i64 (n')) 23
  rw [World.size_alloc] at KB
  go_enter Tryd.func23, Tryd.ntmps23
  go_upto_region 1 with (fail)
  generalize (w.alloc (.cells #[.int .i64 (h), .int .i64 (m), .int .i64 (s), .int .i64 (n)] 23)).alloc (.cells #[.int .i64 (h), .int .i64 (m), .int .i64 (s'), .int .i64 (n')] 23) = w0 at *
  obtain ⟨_, a0, a1, a2, a3, _⟩ := KB.tail.head.four
  obtain ⟨_, b0, b1, b2, b3, _⟩ := KB.head.four
  have HB := KB.hb
  go_wp2_with (go_at_call 42; refine (SG.out _).mono ?_; rintro e w' ⟨rfl, rfl⟩)
  go_ret
  exact ⟨rfl, HB⟩
set_option maxRecDepth 100000 in
set_option maxHeartbeats 4000000 in
theorem cmpT_l3 (h m s n n' : Int) (lt : n < n') (w : World) :
    Calls Tryd.prog 23 #[.agg #[.int .i64 (h), .int .i64 (m), .int .i64 (s), .int .i64 (n)], .agg #[.int .i64 (h), .int .i64 (m), .int .i64 (s), .int .i64 (n')]] w (RetV w (.int .i64 (-1))) := by
  have SG := Lib.hid signT_true
  have c1 : (n == n') = false := by rw [beq_eq_false_iff_ne]; omega
  have c2 : (n != n') = true := by rw [bne_iff_ne]; omega
  have c3 : ¬ n = n' := by omega
  have c4 : decide (n < n') = true := decide_eq_true lt
  have KB := ((BK.nil w).more4 (.int .i64 (h)) (.int .i64 (m)) (.int .i64 (s)) (.int .i64 (n)) 23).more4 (.int .i64 (h)) (.int .i64 (m)) (.int .i64 (s)) (.int .i64 (n')) 23
  rw [World.size_alloc] at KB
  go_enter Tryd.func23, Tryd.ntmps23
  go_upto_region 1 with (fail)
  generalize (w.alloc (.cells #[.int .i64 (h), .int .i64 (m), .int .i64 (s), .int .i64 (n)] 23)).alloc (.cells #[.int .i64 (h), .int .i64 (m), .int .i64 (s), .int .i64 (n')] 23) = w0 at *
  obtain ⟨_, a0, a1, a2, a3, _⟩ := KB.tail.head.four
  obtain ⟨_, b0, b1, b2, b3, _⟩ := KB.head.four
  have HB := KB.hb
  go_wp2_with (go_at_call 42; refine (SG.out _).mono ?_; rintro e w' ⟨rfl, rfl⟩)
  go_ret
  exact ⟨rfl, HB⟩
set_option maxRecDepth 100000 in
set_option maxHeartbeats 4000000 in
theorem cmpT_g3 (h m s n n' : Int) (lt : n' < n) (w : World) :
    Calls Tryd.prog 23 #[.agg #[.int .i64 (h), .int .i64 (m), .int .i64 (s), .int .i64 (n)], .agg #[.int .i64 (h), .int .i64 (m), .int .i64 (s), .int .i64 (n')]] w (RetV w (.int .i64 1)) := by
  have SG := Lib.hid signT_false
  have c1 : (n == n') = false := by rw [beq_eq_false_iff_ne]; omega
  have c2 : (n != n') = true := by rw [bne_iff_ne]; omega
  have c3 : ¬ n = n' := by omega
  have c4 : decide (n < n') = false := decide_eq_false (by omega)
  have KB := ((BK.nil w).more4 (.int .i64 (h)) (.int .i64 (m)) (.int .i64 (s)) (.int .i64 (n)) 23).more4 (.int .i64 (h)) (.int .i64 (m)) (.int .i64 (s)) (.int .i64 (n')) 23
  rw [World.size_alloc] at KB
  go_enter Tryd.func23, Tryd.ntmps23
  go_upto_region 1 with (fail)
  generalize (w.alloc (.cells #[.int .i64 (h), .int .i64 (m), .int .i64 (s), .int .i64 (n)] 23)).alloc (.cells #[.int .i64 (h), .int .i64 (m), .int .i64 (s), .int .i64 (n')] 23) = w0 at *
  obtain ⟨_, a0, a1, a2, a3, _⟩ := KB.tail.head.four
  obtain ⟨_, b0, b1, b2, b3, _⟩ := KB.head.four
  have HB := KB.hb
  go_wp2_with (go_at_call 42; refine (SG.out _).mono ?_; rintro e w' ⟨rfl, rfl⟩)
  go_ret
  exact ⟨rfl, HB⟩
theorem cmpTR (h m s n h' m' s' n' : Int) (w : World) : Calls Tryd.prog 23 #[.agg #[.int .i64 (h), .int .i64 (m), .int .i64 (s), .int .i64 (n)], .agg #[.int .i64 (h'), .int .i64 (m'), .int .i64 (s'), .int .i64 (n')]] w (RetV w (.int .i64 (cmpT h m s n h' m' s' n'))) := by
  unfold cmpT
  by_cases lt : h < h'
  case pos => rw [if_pos lt]; exact cmpT_l0 h m s n h' m' s' n' lt w
  rw [if_neg lt]
  by_cases gt : h' < h
  case pos => rw [if_pos gt]; exact cmpT_g0 h m s n h' m' s' n' gt w
  rw [if_neg gt]
  obtain rfl : h = h' := by omega
  clear lt gt
  by_cases lt : m < m'
  case pos => rw [if_pos lt]; exact cmpT_l1 h m s n m' s' n' lt w
  rw [if_neg lt]
  by_cases gt : m' < m
  case pos => rw [if_pos gt]; exact cmpT_g1 h m s n m' s' n' gt w
  rw [if_neg gt]
  obtain rfl : m = m' := by omega
  clear lt gt
  by_cases lt : s < s'
  case pos => rw [if_pos lt]; exact cmpT_l2 h m s n s' n' lt w
  rw [if_neg lt]
  by_cases gt : s' < s
  case pos => rw [if_pos gt]; exact cmpT_g2 h m s n s' n' gt w
  rw [if_neg gt]
  obtain rfl : s = s' := by omega
  clear lt gt
  by_cases lt : n < n'
  case pos => rw [if_pos lt]; exact cmpT_l3 h m s n n' lt w
  rw [if_neg lt]
  by_cases gt : n' < n
  case pos => rw [if_pos gt]; exact cmpT_g3 h m s n n' gt w
  rw [if_neg gt]
  obtain rfl : n = n' := by omega
  clear lt gt
  exact cmpT_eq h m s n w
end Go.Proofs.YteggdabnhdjfcaaDoor

/- The document's answer of layer 6: nanoseconds added to times, times rounded, out of what their calls answer. -/
namespace Go.Proofs.YteggdabnhdjfcaaDoor
open Go.RowKit

/-- What a call that answers a time, a number and an error's number leaves. -/
def RetTNE (w : World) (h m s n k x : Int) (e : Ending) (w' : World) : Prop := e = .returned (.tuple #[.agg #[.int .i64 h, .int .i64 m, .int .i64 s, .int .i64 n], .int .i64 k, .int .i64 x]) ∧ Below w.heap.size w w'
set_option maxRecDepth 100000 in
set_option maxHeartbeats 8000000 in
theorem dayT (OD : Hid (∀ W, Calls Tryd.prog 34 #[.int .i64 86400000000000] W (RetZ W 86400000000000))) (sd : Hid ((86400000000000 : Int).natAbs < 65536 ^ 9)) (w : World) :
    Calls Tryd.prog 36 #[] w (RetZ w 86400000000000) := by
  go_enter Tryd.func36, Tryd.ntmps36
  go_upto_region 1 with (fail)
  have KM := ((BM.nil w).more2 (.bool false) (.slice none 0 0) 64)
  try simp only [World.size_alloc] at KM
  generalize (w.alloc (.cells #[.bool false, .slice none 0 0] 64)) = w0 at *
  go_wp2_with fail
  refine (OD.out _).mono ?_
  rintro e w1 ⟨p1, A1, n1, c1, rfl, z1, k⟩
  have l1 := z1.small sd.out
  replace KM := (KM.below k).ncons z1
  clear k z1
  obtain ⟨_, ra, rb, rc, rd⟩ := (KM.head).two
  go_wp2
  have P2 := (KM.head.box).self2 p1 (.slice A1 n1 c1)
  have Z2 := (KM.num).set2 KM.head.box.c0 p1 (.slice A1 n1 c1)
  have HB := (KM.hb.setCell (p := ⟨w.heap.size, 0, none⟩) (Nat.le_refl _) (.bool p1)).setCell (p := ⟨w.heap.size, 1, none⟩) (Nat.le_refl _) (.slice A1 n1 c1)
  exact bodyPost_ret (v := .agg #[.bool p1, .slice A1 n1 c1]) (by simp [results, Tryd.results36, go_sem, P2.c0, P2.c1]) rfl ⟨p1, A1, n1, c1, rfl, Z2, HB⟩
set_option maxRecDepth 100000 in
set_option maxHeartbeats 8000000 in
theorem addT_arg (h m s n a : Int) (RI : Hid (∀ W, Calls Tryd.prog 10 #[.agg #[.int .i64 (h), .int .i64 (m), .int .i64 (s), .int .i64 (n)]] W (fun e w' => e = .returned (.bool false) ∧ Below W.heap.size W w'))) (w : World) :
    Calls Tryd.prog 19 #[.agg #[.int .i64 (h), .int .i64 (m), .int .i64 (s), .int .i64 (n)], .agg #[.int .i64 (hiW a), .int .u64 (loW a)]] w (RetTNE w 0 0 0 0 0 1) := by
  go_enter Tryd.func19, Tryd.ntmps19
  go_upto_region 1 with (fail)
  have KM := ((((BM.nil w).more4 (.int .i64 (h)) (.int .i64 (m)) (.int .i64 (s)) (.int .i64 (n)) 23).more2 (.int .i64 (hiW a)) (.int .u64 (loW a)) 42).more4 (.int .i64 0) (.int .i64 0) (.int .i64 0) (.int .i64 0) 23)
  try simp only [World.size_alloc] at KM
  generalize (((w.alloc (.cells #[.int .i64 (h), .int .i64 (m), .int .i64 (s), .int .i64 (n)] 23)).alloc (.cells #[.int .i64 (hiW a), .int .u64 (loW a)] 42)).alloc (.cells #[.int .i64 0, .int .i64 0, .int .i64 0, .int .i64 0] 23)) = w0 at *
  obtain ⟨_, aa, ab, ac, ad, _⟩ := (KM.tail.tail.head).four
  go_wp2_with fail
  clear aa ab ac ad
  refine (RI.out _).mono ?_
  rintro e w1 ⟨rfl, k⟩
  replace KM := KM.below k
  clear k
  obtain ⟨_, r0, r1, r2, r3, f0, f1, f2, f3⟩ := (KM.head).four
  go_wp2
  obtain ⟨_, P0, P1, P2, P3, _⟩ := ((KM.head).self4 (.int .i64 0) (.int .i64 0) (.int .i64 0) (.int .i64 0)).four
  have HB := ((((KM.hb.setCell (p := ⟨w.heap.size + 1 + 1, 0, none⟩) (by show _ ≤ w.heap.size + 1 + 1; omega) (.int .i64 0)).setCell (p := ⟨w.heap.size + 1 + 1, 1, none⟩) (by show _ ≤ w.heap.size + 1 + 1; omega) (.int .i64 0)).setCell (p := ⟨w.heap.size + 1 + 1, 2, none⟩) (by show _ ≤ w.heap.size + 1 + 1; omega) (.int .i64 0)).setCell (p := ⟨w.heap.size + 1 + 1, 3, none⟩) (by show _ ≤ w.heap.size + 1 + 1; omega) (.int .i64 0))
  exact bodyPost_ret (v := .tuple #[.agg #[.int .i64 0, .int .i64 0, .int .i64 0, .int .i64 0], .int .i64 0, .int .i64 1]) (by simp [results, Tryd.results19, go_sem, P0, P1, P2, P3]) rfl ⟨rfl, HB⟩
set_option maxRecDepth 100000 in
set_option maxHeartbeats 8000000 in
theorem addT_over (h m s n a nn G qq rr : Int) (RI : Hid (∀ W, Calls Tryd.prog 10 #[.agg #[.int .i64 (h), .int .i64 (m), .int .i64 (s), .int .i64 (n)]] W (fun e w' => e = .returned (.bool true) ∧ Below W.heap.size W w'))) (NA : Hid (∀ W, Calls Tryd.prog 12 #[.agg #[.int .i64 (h), .int .i64 (m), .int .i64 (s), .int .i64 (n)]] W (fun e w' => e = .returned (.int .i64 nn) ∧ Below W.heap.size W w'))) (ON : Hid (∀ W, Calls Tryd.prog 34 #[.int .i64 (nn)] W (RetZ W (nn)))) (sn : Hid ((nn).natAbs < 65536 ^ 9)) (OA : Hid (∀ W, Calls Tryd.prog 35 #[.agg #[.int .i64 (hiW a), .int .u64 (loW a)]] W (RetZ W (a)))) (sa : Hid ((a).natAbs < 65536 ^ 9)) (AD : Hid (∀ (p q : Bool) (A B : Option Addr) (n m c d : Nat) (W : World), Zs W p A n c (nn) → Zs W q B m d (a) → n ≤ 900000 → m ≤ 900000 → Calls Tryd.prog 33 #[.agg #[.bool p, .slice A n c], .agg #[.bool q, .slice B m d]] W (RetZ W (G)))) (sg : Hid ((G).natAbs < 65536 ^ 9)) (DY : Hid (∀ W, Calls Tryd.prog 36 #[] W (RetZ W 86400000000000))) (sd : Hid (((86400000000000 : Int)).natAbs < 65536 ^ 9)) (DV : Hid (∀ (p q : Bool) (A B : Option Addr) (n m c d : Nat) (W : World), Zs W p A n c (G) → Zs W q B m d (86400000000000) → n ≤ 3000 → m ≤ 3000 → Calls Tryd.prog 32 #[.agg #[.bool p, .slice A n c], .agg #[.bool q, .slice B m d]] W (RetQR W (qq) (rr)))) (sq : Hid ((qq).natAbs < 65536 ^ 9)) (sr : Hid ((rr).natAbs < 65536 ^ 9)) (FQ : Hid (∀ (p : Bool) (A : Option Addr) (n c : Nat) (W : World), Zs W p A n c (qq) → n ≤ 900000 → Calls Tryd.prog 37 #[.agg #[.bool p, .slice A n c]] W (fun e w' => e = .returned (.tuple #[.int .i64 (0), .bool false]) ∧ Below W.heap.size W w'))) (w : World) :
    Calls Tryd.prog 19 #[.agg #[.int .i64 (h), .int .i64 (m), .int .i64 (s), .int .i64 (n)], .agg #[.int .i64 (hiW a), .int .u64 (loW a)]] w (RetTNE w 0 0 0 0 0 2) := by
  go_enter Tryd.func19, Tryd.ntmps19
  go_upto_region 1 with (fail)
  have KM := ((((BM.nil w).more4 (.int .i64 (h)) (.int .i64 (m)) (.int .i64 (s)) (.int .i64 (n)) 23).more2 (.int .i64 (hiW a)) (.int .u64 (loW a)) 42).more4 (.int .i64 0) (.int .i64 0) (.int .i64 0) (.int .i64 0) 23)
  try simp only [World.size_alloc] at KM
  generalize (((w.alloc (.cells #[.int .i64 (h), .int .i64 (m), .int .i64 (s), .int .i64 (n)] 23)).alloc (.cells #[.int .i64 (hiW a), .int .u64 (loW a)] 42)).alloc (.cells #[.int .i64 0, .int .i64 0, .int .i64 0, .int .i64 0] 23)) = w0 at *
  obtain ⟨_, aa, ab, ac, ad, _⟩ := (KM.tail.tail.head).four
  go_wp2_with fail
  clear aa ab ac ad
  refine (RI.out _).mono ?_
  rintro e w1 ⟨rfl, k⟩
  replace KM := KM.below k
  clear k
  go_upto_region 3 with (fail)
  obtain ⟨lo, st, hlo⟩ := KM.preD (KM.tail.tail.head).lt
  have la0 : w.heap.size + 1 + 1 ≤ lo := hlo (w.heap.size + 1 + 1, [.int .i64 0, .int .i64 0, .int .i64 0, .int .i64 0]) (by simp)
  have la1 : w.heap.size + 1 ≤ lo := hlo (w.heap.size + 1, [.int .i64 (hiW a), .int .u64 (loW a)]) (by simp)
  have la2 : w.heap.size ≤ lo := hlo (w.heap.size, [.int .i64 (h), .int .i64 (m), .int .i64 (s), .int .i64 (n)]) (by simp)
  clear hlo
  go_cut [7, 8] (fun v7 v8 wx => DivCutD lo (BM w [(w.heap.size + 1 + 1, [.int .i64 0, .int .i64 0, .int .i64 0, .int .i64 0]), (w.heap.size + 1, [.int .i64 (hiW a), .int .u64 (loW a)]), (w.heap.size, [.int .i64 (h), .int .i64 (m), .int .i64 (s), .int .i64 (n)])] []) (qq) (rr) v7 v8 wx)
  case first =>
    obtain ⟨_, j0a, j0b, j0c, j0d, _⟩ := (KM.tail.tail.head).four
    obtain ⟨_, j1a, j1b, _⟩ := (KM.tail.head).two
    clear KM
    have ⟨gp0, gq0⟩ := behindG st.lt la2
    have ⟨gp1, gq1⟩ := behindG st.lt la1
    go_region_held3 (fun w' => w'.cell? ⟨w.heap.size, 0, none⟩ = some (.int .i64 (h)) ∧ w'.cell? ⟨w.heap.size, 1, none⟩ = some (.int .i64 (m)) ∧ w'.cell? ⟨w.heap.size, 2, none⟩ = some (.int .i64 (s)) ∧ w'.cell? ⟨w.heap.size, 3, none⟩ = some (.int .i64 (n)) ∧ w'.cell? ⟨w.heap.size + 1, 0, none⟩ = some (.int .i64 (hiW a)) ∧ w'.cell? ⟨w.heap.size + 1, 1, none⟩ = some (.int .u64 (loW a))) (first | (with_reducible exact ⟨(st.k.tail.tail.head).four.2.1, (st.k.tail.tail.head).four.2.2.1, (st.k.tail.tail.head).four.2.2.2.1, (st.k.tail.tail.head).four.2.2.2.2.1, (st.k.tail.head).two.2.1, (st.k.tail.head).two.2.2.1⟩) | (with_reducible exact ⟨(st.alloc1.k.tail.tail.head).four.2.1, (st.alloc1.k.tail.tail.head).four.2.2.1, (st.alloc1.k.tail.tail.head).four.2.2.2.1, (st.alloc1.k.tail.tail.head).four.2.2.2.2.1, (st.alloc1.k.tail.head).two.2.1, (st.alloc1.k.tail.head).two.2.2.1⟩) | (with_reducible exact ⟨(st.alloc2.k.tail.tail.head).four.2.1, (st.alloc2.k.tail.tail.head).four.2.2.1, (st.alloc2.k.tail.tail.head).four.2.2.2.1, (st.alloc2.k.tail.tail.head).four.2.2.2.2.1, (st.alloc2.k.tail.head).two.2.1, (st.alloc2.k.tail.head).two.2.2.1⟩) | (with_reducible exact ⟨(st.drew.k.tail.tail.head).four.2.1, (st.drew.k.tail.tail.head).four.2.2.1, (st.drew.k.tail.tail.head).four.2.2.2.1, (st.drew.k.tail.tail.head).four.2.2.2.2.1, (st.drew.k.tail.head).two.2.1, (st.drew.k.tail.head).two.2.2.1⟩) | (with_reducible exact ⟨(st.alloc1.drew.k.tail.tail.head).four.2.1, (st.alloc1.drew.k.tail.tail.head).four.2.2.1, (st.alloc1.drew.k.tail.tail.head).four.2.2.2.1, (st.alloc1.drew.k.tail.tail.head).four.2.2.2.2.1, (st.alloc1.drew.k.tail.head).two.2.1, (st.alloc1.drew.k.tail.head).two.2.2.1⟩) | (with_reducible exact ⟨(st.alloc2.drew.k.tail.tail.head).four.2.1, (st.alloc2.drew.k.tail.tail.head).four.2.2.1, (st.alloc2.drew.k.tail.tail.head).four.2.2.2.1, (st.alloc2.drew.k.tail.tail.head).four.2.2.2.2.1, (st.alloc2.drew.k.tail.head).two.2.1, (st.alloc2.drew.k.tail.head).two.2.2.1⟩) | go_keep)
      (first
        | (go_at_call 12; (with_reducible refine (NA.out _).mono ?_); rintro e x ⟨rfl, k⟩
           with_reducible (first | replace st := st.below k | replace st := st.alloc1.below k | replace st := st.alloc2.below k | replace st := st.drew.below k | replace st := st.alloc1.drew.below k | replace st := st.alloc2.drew.below k)
           clear k
           obtain ⟨_, k0a, k0b, k0c, k0d, _⟩ := (st.k.tail.tail.head).four
           obtain ⟨_, k1a, k1b, _⟩ := (st.k.tail.head).two
           obtain ⟨gp0, gq0⟩ := behindG st.lt la2
           try obtain ⟨gr0, gs0⟩ := behindG (st.ge _ (List.mem_cons_self ..)) la2
           try obtain ⟨gt0, gu0⟩ := behindG (st.ge _ (List.mem_cons_of_mem _ (List.mem_cons_self ..))) la2
           obtain ⟨gp1, gq1⟩ := behindG st.lt la1
           try obtain ⟨gr1, gs1⟩ := behindG (st.ge _ (List.mem_cons_self ..)) la1
           try obtain ⟨gt1, gu1⟩ := behindG (st.ge _ (List.mem_cons_of_mem _ (List.mem_cons_self ..))) la1
           try obtain ⟨_, y0, y1, y2, y3⟩ := st.al _ (List.mem_cons_self ..)
           try obtain ⟨_, y4, y5, y6, y7⟩ := st.al _ (List.mem_cons_of_mem _ (List.mem_cons_self ..)))
        | (go_at_call 34; (with_reducible refine (ON.out _).mono ?_); rintro e x5 ⟨p5, A5, n5, c5, rfl, z5, k⟩
           have l5 := z5.small sn.out
           with_reducible (first | replace st := st.below k | replace st := st.alloc1.below k | replace st := st.alloc2.below k | replace st := st.drew.below k | replace st := st.alloc1.drew.below k | replace st := st.alloc2.drew.below k)
           clear k
           obtain ⟨_, k0a, k0b, k0c, k0d, _⟩ := (st.k.tail.tail.head).four
           obtain ⟨_, k1a, k1b, _⟩ := (st.k.tail.head).two
           obtain ⟨gp0, gq0⟩ := behindG st.lt la2
           try obtain ⟨gr0, gs0⟩ := behindG (st.ge _ (List.mem_cons_self ..)) la2
           try obtain ⟨gt0, gu0⟩ := behindG (st.ge _ (List.mem_cons_of_mem _ (List.mem_cons_self ..))) la2
           obtain ⟨gp1, gq1⟩ := behindG st.lt la1
           try obtain ⟨gr1, gs1⟩ := behindG (st.ge _ (List.mem_cons_self ..)) la1
           try obtain ⟨gt1, gu1⟩ := behindG (st.ge _ (List.mem_cons_of_mem _ (List.mem_cons_self ..))) la1
           try obtain ⟨_, y0, y1, y2, y3⟩ := st.al _ (List.mem_cons_self ..)
           try obtain ⟨_, y4, y5, y6, y7⟩ := st.al _ (List.mem_cons_of_mem _ (List.mem_cons_self ..)))
        | (go_at_call 35; (with_reducible refine (OA.out _).mono ?_); rintro e x6 ⟨p6, A6, n6, c6, rfl, z6, k⟩
           have l6 := z6.small sa.out
           with_reducible (first | replace z5 := z5.below k | replace z5 := (z5.below (below_box _ _)).below k | replace z5 := z5.drew.below k | replace z5 := (z5.below (below_box _ _)).drew.below k | replace z5 := ((z5.below (below_box _ _)).below (below_box _ _)).below k | replace z5 := ((z5.below (below_box _ _)).below (below_box _ _)).drew.below k)
           with_reducible (first | replace st := st.below k | replace st := st.alloc1.below k | replace st := st.alloc2.below k | replace st := st.drew.below k | replace st := st.alloc1.drew.below k | replace st := st.alloc2.drew.below k)
           clear k
           obtain ⟨_, k0a, k0b, k0c, k0d, _⟩ := (st.k.tail.tail.head).four
           obtain ⟨_, k1a, k1b, _⟩ := (st.k.tail.head).two
           obtain ⟨gp0, gq0⟩ := behindG st.lt la2
           try obtain ⟨gr0, gs0⟩ := behindG (st.ge _ (List.mem_cons_self ..)) la2
           try obtain ⟨gt0, gu0⟩ := behindG (st.ge _ (List.mem_cons_of_mem _ (List.mem_cons_self ..))) la2
           obtain ⟨gp1, gq1⟩ := behindG st.lt la1
           try obtain ⟨gr1, gs1⟩ := behindG (st.ge _ (List.mem_cons_self ..)) la1
           try obtain ⟨gt1, gu1⟩ := behindG (st.ge _ (List.mem_cons_of_mem _ (List.mem_cons_self ..))) la1
           try obtain ⟨_, y0, y1, y2, y3⟩ := st.al _ (List.mem_cons_self ..)
           try obtain ⟨_, y4, y5, y6, y7⟩ := st.al _ (List.mem_cons_of_mem _ (List.mem_cons_self ..)))
        | (go_at_call 33; (with_reducible refine (AD.out p5 p6 A5 A6 n5 n6 c5 c6 _ (by with_reducible first | exact z5 | exact (z5.below (below_box _ _)) | exact z5.drew | exact (z5.below (below_box _ _)).drew | exact ((z5.below (below_box _ _)).below (below_box _ _)) | exact ((z5.below (below_box _ _)).below (below_box _ _)).drew) (by with_reducible first | exact z6 | exact (z6.below (below_box _ _)) | exact z6.drew | exact (z6.below (below_box _ _)).drew | exact ((z6.below (below_box _ _)).below (below_box _ _)) | exact ((z6.below (below_box _ _)).below (below_box _ _)).drew) (by omega) (by omega)).mono ?_); rintro e x7 ⟨p7, A7, n7, c7, rfl, z7, k⟩
           have l7 := z7.small sg.out
           with_reducible (first | replace st := st.below k | replace st := st.alloc1.below k | replace st := st.alloc2.below k | replace st := st.drew.below k | replace st := st.alloc1.drew.below k | replace st := st.alloc2.drew.below k)
           clear k
           obtain ⟨_, k0a, k0b, k0c, k0d, _⟩ := (st.k.tail.tail.head).four
           obtain ⟨_, k1a, k1b, _⟩ := (st.k.tail.head).two
           obtain ⟨gp0, gq0⟩ := behindG st.lt la2
           try obtain ⟨gr0, gs0⟩ := behindG (st.ge _ (List.mem_cons_self ..)) la2
           try obtain ⟨gt0, gu0⟩ := behindG (st.ge _ (List.mem_cons_of_mem _ (List.mem_cons_self ..))) la2
           obtain ⟨gp1, gq1⟩ := behindG st.lt la1
           try obtain ⟨gr1, gs1⟩ := behindG (st.ge _ (List.mem_cons_self ..)) la1
           try obtain ⟨gt1, gu1⟩ := behindG (st.ge _ (List.mem_cons_of_mem _ (List.mem_cons_self ..))) la1
           try obtain ⟨_, y0, y1, y2, y3⟩ := st.al _ (List.mem_cons_self ..)
           try obtain ⟨_, y4, y5, y6, y7⟩ := st.al _ (List.mem_cons_of_mem _ (List.mem_cons_self ..)))
        | (go_at_call 36; (with_reducible refine (DY.out _).mono ?_); rintro e x8 ⟨p8, A8, n8, c8, rfl, z8, k⟩
           have l8 := z8.small sd.out
           with_reducible (first | replace z7 := z7.below k | replace z7 := (z7.below (below_box _ _)).below k | replace z7 := z7.drew.below k | replace z7 := (z7.below (below_box _ _)).drew.below k | replace z7 := ((z7.below (below_box _ _)).below (below_box _ _)).below k | replace z7 := ((z7.below (below_box _ _)).below (below_box _ _)).drew.below k)
           with_reducible (first | replace st := st.below k | replace st := st.alloc1.below k | replace st := st.alloc2.below k | replace st := st.drew.below k | replace st := st.alloc1.drew.below k | replace st := st.alloc2.drew.below k)
           clear k
           obtain ⟨_, k0a, k0b, k0c, k0d, _⟩ := (st.k.tail.tail.head).four
           obtain ⟨_, k1a, k1b, _⟩ := (st.k.tail.head).two
           obtain ⟨gp0, gq0⟩ := behindG st.lt la2
           try obtain ⟨gr0, gs0⟩ := behindG (st.ge _ (List.mem_cons_self ..)) la2
           try obtain ⟨gt0, gu0⟩ := behindG (st.ge _ (List.mem_cons_of_mem _ (List.mem_cons_self ..))) la2
           obtain ⟨gp1, gq1⟩ := behindG st.lt la1
           try obtain ⟨gr1, gs1⟩ := behindG (st.ge _ (List.mem_cons_self ..)) la1
           try obtain ⟨gt1, gu1⟩ := behindG (st.ge _ (List.mem_cons_of_mem _ (List.mem_cons_self ..))) la1
           try obtain ⟨_, y0, y1, y2, y3⟩ := st.al _ (List.mem_cons_self ..)
           try obtain ⟨_, y4, y5, y6, y7⟩ := st.al _ (List.mem_cons_of_mem _ (List.mem_cons_self ..)))
        | (go_at_call 32; (with_reducible refine (DV.out p7 p8 A7 A8 n7 n8 c7 c8 _ (by with_reducible first | exact z7 | exact (z7.below (below_box _ _)) | exact z7.drew | exact (z7.below (below_box _ _)).drew | exact ((z7.below (below_box _ _)).below (below_box _ _)) | exact ((z7.below (below_box _ _)).below (below_box _ _)).drew) (by with_reducible first | exact z8 | exact (z8.below (below_box _ _)) | exact z8.drew | exact (z8.below (below_box _ _)).drew | exact ((z8.below (below_box _ _)).below (below_box _ _)) | exact ((z8.below (below_box _ _)).below (below_box _ _)).drew) (by omega) (by omega)).mono ?_); rintro e x16 ⟨p16, A16, n16, c16, p17, A17, n17, c17, rfl, z16, z17, k⟩
           with_reducible (first | replace st := st.below k | replace st := st.alloc1.below k | replace st := st.alloc2.below k | replace st := st.drew.below k | replace st := st.alloc1.drew.below k | replace st := st.alloc2.drew.below k)
           clear k
           obtain ⟨_, k0a, k0b, k0c, k0d, _⟩ := (st.k.tail.tail.head).four
           obtain ⟨_, k1a, k1b, _⟩ := (st.k.tail.head).two
           obtain ⟨gp0, gq0⟩ := behindG st.lt la2
           try obtain ⟨gr0, gs0⟩ := behindG (st.ge _ (List.mem_cons_self ..)) la2
           try obtain ⟨gt0, gu0⟩ := behindG (st.ge _ (List.mem_cons_of_mem _ (List.mem_cons_self ..))) la2
           obtain ⟨gp1, gq1⟩ := behindG st.lt la1
           try obtain ⟨gr1, gs1⟩ := behindG (st.ge _ (List.mem_cons_self ..)) la1
           try obtain ⟨gt1, gu1⟩ := behindG (st.ge _ (List.mem_cons_of_mem _ (List.mem_cons_self ..))) la1
           try obtain ⟨_, y0, y1, y2, y3⟩ := st.al _ (List.mem_cons_self ..)
           try obtain ⟨_, y4, y5, y6, y7⟩ := st.al _ (List.mem_cons_of_mem _ (List.mem_cons_self ..))))
    all_goals
      go_wp2_with fail
      go_meet
      refine ⟨_, _, p16, A16, n16, c16, p17, A17, n17, c17, rfl, rfl, ?_⟩
      with_reducible first | exact st.fin1a z16 z17 | exact st.fin1b z16 z17 | exact st.fin2a z16 z17 | exact st.fin2b z16 z17 | exact st.fin3a z16 z17 | exact st.fin3b z16 z17
  case rest =>
  clear st
  obtain ⟨l, r, pl, Al, nl, cl, pr, Ar, nr, cr, rfl, rfl, s0⟩ := hcut
  have KM := (((s0.k.consBox s0.bq).consBox s0.br).ncons s0.zq).ncons s0.zr
  have ggl := s0.gg
  have ggr := s0.gh
  have nel := s0.ne
  have nl0 : l ≠ w.heap.size + 1 + 1 := by omega
  have nr0 : r ≠ w.heap.size + 1 + 1 := by omega
  have nl1 : l ≠ w.heap.size + 1 := by omega
  have nr1 : r ≠ w.heap.size + 1 := by omega
  have nl2 : l ≠ w.heap.size := by omega
  have nr2 : r ≠ w.heap.size := by omega
  clear s0
  have ll := (KM.nt.num).small sq.out
  have lr := (KM.num).small sr.out
  obtain ⟨_, qa, qb, _⟩ := (KM.tail.head).two
  go_wp2_with fail
  clear qa qb
  refine (FQ.out _ _ _ _ _ KM.nt.num (by omega)).mono ?_
  rintro e w3 ⟨rfl, k⟩
  replace KM := KM.below k
  clear k
  obtain ⟨_, r0, r1, r2, r3, f0, f1, f2, f3⟩ := (KM.tail.tail.head).four
  go_wp2
  obtain ⟨_, P0, P1, P2, P3, _⟩ := ((KM.tail.tail.head).self4 (.int .i64 0) (.int .i64 0) (.int .i64 0) (.int .i64 0)).four
  have HB := ((((KM.hb.setCell (p := ⟨w.heap.size + 1 + 1, 0, none⟩) (by show _ ≤ w.heap.size + 1 + 1; omega) (.int .i64 0)).setCell (p := ⟨w.heap.size + 1 + 1, 1, none⟩) (by show _ ≤ w.heap.size + 1 + 1; omega) (.int .i64 0)).setCell (p := ⟨w.heap.size + 1 + 1, 2, none⟩) (by show _ ≤ w.heap.size + 1 + 1; omega) (.int .i64 0)).setCell (p := ⟨w.heap.size + 1 + 1, 3, none⟩) (by show _ ≤ w.heap.size + 1 + 1; omega) (.int .i64 0))
  exact bodyPost_ret (v := .tuple #[.agg #[.int .i64 0, .int .i64 0, .int .i64 0, .int .i64 0], .int .i64 0, .int .i64 2]) (by simp [results, Tryd.results19, go_sem, P0, P1, P2, P3]) rfl ⟨rfl, HB⟩
set_option maxRecDepth 100000 in
set_option maxHeartbeats 8000000 in
theorem addT_yes (h m s n a nn G qq rr kq x0 x1 x2 x3 : Int) (RI : Hid (∀ W, Calls Tryd.prog 10 #[.agg #[.int .i64 (h), .int .i64 (m), .int .i64 (s), .int .i64 (n)]] W (fun e w' => e = .returned (.bool true) ∧ Below W.heap.size W w'))) (NA : Hid (∀ W, Calls Tryd.prog 12 #[.agg #[.int .i64 (h), .int .i64 (m), .int .i64 (s), .int .i64 (n)]] W (fun e w' => e = .returned (.int .i64 nn) ∧ Below W.heap.size W w'))) (ON : Hid (∀ W, Calls Tryd.prog 34 #[.int .i64 (nn)] W (RetZ W (nn)))) (sn : Hid ((nn).natAbs < 65536 ^ 9)) (OA : Hid (∀ W, Calls Tryd.prog 35 #[.agg #[.int .i64 (hiW a), .int .u64 (loW a)]] W (RetZ W (a)))) (sa : Hid ((a).natAbs < 65536 ^ 9)) (AD : Hid (∀ (p q : Bool) (A B : Option Addr) (n m c d : Nat) (W : World), Zs W p A n c (nn) → Zs W q B m d (a) → n ≤ 900000 → m ≤ 900000 → Calls Tryd.prog 33 #[.agg #[.bool p, .slice A n c], .agg #[.bool q, .slice B m d]] W (RetZ W (G)))) (sg : Hid ((G).natAbs < 65536 ^ 9)) (DY : Hid (∀ W, Calls Tryd.prog 36 #[] W (RetZ W 86400000000000))) (sd : Hid (((86400000000000 : Int)).natAbs < 65536 ^ 9)) (DV : Hid (∀ (p q : Bool) (A B : Option Addr) (n m c d : Nat) (W : World), Zs W p A n c (G) → Zs W q B m d (86400000000000) → n ≤ 3000 → m ≤ 3000 → Calls Tryd.prog 32 #[.agg #[.bool p, .slice A n c], .agg #[.bool q, .slice B m d]] W (RetQR W (qq) (rr)))) (sq : Hid ((qq).natAbs < 65536 ^ 9)) (sr : Hid ((rr).natAbs < 65536 ^ 9)) (FQ : Hid (∀ (p : Bool) (A : Option Addr) (n c : Nat) (W : World), Zs W p A n c (qq) → n ≤ 900000 → Calls Tryd.prog 37 #[.agg #[.bool p, .slice A n c]] W (fun e w' => e = .returned (.tuple #[.int .i64 (kq), .bool true]) ∧ Below W.heap.size W w'))) (FR : Hid (∀ (p : Bool) (A : Option Addr) (n c : Nat) (W : World), Zs W p A n c (rr) → n ≤ 900000 → Calls Tryd.prog 37 #[.agg #[.bool p, .slice A n c]] W (fun e w' => e = .returned (.tuple #[.int .i64 (rr), .bool true]) ∧ Below W.heap.size W w'))) (TO : Hid (∀ W, Calls Tryd.prog 13 #[.int .i64 rr] W (fun e w' => e = .returned (.agg #[.int .i64 (x0), .int .i64 (x1), .int .i64 (x2), .int .i64 (x3)]) ∧ Below W.heap.size W w'))) (w : World) :
    Calls Tryd.prog 19 #[.agg #[.int .i64 (h), .int .i64 (m), .int .i64 (s), .int .i64 (n)], .agg #[.int .i64 (hiW a), .int .u64 (loW a)]] w (RetTNE w x0 x1 x2 x3 kq 0) := by
  go_enter Tryd.func19, Tryd.ntmps19
  go_upto_region 1 with (fail)
  have KM := ((((BM.nil w).more4 (.int .i64 (h)) (.int .i64 (m)) (.int .i64 (s)) (.int .i64 (n)) 23).more2 (.int .i64 (hiW a)) (.int .u64 (loW a)) 42).more4 (.int .i64 0) (.int .i64 0) (.int .i64 0) (.int .i64 0) 23)
  try simp only [World.size_alloc] at KM
  generalize (((w.alloc (.cells #[.int .i64 (h), .int .i64 (m), .int .i64 (s), .int .i64 (n)] 23)).alloc (.cells #[.int .i64 (hiW a), .int .u64 (loW a)] 42)).alloc (.cells #[.int .i64 0, .int .i64 0, .int .i64 0, .int .i64 0] 23)) = w0 at *
  obtain ⟨_, aa, ab, ac, ad, _⟩ := (KM.tail.tail.head).four
  go_wp2_with fail
  clear aa ab ac ad
  refine (RI.out _).mono ?_
  rintro e w1 ⟨rfl, k⟩
  replace KM := KM.below k
  clear k
  go_upto_region 3 with (fail)
  obtain ⟨lo, st, hlo⟩ := KM.preD (KM.tail.tail.head).lt
  have la0 : w.heap.size + 1 + 1 ≤ lo := hlo (w.heap.size + 1 + 1, [.int .i64 0, .int .i64 0, .int .i64 0, .int .i64 0]) (by simp)
  have la1 : w.heap.size + 1 ≤ lo := hlo (w.heap.size + 1, [.int .i64 (hiW a), .int .u64 (loW a)]) (by simp)
  have la2 : w.heap.size ≤ lo := hlo (w.heap.size, [.int .i64 (h), .int .i64 (m), .int .i64 (s), .int .i64 (n)]) (by simp)
  clear hlo
  go_cut [7, 8] (fun v7 v8 wx => DivCutD lo (BM w [(w.heap.size + 1 + 1, [.int .i64 0, .int .i64 0, .int .i64 0, .int .i64 0]), (w.heap.size + 1, [.int .i64 (hiW a), .int .u64 (loW a)]), (w.heap.size, [.int .i64 (h), .int .i64 (m), .int .i64 (s), .int .i64 (n)])] []) (qq) (rr) v7 v8 wx)
  case first =>
    obtain ⟨_, j0a, j0b, j0c, j0d, _⟩ := (KM.tail.tail.head).four
    obtain ⟨_, j1a, j1b, _⟩ := (KM.tail.head).two
    clear KM
    have ⟨gp0, gq0⟩ := behindG st.lt la2
    have ⟨gp1, gq1⟩ := behindG st.lt la1
    go_region_held3 (fun w' => w'.cell? ⟨w.heap.size, 0, none⟩ = some (.int .i64 (h)) ∧ w'.cell? ⟨w.heap.size, 1, none⟩ = some (.int .i64 (m)) ∧ w'.cell? ⟨w.heap.size, 2, none⟩ = some (.int .i64 (s)) ∧ w'.cell? ⟨w.heap.size, 3, none⟩ = some (.int .i64 (n)) ∧ w'.cell? ⟨w.heap.size + 1, 0, none⟩ = some (.int .i64 (hiW a)) ∧ w'.cell? ⟨w.heap.size + 1, 1, none⟩ = some (.int .u64 (loW a))) (first | (with_reducible exact ⟨(st.k.tail.tail.head).four.2.1, (st.k.tail.tail.head).four.2.2.1, (st.k.tail.tail.head).four.2.2.2.1, (st.k.tail.tail.head).four.2.2.2.2.1, (st.k.tail.head).two.2.1, (st.k.tail.head).two.2.2.1⟩) | (with_reducible exact ⟨(st.alloc1.k.tail.tail.head).four.2.1, (st.alloc1.k.tail.tail.head).four.2.2.1, (st.alloc1.k.tail.tail.head).four.2.2.2.1, (st.alloc1.k.tail.tail.head).four.2.2.2.2.1, (st.alloc1.k.tail.head).two.2.1, (st.alloc1.k.tail.head).two.2.2.1⟩) | (with_reducible exact ⟨(st.alloc2.k.tail.tail.head).four.2.1, (st.alloc2.k.tail.tail.head).four.2.2.1, (st.alloc2.k.tail.tail.head).four.2.2.2.1, (st.alloc2.k.tail.tail.head).four.2.2.2.2.1, (st.alloc2.k.tail.head).two.2.1, (st.alloc2.k.tail.head).two.2.2.1⟩) | (with_reducible exact ⟨(st.drew.k.tail.tail.head).four.2.1, (st.drew.k.tail.tail.head).four.2.2.1, (st.drew.k.tail.tail.head).four.2.2.2.1, (st.drew.k.tail.tail.head).four.2.2.2.2.1, (st.drew.k.tail.head).two.2.1, (st.drew.k.tail.head).two.2.2.1⟩) | (with_reducible exact ⟨(st.alloc1.drew.k.tail.tail.head).four.2.1, (st.alloc1.drew.k.tail.tail.head).four.2.2.1, (st.alloc1.drew.k.tail.tail.head).four.2.2.2.1, (st.alloc1.drew.k.tail.tail.head).four.2.2.2.2.1, (st.alloc1.drew.k.tail.head).two.2.1, (st.alloc1.drew.k.tail.head).two.2.2.1⟩) | (with_reducible exact ⟨(st.alloc2.drew.k.tail.tail.head).four.2.1, (st.alloc2.drew.k.tail.tail.head).four.2.2.1, (st.alloc2.drew.k.tail.tail.head).four.2.2.2.1, (st.alloc2.drew.k.tail.tail.head).four.2.2.2.2.1, (st.alloc2.drew.k.tail.head).two.2.1, (st.alloc2.drew.k.tail.head).two.2.2.1⟩) | go_keep)
      (first
        | (go_at_call 12; (with_reducible refine (NA.out _).mono ?_); rintro e x ⟨rfl, k⟩
           with_reducible (first | replace st := st.below k | replace st := st.alloc1.below k | replace st := st.alloc2.below k | replace st := st.drew.below k | replace st := st.alloc1.drew.below k | replace st := st.alloc2.drew.below k)
           clear k
           obtain ⟨_, k0a, k0b, k0c, k0d, _⟩ := (st.k.tail.tail.head).four
           obtain ⟨_, k1a, k1b, _⟩ := (st.k.tail.head).two
           obtain ⟨gp0, gq0⟩ := behindG st.lt la2
           try obtain ⟨gr0, gs0⟩ := behindG (st.ge _ (List.mem_cons_self ..)) la2
           try obtain ⟨gt0, gu0⟩ := behindG (st.ge _ (List.mem_cons_of_mem _ (List.mem_cons_self ..))) la2
           obtain ⟨gp1, gq1⟩ := behindG st.lt la1
           try obtain ⟨gr1, gs1⟩ := behindG (st.ge _ (List.mem_cons_self ..)) la1
           try obtain ⟨gt1, gu1⟩ := behindG (st.ge _ (List.mem_cons_of_mem _ (List.mem_cons_self ..))) la1
           try obtain ⟨_, y0, y1, y2, y3⟩ := st.al _ (List.mem_cons_self ..)
           try obtain ⟨_, y4, y5, y6, y7⟩ := st.al _ (List.mem_cons_of_mem _ (List.mem_cons_self ..)))
        | (go_at_call 34; (with_reducible refine (ON.out _).mono ?_); rintro e x5 ⟨p5, A5, n5, c5, rfl, z5, k⟩
           have l5 := z5.small sn.out
           with_reducible (first | replace st := st.below k | replace st := st.alloc1.below k | replace st := st.alloc2.below k | replace st := st.drew.below k | replace st := st.alloc1.drew.below k | replace st := st.alloc2.drew.below k)
           clear k
           obtain ⟨_, k0a, k0b, k0c, k0d, _⟩ := (st.k.tail.tail.head).four
           obtain ⟨_, k1a, k1b, _⟩ := (st.k.tail.head).two
           obtain ⟨gp0, gq0⟩ := behindG st.lt la2
           try obtain ⟨gr0, gs0⟩ := behindG (st.ge _ (List.mem_cons_self ..)) la2
           try obtain ⟨gt0, gu0⟩ := behindG (st.ge _ (List.mem_cons_of_mem _ (List.mem_cons_self ..))) la2
           obtain ⟨gp1, gq1⟩ := behindG st.lt la1
           try obtain ⟨gr1, gs1⟩ := behindG (st.ge _ (List.mem_cons_self ..)) la1
           try obtain ⟨gt1, gu1⟩ := behindG (st.ge _ (List.mem_cons_of_mem _ (List.mem_cons_self ..))) la1
           try obtain ⟨_, y0, y1, y2, y3⟩ := st.al _ (List.mem_cons_self ..)
           try obtain ⟨_, y4, y5, y6, y7⟩ := st.al _ (List.mem_cons_of_mem _ (List.mem_cons_self ..)))
        | (go_at_call 35; (with_reducible refine (OA.out _).mono ?_); rintro e x6 ⟨p6, A6, n6, c6, rfl, z6, k⟩
           have l6 := z6.small sa.out
           with_reducible (first | replace z5 := z5.below k | replace z5 := (z5.below (below_box _ _)).below k | replace z5 := z5.drew.below k | replace z5 := (z5.below (below_box _ _)).drew.below k | replace z5 := ((z5.below (below_box _ _)).below (below_box _ _)).below k | replace z5 := ((z5.below (below_box _ _)).below (below_box _ _)).drew.below k)
           with_reducible (first | replace st := st.below k | replace st := st.alloc1.below k | replace st := st.alloc2.below k | replace st := st.drew.below k | replace st := st.alloc1.drew.below k | replace st := st.alloc2.drew.below k)
           clear k
           obtain ⟨_, k0a, k0b, k0c, k0d, _⟩ := (st.k.tail.tail.head).four
           obtain ⟨_, k1a, k1b, _⟩ := (st.k.tail.head).two
           obtain ⟨gp0, gq0⟩ := behindG st.lt la2
           try obtain ⟨gr0, gs0⟩ := behindG (st.ge _ (List.mem_cons_self ..)) la2
           try obtain ⟨gt0, gu0⟩ := behindG (st.ge _ (List.mem_cons_of_mem _ (List.mem_cons_self ..))) la2
           obtain ⟨gp1, gq1⟩ := behindG st.lt la1
           try obtain ⟨gr1, gs1⟩ := behindG (st.ge _ (List.mem_cons_self ..)) la1
           try obtain ⟨gt1, gu1⟩ := behindG (st.ge _ (List.mem_cons_of_mem _ (List.mem_cons_self ..))) la1
           try obtain ⟨_, y0, y1, y2, y3⟩ := st.al _ (List.mem_cons_self ..)
           try obtain ⟨_, y4, y5, y6, y7⟩ := st.al _ (List.mem_cons_of_mem _ (List.mem_cons_self ..)))
        | (go_at_call 33; (with_reducible refine (AD.out p5 p6 A5 A6 n5 n6 c5 c6 _ (by with_reducible first | exact z5 | exact (z5.below (below_box _ _)) | exact z5.drew | exact (z5.below (below_box _ _)).drew | exact ((z5.below (below_box _ _)).below (below_box _ _)) | exact ((z5.below (below_box _ _)).below (below_box _ _)).drew) (by with_reducible first | exact z6 | exact (z6.below (below_box _ _)) | exact z6.drew | exact (z6.below (below_box _ _)).drew | exact ((z6.below (below_box _ _)).below (below_box _ _)) | exact ((z6.below (below_box _ _)).below (below_box _ _)).drew) (by omega) (by omega)).mono ?_); rintro e x7 ⟨p7, A7, n7, c7, rfl, z7, k⟩
           have l7 := z7.small sg.out
           with_reducible (first | replace st := st.below k | replace st := st.alloc1.below k | replace st := st.alloc2.below k | replace st := st.drew.below k | replace st := st.alloc1.drew.below k | replace st := st.alloc2.drew.below k)
           clear k
           obtain ⟨_, k0a, k0b, k0c, k0d, _⟩ := (st.k.tail.tail.head).four
           obtain ⟨_, k1a, k1b, _⟩ := (st.k.tail.head).two
           obtain ⟨gp0, gq0⟩ := behindG st.lt la2
           try obtain ⟨gr0, gs0⟩ := behindG (st.ge _ (List.mem_cons_self ..)) la2
           try obtain ⟨gt0, gu0⟩ := behindG (st.ge _ (List.mem_cons_of_mem _ (List.mem_cons_self ..))) la2
           obtain ⟨gp1, gq1⟩ := behindG st.lt la1
           try obtain ⟨gr1, gs1⟩ := behindG (st.ge _ (List.mem_cons_self ..)) la1
           try obtain ⟨gt1, gu1⟩ := behindG (st.ge _ (List.mem_cons_of_mem _ (List.mem_cons_self ..))) la1
           try obtain ⟨_, y0, y1, y2, y3⟩ := st.al _ (List.mem_cons_self ..)
           try obtain ⟨_, y4, y5, y6, y7⟩ := st.al _ (List.mem_cons_of_mem _ (List.mem_cons_self ..)))
        | (go_at_call 36; (with_reducible refine (DY.out _).mono ?_); rintro e x8 ⟨p8, A8, n8, c8, rfl, z8, k⟩
           have l8 := z8.small sd.out
           with_reducible (first | replace z7 := z7.below k | replace z7 := (z7.below (below_box _ _)).below k | replace z7 := z7.drew.below k | replace z7 := (z7.below (below_box _ _)).drew.below k | replace z7 := ((z7.below (below_box _ _)).below (below_box _ _)).below k | replace z7 := ((z7.below (below_box _ _)).below (below_box _ _)).drew.below k)
           with_reducible (first | replace st := st.below k | replace st := st.alloc1.below k | replace st := st.alloc2.below k | replace st := st.drew.below k | replace st := st.alloc1.drew.below k | replace st := st.alloc2.drew.below k)
           clear k
           obtain ⟨_, k0a, k0b, k0c, k0d, _⟩ := (st.k.tail.tail.head).four
           obtain ⟨_, k1a, k1b, _⟩ := (st.k.tail.head).two
           obtain ⟨gp0, gq0⟩ := behindG st.lt la2
           try obtain ⟨gr0, gs0⟩ := behindG (st.ge _ (List.mem_cons_self ..)) la2
           try obtain ⟨gt0, gu0⟩ := behindG (st.ge _ (List.mem_cons_of_mem _ (List.mem_cons_self ..))) la2
           obtain ⟨gp1, gq1⟩ := behindG st.lt la1
           try obtain ⟨gr1, gs1⟩ := behindG (st.ge _ (List.mem_cons_self ..)) la1
           try obtain ⟨gt1, gu1⟩ := behindG (st.ge _ (List.mem_cons_of_mem _ (List.mem_cons_self ..))) la1
           try obtain ⟨_, y0, y1, y2, y3⟩ := st.al _ (List.mem_cons_self ..)
           try obtain ⟨_, y4, y5, y6, y7⟩ := st.al _ (List.mem_cons_of_mem _ (List.mem_cons_self ..)))
        | (go_at_call 32; (with_reducible refine (DV.out p7 p8 A7 A8 n7 n8 c7 c8 _ (by with_reducible first | exact z7 | exact (z7.below (below_box _ _)) | exact z7.drew | exact (z7.below (below_box _ _)).drew | exact ((z7.below (below_box _ _)).below (below_box _ _)) | exact ((z7.below (below_box _ _)).below (below_box _ _)).drew) (by with_reducible first | exact z8 | exact (z8.below (below_box _ _)) | exact z8.drew | exact (z8.below (below_box _ _)).drew | exact ((z8.below (below_box _ _)).below (below_box _ _)) | exact ((z8.below (below_box _ _)).below (below_box _ _)).drew) (by omega) (by omega)).mono ?_); rintro e x16 ⟨p16, A16, n16, c16, p17, A17, n17, c17, rfl, z16, z17, k⟩
           with_reducible (first | replace st := st.below k | replace st := st.alloc1.below k | replace st := st.alloc2.below k | replace st := st.drew.below k | replace st := st.alloc1.drew.below k | replace st := st.alloc2.drew.below k)
           clear k
           obtain ⟨_, k0a, k0b, k0c, k0d, _⟩ := (st.k.tail.tail.head).four
           obtain ⟨_, k1a, k1b, _⟩ := (st.k.tail.head).two
           obtain ⟨gp0, gq0⟩ := behindG st.lt la2
           try obtain ⟨gr0, gs0⟩ := behindG (st.ge _ (List.mem_cons_self ..)) la2
           try obtain ⟨gt0, gu0⟩ := behindG (st.ge _ (List.mem_cons_of_mem _ (List.mem_cons_self ..))) la2
           obtain ⟨gp1, gq1⟩ := behindG st.lt la1
           try obtain ⟨gr1, gs1⟩ := behindG (st.ge _ (List.mem_cons_self ..)) la1
           try obtain ⟨gt1, gu1⟩ := behindG (st.ge _ (List.mem_cons_of_mem _ (List.mem_cons_self ..))) la1
           try obtain ⟨_, y0, y1, y2, y3⟩ := st.al _ (List.mem_cons_self ..)
           try obtain ⟨_, y4, y5, y6, y7⟩ := st.al _ (List.mem_cons_of_mem _ (List.mem_cons_self ..))))
    all_goals
      go_wp2_with fail
      go_meet
      refine ⟨_, _, p16, A16, n16, c16, p17, A17, n17, c17, rfl, rfl, ?_⟩
      with_reducible first | exact st.fin1a z16 z17 | exact st.fin1b z16 z17 | exact st.fin2a z16 z17 | exact st.fin2b z16 z17 | exact st.fin3a z16 z17 | exact st.fin3b z16 z17
  case rest =>
  clear st
  obtain ⟨l, r, pl, Al, nl, cl, pr, Ar, nr, cr, rfl, rfl, s0⟩ := hcut
  have KM := (((s0.k.consBox s0.bq).consBox s0.br).ncons s0.zq).ncons s0.zr
  have ggl := s0.gg
  have ggr := s0.gh
  have nel := s0.ne
  have nl0 : l ≠ w.heap.size + 1 + 1 := by omega
  have nr0 : r ≠ w.heap.size + 1 + 1 := by omega
  have nl1 : l ≠ w.heap.size + 1 := by omega
  have nr1 : r ≠ w.heap.size + 1 := by omega
  have nl2 : l ≠ w.heap.size := by omega
  have nr2 : r ≠ w.heap.size := by omega
  clear s0
  have ll := (KM.nt.num).small sq.out
  have lr := (KM.num).small sr.out
  obtain ⟨_, qa, qb, _⟩ := (KM.tail.head).two
  go_wp2_with fail
  clear qa qb
  refine (FQ.out _ _ _ _ _ KM.nt.num (by omega)).mono ?_
  rintro e w3 ⟨rfl, k⟩
  replace KM := KM.below k
  clear k
  obtain ⟨_, qa, qb, _⟩ := (KM.head).two
  go_wp2_with fail
  clear qa qb
  refine (FR.out _ _ _ _ _ KM.num (by omega)).mono ?_
  rintro e w4 ⟨rfl, k⟩
  replace KM := KM.below k
  clear k
  go_wp2_with fail
  refine (TO.out _).mono ?_
  rintro e w5 ⟨rfl, k⟩
  replace KM := KM.below k
  clear k
  obtain ⟨_, r0, r1, r2, r3, f0, f1, f2, f3⟩ := (KM.tail.tail.head).four
  go_wp2
  obtain ⟨_, P0, P1, P2, P3, _⟩ := ((KM.tail.tail.head).self4 (.int .i64 (x0)) (.int .i64 (x1)) (.int .i64 (x2)) (.int .i64 (x3))).four
  have HB := ((((KM.hb.setCell (p := ⟨w.heap.size + 1 + 1, 0, none⟩) (by show _ ≤ w.heap.size + 1 + 1; omega) (.int .i64 (x0))).setCell (p := ⟨w.heap.size + 1 + 1, 1, none⟩) (by show _ ≤ w.heap.size + 1 + 1; omega) (.int .i64 (x1))).setCell (p := ⟨w.heap.size + 1 + 1, 2, none⟩) (by show _ ≤ w.heap.size + 1 + 1; omega) (.int .i64 (x2))).setCell (p := ⟨w.heap.size + 1 + 1, 3, none⟩) (by show _ ≤ w.heap.size + 1 + 1; omega) (.int .i64 (x3)))
  exact bodyPost_ret (v := .tuple #[.agg #[.int .i64 (x0), .int .i64 (x1), .int .i64 (x2), .int .i64 (x3)], .int .i64 kq, .int .i64 0]) (by simp [results, Tryd.results19, go_sem, P0, P1, P2, P3]) rfl ⟨rfl, HB⟩
set_option maxRecDepth 100000 in
set_option maxHeartbeats 8000000 in
theorem roundT_arg (h m s n ic mo : Int) (RI : Hid (∀ W, Calls Tryd.prog 10 #[.agg #[.int .i64 (h), .int .i64 (m), .int .i64 (s), .int .i64 (n)]] W (fun e w' => e = .returned (.bool false) ∧ Below W.heap.size W w'))) (w : World) :
    Calls Tryd.prog 21 #[.agg #[.int .i64 (h), .int .i64 (m), .int .i64 (s), .int .i64 (n)], .int .i64 ic, .int .i64 mo] w (RetTNE w 0 0 0 0 0 1) := by
  go_enter Tryd.func21, Tryd.ntmps21
  go_upto_region 1 with (fail)
  have KM := (((BM.nil w).more4 (.int .i64 (h)) (.int .i64 (m)) (.int .i64 (s)) (.int .i64 (n)) 23).more4 (.int .i64 0) (.int .i64 0) (.int .i64 0) (.int .i64 0) 23)
  try simp only [World.size_alloc] at KM
  generalize ((w.alloc (.cells #[.int .i64 (h), .int .i64 (m), .int .i64 (s), .int .i64 (n)] 23)).alloc (.cells #[.int .i64 0, .int .i64 0, .int .i64 0, .int .i64 0] 23)) = w0 at *
  obtain ⟨_, aa, ab, ac, ad, _⟩ := (KM.tail.head).four
  go_wp2_with fail
  clear aa ab ac ad
  refine (RI.out _).mono ?_
  rintro e w1 ⟨rfl, k⟩
  replace KM := KM.below k
  clear k
  obtain ⟨_, r0, r1, r2, r3, f0, f1, f2, f3⟩ := (KM.head).four
  go_wp2
  obtain ⟨_, P0, P1, P2, P3, _⟩ := ((KM.head).self4 (.int .i64 0) (.int .i64 0) (.int .i64 0) (.int .i64 0)).four
  have HB := ((((KM.hb.setCell (p := ⟨w.heap.size + 1, 0, none⟩) (by show _ ≤ w.heap.size + 1; omega) (.int .i64 0)).setCell (p := ⟨w.heap.size + 1, 1, none⟩) (by show _ ≤ w.heap.size + 1; omega) (.int .i64 0)).setCell (p := ⟨w.heap.size + 1, 2, none⟩) (by show _ ≤ w.heap.size + 1; omega) (.int .i64 0)).setCell (p := ⟨w.heap.size + 1, 3, none⟩) (by show _ ≤ w.heap.size + 1; omega) (.int .i64 0))
  exact bodyPost_ret (v := .tuple #[.agg #[.int .i64 0, .int .i64 0, .int .i64 0, .int .i64 0], .int .i64 0, .int .i64 1]) (by simp [results, Tryd.results21, go_sem, P0, P1, P2, P3]) rfl ⟨rfl, HB⟩
set_option maxRecDepth 100000 in
set_option maxHeartbeats 8000000 in
theorem roundT_less (h m s n ic mo : Int) (RI : Hid (∀ W, Calls Tryd.prog 10 #[.agg #[.int .i64 (h), .int .i64 (m), .int .i64 (s), .int .i64 (n)]] W (fun e w' => e = .returned (.bool true) ∧ Below W.heap.size W w'))) (h1 : ic < 1) (w : World) :
    Calls Tryd.prog 21 #[.agg #[.int .i64 (h), .int .i64 (m), .int .i64 (s), .int .i64 (n)], .int .i64 ic, .int .i64 mo] w (RetTNE w 0 0 0 0 0 1) := by
  go_enter Tryd.func21, Tryd.ntmps21
  go_upto_region 1 with (fail)
  have KM := (((BM.nil w).more4 (.int .i64 (h)) (.int .i64 (m)) (.int .i64 (s)) (.int .i64 (n)) 23).more4 (.int .i64 0) (.int .i64 0) (.int .i64 0) (.int .i64 0) 23)
  try simp only [World.size_alloc] at KM
  generalize ((w.alloc (.cells #[.int .i64 (h), .int .i64 (m), .int .i64 (s), .int .i64 (n)] 23)).alloc (.cells #[.int .i64 0, .int .i64 0, .int .i64 0, .int .i64 0] 23)) = w0 at *
  obtain ⟨_, aa, ab, ac, ad, _⟩ := (KM.tail.head).four
  go_wp2_with fail
  clear aa ab ac ad
  refine (RI.out _).mono ?_
  rintro e w1 ⟨rfl, k⟩
  replace KM := KM.below k
  clear k
  obtain ⟨_, r0, r1, r2, r3, f0, f1, f2, f3⟩ := (KM.head).four
  go_wp2
  obtain ⟨_, P0, P1, P2, P3, _⟩ := ((KM.head).self4 (.int .i64 0) (.int .i64 0) (.int .i64 0) (.int .i64 0)).four
  have HB := ((((KM.hb.setCell (p := ⟨w.heap.size + 1, 0, none⟩) (by show _ ≤ w.heap.size + 1; omega) (.int .i64 0)).setCell (p := ⟨w.heap.size + 1, 1, none⟩) (by show _ ≤ w.heap.size + 1; omega) (.int .i64 0)).setCell (p := ⟨w.heap.size + 1, 2, none⟩) (by show _ ≤ w.heap.size + 1; omega) (.int .i64 0)).setCell (p := ⟨w.heap.size + 1, 3, none⟩) (by show _ ≤ w.heap.size + 1; omega) (.int .i64 0))
  exact bodyPost_ret (v := .tuple #[.agg #[.int .i64 0, .int .i64 0, .int .i64 0, .int .i64 0], .int .i64 0, .int .i64 1]) (by simp [results, Tryd.results21, go_sem, P0, P1, P2, P3]) rfl ⟨rfl, HB⟩
set_option maxRecDepth 100000 in
set_option maxHeartbeats 8000000 in
theorem roundT_more (h m s n ic mo : Int) (RI : Hid (∀ W, Calls Tryd.prog 10 #[.agg #[.int .i64 (h), .int .i64 (m), .int .i64 (s), .int .i64 (n)]] W (fun e w' => e = .returned (.bool true) ∧ Below W.heap.size W w'))) (h1 : ¬ ic < 1) (h2 : 86400000000000 < ic) (w : World) :
    Calls Tryd.prog 21 #[.agg #[.int .i64 (h), .int .i64 (m), .int .i64 (s), .int .i64 (n)], .int .i64 ic, .int .i64 mo] w (RetTNE w 0 0 0 0 0 1) := by
  go_enter Tryd.func21, Tryd.ntmps21
  go_upto_region 1 with (fail)
  have KM := (((BM.nil w).more4 (.int .i64 (h)) (.int .i64 (m)) (.int .i64 (s)) (.int .i64 (n)) 23).more4 (.int .i64 0) (.int .i64 0) (.int .i64 0) (.int .i64 0) 23)
  try simp only [World.size_alloc] at KM
  generalize ((w.alloc (.cells #[.int .i64 (h), .int .i64 (m), .int .i64 (s), .int .i64 (n)] 23)).alloc (.cells #[.int .i64 0, .int .i64 0, .int .i64 0, .int .i64 0] 23)) = w0 at *
  obtain ⟨_, aa, ab, ac, ad, _⟩ := (KM.tail.head).four
  go_wp2_with fail
  clear aa ab ac ad
  refine (RI.out _).mono ?_
  rintro e w1 ⟨rfl, k⟩
  replace KM := KM.below k
  clear k
  obtain ⟨_, r0, r1, r2, r3, f0, f1, f2, f3⟩ := (KM.head).four
  go_wp2
  obtain ⟨_, P0, P1, P2, P3, _⟩ := ((KM.head).self4 (.int .i64 0) (.int .i64 0) (.int .i64 0) (.int .i64 0)).four
  have HB := ((((KM.hb.setCell (p := ⟨w.heap.size + 1, 0, none⟩) (by show _ ≤ w.heap.size + 1; omega) (.int .i64 0)).setCell (p := ⟨w.heap.size + 1, 1, none⟩) (by show _ ≤ w.heap.size + 1; omega) (.int .i64 0)).setCell (p := ⟨w.heap.size + 1, 2, none⟩) (by show _ ≤ w.heap.size + 1; omega) (.int .i64 0)).setCell (p := ⟨w.heap.size + 1, 3, none⟩) (by show _ ≤ w.heap.size + 1; omega) (.int .i64 0))
  exact bodyPost_ret (v := .tuple #[.agg #[.int .i64 0, .int .i64 0, .int .i64 0, .int .i64 0], .int .i64 0, .int .i64 1]) (by simp [results, Tryd.results21, go_sem, P0, P1, P2, P3]) rfl ⟨rfl, HB⟩
set_option maxRecDepth 100000 in
set_option maxHeartbeats 8000000 in
theorem roundT_part (h m s n ic mo : Int) (RI : Hid (∀ W, Calls Tryd.prog 10 #[.agg #[.int .i64 (h), .int .i64 (m), .int .i64 (s), .int .i64 (n)]] W (fun e w' => e = .returned (.bool true) ∧ Below W.heap.size W w'))) (h1 : ¬ ic < 1) (h2 : ¬ 86400000000000 < ic) (h3 : ((86400000000000 : Int) % ic != 0) = true) (w : World) :
    Calls Tryd.prog 21 #[.agg #[.int .i64 (h), .int .i64 (m), .int .i64 (s), .int .i64 (n)], .int .i64 ic, .int .i64 mo] w (RetTNE w 0 0 0 0 0 1) := by
  have i0 : ¬ ic = 0 := by omega
  have i1 : (ic == 0) = false := by rw [beq_eq_false_iff_ne]; exact i0
  go_enter Tryd.func21, Tryd.ntmps21
  go_upto_region 1 with (fail)
  have KM := (((BM.nil w).more4 (.int .i64 (h)) (.int .i64 (m)) (.int .i64 (s)) (.int .i64 (n)) 23).more4 (.int .i64 0) (.int .i64 0) (.int .i64 0) (.int .i64 0) 23)
  try simp only [World.size_alloc] at KM
  generalize ((w.alloc (.cells #[.int .i64 (h), .int .i64 (m), .int .i64 (s), .int .i64 (n)] 23)).alloc (.cells #[.int .i64 0, .int .i64 0, .int .i64 0, .int .i64 0] 23)) = w0 at *
  obtain ⟨_, aa, ab, ac, ad, _⟩ := (KM.tail.head).four
  go_wp2_with fail
  clear aa ab ac ad
  refine (RI.out _).mono ?_
  rintro e w1 ⟨rfl, k⟩
  replace KM := KM.below k
  clear k
  obtain ⟨_, r0, r1, r2, r3, f0, f1, f2, f3⟩ := (KM.head).four
  go_wp2
  obtain ⟨_, P0, P1, P2, P3, _⟩ := ((KM.head).self4 (.int .i64 0) (.int .i64 0) (.int .i64 0) (.int .i64 0)).four
  have HB := ((((KM.hb.setCell (p := ⟨w.heap.size + 1, 0, none⟩) (by show _ ≤ w.heap.size + 1; omega) (.int .i64 0)).setCell (p := ⟨w.heap.size + 1, 1, none⟩) (by show _ ≤ w.heap.size + 1; omega) (.int .i64 0)).setCell (p := ⟨w.heap.size + 1, 2, none⟩) (by show _ ≤ w.heap.size + 1; omega) (.int .i64 0)).setCell (p := ⟨w.heap.size + 1, 3, none⟩) (by show _ ≤ w.heap.size + 1; omega) (.int .i64 0))
  exact bodyPost_ret (v := .tuple #[.agg #[.int .i64 0, .int .i64 0, .int .i64 0, .int .i64 0], .int .i64 0, .int .i64 1]) (by simp [results, Tryd.results21, go_sem, P0, P1, P2, P3]) rfl ⟨rfl, HB⟩
set_option maxRecDepth 100000 in
set_option maxHeartbeats 8000000 in
theorem roundT_mode (h m s n ic mo nn : Int) (RI : Hid (∀ W, Calls Tryd.prog 10 #[.agg #[.int .i64 (h), .int .i64 (m), .int .i64 (s), .int .i64 (n)]] W (fun e w' => e = .returned (.bool true) ∧ Below W.heap.size W w'))) (h1 : ¬ ic < 1) (h2 : ¬ 86400000000000 < ic) (h3 : ((86400000000000 : Int) % ic != 0) = false) (NA : Hid (∀ W, Calls Tryd.prog 12 #[.agg #[.int .i64 (h), .int .i64 (m), .int .i64 (s), .int .i64 (n)]] W (fun e w' => e = .returned (.int .i64 nn) ∧ Below W.heap.size W w'))) (ON : Hid (∀ W, Calls Tryd.prog 34 #[.int .i64 (nn)] W (RetZ W (nn)))) (sn : Hid ((nn).natAbs < 65536 ^ 9)) (OI : Hid (∀ W, Calls Tryd.prog 34 #[.int .i64 (ic)] W (RetZ W (ic)))) (si : Hid ((ic).natAbs < 65536 ^ 9)) (NO : Hid (∀ (p q : Bool) (A B : Option Addr) (n m c d : Nat) (W : World), Calls Tryd.prog 39 #[.agg #[.bool p, .slice A n c], .agg #[.bool q, .slice B m d], .int .i64 mo] W (fun e w' => e = .returned (.tuple #[.agg #[.bool false, .slice none 0 0], .bool false]) ∧ Below W.heap.size W w'))) (w : World) :
    Calls Tryd.prog 21 #[.agg #[.int .i64 (h), .int .i64 (m), .int .i64 (s), .int .i64 (n)], .int .i64 ic, .int .i64 mo] w (RetTNE w 0 0 0 0 0 1) := by
  have i0 : ¬ ic = 0 := by omega
  have i1 : (ic == 0) = false := by rw [beq_eq_false_iff_ne]; exact i0
  go_enter Tryd.func21, Tryd.ntmps21
  go_upto_region 1 with (fail)
  have KM := (((BM.nil w).more4 (.int .i64 (h)) (.int .i64 (m)) (.int .i64 (s)) (.int .i64 (n)) 23).more4 (.int .i64 0) (.int .i64 0) (.int .i64 0) (.int .i64 0) 23)
  try simp only [World.size_alloc] at KM
  generalize ((w.alloc (.cells #[.int .i64 (h), .int .i64 (m), .int .i64 (s), .int .i64 (n)] 23)).alloc (.cells #[.int .i64 0, .int .i64 0, .int .i64 0, .int .i64 0] 23)) = w0 at *
  obtain ⟨_, aa, ab, ac, ad, _⟩ := (KM.tail.head).four
  go_wp2_with fail
  clear aa ab ac ad
  refine (RI.out _).mono ?_
  rintro e w1 ⟨rfl, k⟩
  replace KM := KM.below k
  clear k
  go_upto_region 3 with (fail)
  obtain ⟨_, aa, ab, ac, ad, _⟩ := (KM.tail.head).four
  go_wp2_with fail
  clear aa ab ac ad
  refine (NA.out _).mono ?_
  rintro e w2 ⟨rfl, k⟩
  replace KM := KM.below k
  clear k
  go_wp2_with fail
  refine (ON.out _).mono ?_
  rintro e w3 ⟨p3, A3, n3, c3, rfl, z3, k⟩
  have l3 := z3.small sn.out
  replace KM := (KM.below k).ncons z3
  clear k z3
  go_wp2_with fail
  refine (OI.out _).mono ?_
  rintro e w4 ⟨p4, A4, n4, c4, rfl, z4, k⟩
  have l4 := z4.small si.out
  replace KM := (KM.below k).ncons z4
  clear k z4
  go_wp2_with fail
  refine (NO.out _ _ _ _ _ _ _ _ _).mono ?_
  rintro e w5 ⟨rfl, k⟩
  replace KM := KM.below k
  clear k
  go_upto_region 4 with (fail)
  have hlg := KM.head.lt
  replace KM := KM.more2 (.bool false) (.slice none 0 0) 64
  generalize w5.alloc (.cells #[.bool false, .slice none 0 0] 64) = w6 at *
  have ig0 : w5.heap.size ≠ w.heap.size + 1 := by omega
  have ig1 : w5.heap.size ≠ w.heap.size := by omega
  generalize w5.heap.size = g at *
  obtain ⟨_, r0, r1, r2, r3, f0, f1, f2, f3⟩ := (KM.tail.head).four
  go_wp2
  obtain ⟨_, P0, P1, P2, P3, _⟩ := ((KM.tail.head).self4 (.int .i64 0) (.int .i64 0) (.int .i64 0) (.int .i64 0)).four
  have HB := ((((KM.hb.setCell (p := ⟨w.heap.size + 1, 0, none⟩) (by show _ ≤ w.heap.size + 1; omega) (.int .i64 0)).setCell (p := ⟨w.heap.size + 1, 1, none⟩) (by show _ ≤ w.heap.size + 1; omega) (.int .i64 0)).setCell (p := ⟨w.heap.size + 1, 2, none⟩) (by show _ ≤ w.heap.size + 1; omega) (.int .i64 0)).setCell (p := ⟨w.heap.size + 1, 3, none⟩) (by show _ ≤ w.heap.size + 1; omega) (.int .i64 0))
  exact bodyPost_ret (v := .tuple #[.agg #[.int .i64 0, .int .i64 0, .int .i64 0, .int .i64 0], .int .i64 0, .int .i64 1]) (by simp [results, Tryd.results21, go_sem, P0, P1, P2, P3]) rfl ⟨rfl, HB⟩
set_option maxRecDepth 100000 in
set_option maxHeartbeats 8000000 in
theorem roundT_day (h m s n ic mo nn K P : Int) (RI : Hid (∀ W, Calls Tryd.prog 10 #[.agg #[.int .i64 (h), .int .i64 (m), .int .i64 (s), .int .i64 (n)]] W (fun e w' => e = .returned (.bool true) ∧ Below W.heap.size W w'))) (h1 : ¬ ic < 1) (h2 : ¬ 86400000000000 < ic) (h3 : ((86400000000000 : Int) % ic != 0) = false) (NA : Hid (∀ W, Calls Tryd.prog 12 #[.agg #[.int .i64 (h), .int .i64 (m), .int .i64 (s), .int .i64 (n)]] W (fun e w' => e = .returned (.int .i64 nn) ∧ Below W.heap.size W w'))) (ON : Hid (∀ W, Calls Tryd.prog 34 #[.int .i64 (nn)] W (RetZ W (nn)))) (sn : Hid ((nn).natAbs < 65536 ^ 9)) (OI : Hid (∀ W, Calls Tryd.prog 34 #[.int .i64 (ic)] W (RetZ W (ic)))) (si : Hid ((ic).natAbs < 65536 ^ 9)) (NE : Hid (∀ (p q : Bool) (A B : Option Addr) (n m c d : Nat) (W : World), Zs W p A n c (nn) → Zs W q B m d (ic) → Calls Tryd.prog 39 #[.agg #[.bool p, .slice A n c], .agg #[.bool q, .slice B m d], .int .i64 mo] W (RetNB W (K)))) (sk : Hid ((K).natAbs < 65536 ^ 9)) (MU : Hid (∀ (p q : Bool) (A B : Option Addr) (n m c d : Nat) (W : World), Zs W p A n c (K) → Zs W q B m d (ic) → n ≤ 400000 → m ≤ 400000 → Calls Tryd.prog 40 #[.agg #[.bool p, .slice A n c], .agg #[.bool q, .slice B m d]] W (RetZ W (P)))) (sp : Hid ((P).natAbs < 65536 ^ 20)) (FR : Hid (∀ (p : Bool) (A : Option Addr) (n c : Nat) (W : World), Zs W p A n c (P) → n ≤ 900000 → Calls Tryd.prog 37 #[.agg #[.bool p, .slice A n c]] W (fun e w' => e = .returned (.tuple #[.int .i64 (P), .bool true]) ∧ Below W.heap.size W w'))) (hp : P = 86400000000000) (w : World) :
    Calls Tryd.prog 21 #[.agg #[.int .i64 (h), .int .i64 (m), .int .i64 (s), .int .i64 (n)], .int .i64 ic, .int .i64 mo] w (RetTNE w 0 0 0 0 1 0) := by
  subst hp
  have i0 : ¬ ic = 0 := by omega
  have i1 : (ic == 0) = false := by rw [beq_eq_false_iff_ne]; exact i0
  go_enter Tryd.func21, Tryd.ntmps21
  go_upto_region 1 with (fail)
  have KM := (((BM.nil w).more4 (.int .i64 (h)) (.int .i64 (m)) (.int .i64 (s)) (.int .i64 (n)) 23).more4 (.int .i64 0) (.int .i64 0) (.int .i64 0) (.int .i64 0) 23)
  try simp only [World.size_alloc] at KM
  generalize ((w.alloc (.cells #[.int .i64 (h), .int .i64 (m), .int .i64 (s), .int .i64 (n)] 23)).alloc (.cells #[.int .i64 0, .int .i64 0, .int .i64 0, .int .i64 0] 23)) = w0 at *
  obtain ⟨_, aa, ab, ac, ad, _⟩ := (KM.tail.head).four
  go_wp2_with fail
  clear aa ab ac ad
  refine (RI.out _).mono ?_
  rintro e w1 ⟨rfl, k⟩
  replace KM := KM.below k
  clear k
  go_upto_region 3 with (fail)
  obtain ⟨_, aa, ab, ac, ad, _⟩ := (KM.tail.head).four
  go_wp2_with fail
  clear aa ab ac ad
  refine (NA.out _).mono ?_
  rintro e w2 ⟨rfl, k⟩
  replace KM := KM.below k
  clear k
  go_wp2_with fail
  refine (ON.out _).mono ?_
  rintro e w3 ⟨p3, A3, n3, c3, rfl, z3, k⟩
  have l3 := z3.small sn.out
  replace KM := (KM.below k).ncons z3
  clear k z3
  go_wp2_with fail
  refine (OI.out _).mono ?_
  rintro e w4 ⟨p4, A4, n4, c4, rfl, z4, k⟩
  have l4 := z4.small si.out
  replace KM := (KM.below k).ncons z4
  clear k z4
  go_wp2_with fail
  refine (NE.out _ _ _ _ _ _ _ _ _ KM.nt.num KM.num).mono ?_
  rintro e w5 ⟨p5, A5, n5, c5, rfl, z5, k⟩
  have l5 := z5.small sk.out
  replace KM := (KM.below k).ncons z5
  clear k z5
  go_upto_region 4 with (fail)
  have hlg := KM.head.lt
  replace KM := KM.more2 (.bool p5) (.slice A5 n5 c5) 64
  generalize w5.alloc (.cells #[.bool p5, .slice A5 n5 c5] 64) = w6 at *
  have ig0 : w5.heap.size ≠ w.heap.size + 1 := by omega
  have ig1 : w5.heap.size ≠ w.heap.size := by omega
  generalize w5.heap.size = g at *
  go_upto_region 6 with (fail)
  obtain ⟨_, jaa, jab, _⟩ := (KM.head).two
  go_region_held3 (fun w' => w'.cell? ⟨g, 0, none⟩ = some (.bool p5) ∧ w'.cell? ⟨g, 1, none⟩ = some (.slice A5 n5 c5)) (first | (with_reducible exact ⟨(KM.head).two.2.1, (KM.head).two.2.2.1⟩) | (with_reducible exact ⟨(KM.drew.head).two.2.1, (KM.drew.head).two.2.2.1⟩) | go_keep)
    (first
      | (go_at_call 34; (with_reducible refine (OI.out _).mono ?_); rintro e W11 ⟨p11, A11, n11, c11, rfl, z11, k⟩
         have l11 := z11.small si.out
         with_reducible (first | replace KM := KM.below k | replace KM := KM.drew.below k)
         clear k
         obtain ⟨_, kka, kkb, _⟩ := (KM.head).two)
      | (go_at_call 40; (with_reducible refine (MU.out p5 p11 A5 A11 n5 n11 c5 c11 _ (by with_reducible first | exact KM.num | exact KM.drew.num) (by with_reducible first | exact z11 | exact (z11.below (below_box _ _)) | exact z11.drew | exact (z11.below (below_box _ _)).drew | exact ((z11.below (below_box _ _)).below (below_box _ _)) | exact ((z11.below (below_box _ _)).below (below_box _ _)).drew) (by omega) (by omega)).mono ?_); rintro e W12 ⟨p12, A12, n12, c12, rfl, z12, k⟩
         have l12 := z12.small sp.out
         with_reducible (first | replace KM := KM.below k | replace KM := KM.drew.below k)
         clear k
         obtain ⟨_, kka, kkb, _⟩ := (KM.head).two)
      | (go_at_call 37; (with_reducible refine (FR.out p12 A12 n12 c12 _ (by with_reducible first | exact z12 | exact (z12.below (below_box _ _)) | exact z12.drew | exact (z12.below (below_box _ _)).drew | exact ((z12.below (below_box _ _)).below (below_box _ _)) | exact ((z12.below (below_box _ _)).below (below_box _ _)).drew) (by omega)).mono ?_); rintro e W13 ⟨rfl, k⟩
         with_reducible (first | replace KM := KM.below k | replace KM := KM.drew.below k)
         clear k
         obtain ⟨_, kka, kkb, _⟩ := (KM.head).two))
  all_goals
    obtain ⟨_, r0, r1, r2, r3, f0, f1, f2, f3⟩ := (KM.tail.head).four
    go_wp2
    obtain ⟨_, P0, P1, P2, P3, _⟩ := ((KM.tail.head).self4 (.int .i64 0) (.int .i64 0) (.int .i64 0) (.int .i64 0)).four
    have HB := ((((KM.hb.setCell (p := ⟨w.heap.size + 1, 0, none⟩) (by show _ ≤ w.heap.size + 1; omega) (.int .i64 0)).setCell (p := ⟨w.heap.size + 1, 1, none⟩) (by show _ ≤ w.heap.size + 1; omega) (.int .i64 0)).setCell (p := ⟨w.heap.size + 1, 2, none⟩) (by show _ ≤ w.heap.size + 1; omega) (.int .i64 0)).setCell (p := ⟨w.heap.size + 1, 3, none⟩) (by show _ ≤ w.heap.size + 1; omega) (.int .i64 0))
    exact bodyPost_ret (v := .tuple #[.agg #[.int .i64 0, .int .i64 0, .int .i64 0, .int .i64 0], .int .i64 1, .int .i64 0]) (by simp [results, Tryd.results21, go_sem, P0, P1, P2, P3]) rfl ⟨rfl, HB⟩
set_option maxRecDepth 100000 in
set_option maxHeartbeats 8000000 in
theorem roundT_yes (h m s n ic mo nn K P x0 x1 x2 x3 : Int) (RI : Hid (∀ W, Calls Tryd.prog 10 #[.agg #[.int .i64 (h), .int .i64 (m), .int .i64 (s), .int .i64 (n)]] W (fun e w' => e = .returned (.bool true) ∧ Below W.heap.size W w'))) (h1 : ¬ ic < 1) (h2 : ¬ 86400000000000 < ic) (h3 : ((86400000000000 : Int) % ic != 0) = false) (NA : Hid (∀ W, Calls Tryd.prog 12 #[.agg #[.int .i64 (h), .int .i64 (m), .int .i64 (s), .int .i64 (n)]] W (fun e w' => e = .returned (.int .i64 nn) ∧ Below W.heap.size W w'))) (ON : Hid (∀ W, Calls Tryd.prog 34 #[.int .i64 (nn)] W (RetZ W (nn)))) (sn : Hid ((nn).natAbs < 65536 ^ 9)) (OI : Hid (∀ W, Calls Tryd.prog 34 #[.int .i64 (ic)] W (RetZ W (ic)))) (si : Hid ((ic).natAbs < 65536 ^ 9)) (NE : Hid (∀ (p q : Bool) (A B : Option Addr) (n m c d : Nat) (W : World), Zs W p A n c (nn) → Zs W q B m d (ic) → Calls Tryd.prog 39 #[.agg #[.bool p, .slice A n c], .agg #[.bool q, .slice B m d], .int .i64 mo] W (RetNB W (K)))) (sk : Hid ((K).natAbs < 65536 ^ 9)) (MU : Hid (∀ (p q : Bool) (A B : Option Addr) (n m c d : Nat) (W : World), Zs W p A n c (K) → Zs W q B m d (ic) → n ≤ 400000 → m ≤ 400000 → Calls Tryd.prog 40 #[.agg #[.bool p, .slice A n c], .agg #[.bool q, .slice B m d]] W (RetZ W (P)))) (sp : Hid ((P).natAbs < 65536 ^ 20)) (FR : Hid (∀ (p : Bool) (A : Option Addr) (n c : Nat) (W : World), Zs W p A n c (P) → n ≤ 900000 → Calls Tryd.prog 37 #[.agg #[.bool p, .slice A n c]] W (fun e w' => e = .returned (.tuple #[.int .i64 (P), .bool true]) ∧ Below W.heap.size W w'))) (hp : (P == 86400000000000) = false) (TO : Hid (∀ W, Calls Tryd.prog 13 #[.int .i64 P] W (fun e w' => e = .returned (.agg #[.int .i64 (x0), .int .i64 (x1), .int .i64 (x2), .int .i64 (x3)]) ∧ Below W.heap.size W w'))) (w : World) :
    Calls Tryd.prog 21 #[.agg #[.int .i64 (h), .int .i64 (m), .int .i64 (s), .int .i64 (n)], .int .i64 ic, .int .i64 mo] w (RetTNE w x0 x1 x2 x3 0 0) := by
  have hp' : ¬ P = 86400000000000 := by rw [beq_eq_false_iff_ne] at hp; exact hp
  have i0 : ¬ ic = 0 := by omega
  have i1 : (ic == 0) = false := by rw [beq_eq_false_iff_ne]; exact i0
  go_enter Tryd.func21, Tryd.ntmps21
  go_upto_region 1 with (fail)
  have KM := (((BM.nil w).more4 (.int .i64 (h)) (.int .i64 (m)) (.int .i64 (s)) (.int .i64 (n)) 23).more4 (.int .i64 0) (.int .i64 0) (.int .i64 0) (.int .i64 0) 23)
  try simp only [World.size_alloc] at KM
  generalize ((w.alloc (.cells #[.int .i64 (h), .int .i64 (m), .int .i64 (s), .int .i64 (n)] 23)).alloc (.cells #[.int .i64 0, .int .i64 0, .int .i64 0, .int .i64 0] 23)) = w0 at *
  obtain ⟨_, aa, ab, ac, ad, _⟩ := (KM.tail.head).four
  go_wp2_with fail
  clear aa ab ac ad
  refine (RI.out _).mono ?_
  rintro e w1 ⟨rfl, k⟩
  replace KM := KM.below k
  clear k
  go_upto_region 3 with (fail)
  obtain ⟨_, aa, ab, ac, ad, _⟩ := (KM.tail.head).four
  go_wp2_with fail
  clear aa ab ac ad
  refine (NA.out _).mono ?_
  rintro e w2 ⟨rfl, k⟩
  replace KM := KM.below k
  clear k
  go_wp2_with fail
  refine (ON.out _).mono ?_
  rintro e w3 ⟨p3, A3, n3, c3, rfl, z3, k⟩
  have l3 := z3.small sn.out
  replace KM := (KM.below k).ncons z3
  clear k z3
  go_wp2_with fail
  refine (OI.out _).mono ?_
  rintro e w4 ⟨p4, A4, n4, c4, rfl, z4, k⟩
  have l4 := z4.small si.out
  replace KM := (KM.below k).ncons z4
  clear k z4
  go_wp2_with fail
  refine (NE.out _ _ _ _ _ _ _ _ _ KM.nt.num KM.num).mono ?_
  rintro e w5 ⟨p5, A5, n5, c5, rfl, z5, k⟩
  have l5 := z5.small sk.out
  replace KM := (KM.below k).ncons z5
  clear k z5
  go_upto_region 4 with (fail)
  have hlg := KM.head.lt
  replace KM := KM.more2 (.bool p5) (.slice A5 n5 c5) 64
  generalize w5.alloc (.cells #[.bool p5, .slice A5 n5 c5] 64) = w6 at *
  have ig0 : w5.heap.size ≠ w.heap.size + 1 := by omega
  have ig1 : w5.heap.size ≠ w.heap.size := by omega
  generalize w5.heap.size = g at *
  go_upto_region 6 with (fail)
  obtain ⟨_, jaa, jab, _⟩ := (KM.head).two
  go_region_held3 (fun w' => w'.cell? ⟨g, 0, none⟩ = some (.bool p5) ∧ w'.cell? ⟨g, 1, none⟩ = some (.slice A5 n5 c5)) (first | (with_reducible exact ⟨(KM.head).two.2.1, (KM.head).two.2.2.1⟩) | (with_reducible exact ⟨(KM.drew.head).two.2.1, (KM.drew.head).two.2.2.1⟩) | go_keep)
    (first
      | (go_at_call 34; (with_reducible refine (OI.out _).mono ?_); rintro e W11 ⟨p11, A11, n11, c11, rfl, z11, k⟩
         have l11 := z11.small si.out
         with_reducible (first | replace KM := KM.below k | replace KM := KM.drew.below k)
         clear k
         obtain ⟨_, kka, kkb, _⟩ := (KM.head).two)
      | (go_at_call 40; (with_reducible refine (MU.out p5 p11 A5 A11 n5 n11 c5 c11 _ (by with_reducible first | exact KM.num | exact KM.drew.num) (by with_reducible first | exact z11 | exact (z11.below (below_box _ _)) | exact z11.drew | exact (z11.below (below_box _ _)).drew | exact ((z11.below (below_box _ _)).below (below_box _ _)) | exact ((z11.below (below_box _ _)).below (below_box _ _)).drew) (by omega) (by omega)).mono ?_); rintro e W12 ⟨p12, A12, n12, c12, rfl, z12, k⟩
         have l12 := z12.small sp.out
         with_reducible (first | replace KM := KM.below k | replace KM := KM.drew.below k)
         clear k
         obtain ⟨_, kka, kkb, _⟩ := (KM.head).two)
      | (go_at_call 37; (with_reducible refine (FR.out p12 A12 n12 c12 _ (by with_reducible first | exact z12 | exact (z12.below (below_box _ _)) | exact z12.drew | exact (z12.below (below_box _ _)).drew | exact ((z12.below (below_box _ _)).below (below_box _ _)) | exact ((z12.below (below_box _ _)).below (below_box _ _)).drew) (by omega)).mono ?_); rintro e W13 ⟨rfl, k⟩
         with_reducible (first | replace KM := KM.below k | replace KM := KM.drew.below k)
         clear k
         obtain ⟨_, kka, kkb, _⟩ := (KM.head).two))
  all_goals
    go_wp2_with fail
    refine (TO.out _).mono ?_
    rintro e w7 ⟨rfl, k⟩
    replace KM := KM.below k
    clear k
    obtain ⟨_, r0, r1, r2, r3, f0, f1, f2, f3⟩ := (KM.tail.head).four
    go_wp2
    obtain ⟨_, P0, P1, P2, P3, _⟩ := ((KM.tail.head).self4 (.int .i64 (x0)) (.int .i64 (x1)) (.int .i64 (x2)) (.int .i64 (x3))).four
    have HB := ((((KM.hb.setCell (p := ⟨w.heap.size + 1, 0, none⟩) (by show _ ≤ w.heap.size + 1; omega) (.int .i64 (x0))).setCell (p := ⟨w.heap.size + 1, 1, none⟩) (by show _ ≤ w.heap.size + 1; omega) (.int .i64 (x1))).setCell (p := ⟨w.heap.size + 1, 2, none⟩) (by show _ ≤ w.heap.size + 1; omega) (.int .i64 (x2))).setCell (p := ⟨w.heap.size + 1, 3, none⟩) (by show _ ≤ w.heap.size + 1; omega) (.int .i64 (x3)))
    exact bodyPost_ret (v := .tuple #[.agg #[.int .i64 (x0), .int .i64 (x1), .int .i64 (x2), .int .i64 (x3)], .int .i64 0, .int .i64 0]) (by simp [results, Tryd.results21, go_sem, P0, P1, P2, P3]) rfl ⟨rfl, HB⟩
end Go.Proofs.YteggdabnhdjfcaaDoor

/- The document's answer of layer 6, whole: nanoseconds added to a time, a time rounded. -/
namespace Go.Proofs.YteggdabnhdjfcaaDoor
open Go.RowKit

theorem day_small : (86400000000000 : Int).natAbs < 65536 ^ 9 := small_w (inW_of_64 (by decide))
theorem dayR (w : World) : Calls Tryd.prog 36 #[] w (RetZ w 86400000000000) := dayT (Lib.hid fun W => of_any _ (by decide) (by decide) W) (Lib.hid day_small) w
theorem rightT_yes {h m s n : Int} (k : okT h m s n) (W : World) : Calls Tryd.prog 10 #[.agg #[.int .i64 (h), .int .i64 (m), .int .i64 (s), .int .i64 (n)]] W (fun e w' => e = .returned (.bool true) ∧ Below W.heap.size W w') := by
  have c := rightT h m s n W
  rw [decide_eq_true k] at c
  exact c.mono fun _ _ ⟨h1, h2⟩ => ⟨h1, h2⟩
theorem rightT_no {h m s n : Int} (k : ¬ okT h m s n) (W : World) : Calls Tryd.prog 10 #[.agg #[.int .i64 (h), .int .i64 (m), .int .i64 (s), .int .i64 (n)]] W (fun e w' => e = .returned (.bool false) ∧ Below W.heap.size W w') := by
  have c := rightT h m s n W
  rw [decide_eq_false k] at c
  exact c.mono fun _ _ ⟨h1, h2⟩ => ⟨h1, h2⟩
theorem addTR_bad {h m s n : Int} (a : Int) (k : ¬ okT h m s n) (w : World) : Calls Tryd.prog 19 #[.agg #[.int .i64 (h), .int .i64 (m), .int .i64 (s), .int .i64 (n)], .agg #[.int .i64 (hiW a), .int .u64 (loW a)]] w (RetTNE w 0 0 0 0 0 1) := addT_arg h m s n a (Lib.hid fun W => rightT_no k W) w
theorem add_small {x a : Int} (x0 : 0 ≤ x) (x1 : x < 86400000000000) (ha : InW a) : (x + a).natAbs < 65536 ^ 9 := by
  have := abs_w ha
  exact small_2w (by omega)
theorem addTR_over {h m s n a : Int} (k : okT h m s n) (ha : InW a) (ho : ¬ In64 ((numT h m s n + a) / 86400000000000)) (w : World) : Calls Tryd.prog 19 #[.agg #[.int .i64 (h), .int .i64 (m), .int .i64 (s), .int .i64 (n)], .agg #[.int .i64 (hiW a), .int .u64 (loW a)]] w (RetTNE w 0 0 0 0 0 2) := by
  obtain ⟨x0, x1⟩ := numT_range k
  have nw : InW (numT h m s n) := inW_of_64 (by unfold In64; omega)
  obtain ⟨e1, e2⟩ := floor_parts (n := numT h m s n + a) (d := 86400000000000) (by decide)
  have sg := add_small x0 x1 ha
  refine addT_over h m s n a _ (numT h m s n + a) ((numT h m s n + a) / 86400000000000) ((numT h m s n + a) % 86400000000000) (Lib.hid fun W => rightT_yes k W) (Lib.hid fun W => (nanosT h m s n k W).mono fun _ _ ⟨h1, h2⟩ => ⟨h1, h2⟩)
    (Lib.hid fun W => of_any _ (by omega) (by omega) W) (Lib.hid (small_w nw)) (Lib.hid fun W => wof_z a ha W) (Lib.hid (small_w ha)) (Lib.hid fun p q A B n m c d W h1 h2 h3 h4 => add_any p q A B n m c d _ _ W h1 h2 h3 h4) (Lib.hid sg)
    (Lib.hid fun W => dayR W) (Lib.hid day_small) (Lib.hid fun p q A B n m c d W h1 h2 h3 h4 => by have := div_any p q A B n m c d _ _ W h1 h2 h3 h4 (by decide); rwa [e1, e2] at this)
    (Lib.hid (by rw [← e1]; exact quot_small sg (by decide))) (Lib.hid (by rw [← e2]; exact rest_small day_small (by decide))) (Lib.hid fun p A n' c W h1 h2 => ?_) w
  by_cases g : two63 ≤ (numT h m s n + a) / 86400000000000
  · exact (fits_great p A n' c _ W h1 h2 g).mono fun _ _ ⟨h1, h2⟩ => ⟨h1, h2⟩
  · exact (fits_less p A n' c _ W h1 h2 (by unfold In64 at ho; unfold two63 at *; omega)).mono fun _ _ ⟨h1, h2⟩ => ⟨h1, h2⟩
theorem addTR {h m s n a x0 x1 x2 x3 : Int} (k : okT h m s n) (ha : InW a) (ho : In64 ((numT h m s n + a) / 86400000000000)) (hx : okT x0 x1 x2 x3) (e : numT x0 x1 x2 x3 = (numT h m s n + a) % 86400000000000) (w : World) :
    Calls Tryd.prog 19 #[.agg #[.int .i64 (h), .int .i64 (m), .int .i64 (s), .int .i64 (n)], .agg #[.int .i64 (hiW a), .int .u64 (loW a)]] w (RetTNE w x0 x1 x2 x3 ((numT h m s n + a) / 86400000000000) 0) := by
  obtain ⟨y0, y1⟩ := numT_range k
  have nw : InW (numT h m s n) := inW_of_64 (by unfold In64; omega)
  obtain ⟨e1, e2⟩ := floor_parts (n := numT h m s n + a) (d := 86400000000000) (by decide)
  have sg := add_small y0 y1 ha
  exact addT_yes h m s n a _ (numT h m s n + a) ((numT h m s n + a) / 86400000000000) ((numT h m s n + a) % 86400000000000) _ x0 x1 x2 x3 (Lib.hid fun W => rightT_yes k W) (Lib.hid fun W => (nanosT h m s n k W).mono fun _ _ ⟨h1, h2⟩ => ⟨h1, h2⟩)
    (Lib.hid fun W => of_any _ (by omega) (by omega) W) (Lib.hid (small_w nw)) (Lib.hid fun W => wof_z a ha W) (Lib.hid (small_w ha)) (Lib.hid fun p q A B n m c d W h1 h2 h3 h4 => add_any p q A B n m c d _ _ W h1 h2 h3 h4) (Lib.hid sg)
    (Lib.hid fun W => dayR W) (Lib.hid day_small) (Lib.hid fun p q A B n m c d W h1 h2 h3 h4 => by have := div_any p q A B n m c d _ _ W h1 h2 h3 h4 (by decide); rwa [e1, e2] at this)
    (Lib.hid (by rw [← e1]; exact quot_small sg (by decide))) (Lib.hid (by rw [← e2]; exact rest_small day_small (by decide)))
    (Lib.hid fun p A n c W h1 h2 => fits_yes p A n c _ W h1 h2 (by unfold two63; unfold In64 at ho; omega) (by unfold two63; unfold In64 at ho; omega))
    (Lib.hid fun p A n c W h1 h2 => fits_yes p A n c _ W h1 h2 (by unfold two63; omega) (by unfold two63; omega)) (Lib.hid fun W => ofT x0 x1 x2 x3 hx _ e W) w
/-- what a time's number becomes -/
def rndT (x ic mo : Int) : Int := nearZ x ic mo * ic
theorem rnd_range {x ic mo : Int} (x0 : 0 ≤ x) (x1 : x < 86400000000000) (i0 : 0 < ic) (hd : (86400000000000 : Int) % ic = 0) : 0 ≤ rndT x ic mo ∧ rndT x ic mo ≤ 86400000000000 := by
  obtain ⟨q, hq⟩ : ∃ q : Int, (86400000000000 : Int) = q * ic := ⟨86400000000000 / ic, (Int.ediv_mul_cancel (Int.dvd_of_emod_eq_zero hd)).symm⟩
  have l1 : 0 ≤ x / ic := Int.ediv_nonneg x0 (by omega)
  have l2 : x / ic + 1 ≤ q := by
    have := Int.ediv_lt_of_lt_mul i0 (show x < q * ic by omega)
    omega
  have key : 0 ≤ nearZ x ic mo ∧ nearZ x ic mo ≤ q := by
    rcases near_two (n := x) (d := ic) (m := mo) with k | ⟨k, _⟩ <;> rw [k] <;> omega
  unfold rndT
  exact ⟨Int.mul_nonneg key.1 (by omega), by rw [hq]; exact Int.mul_le_mul_of_nonneg_right key.2 (by omega)⟩
theorem roundTR_bad {h m s n ic mo : Int} (b : ¬ okT h m s n ∨ ic < 1 ∨ 86400000000000 < ic ∨ (86400000000000 : Int) % ic ≠ 0 ∨ mo < 1 ∨ 9 < mo) (w : World) :
    Calls Tryd.prog 21 #[.agg #[.int .i64 (h), .int .i64 (m), .int .i64 (s), .int .i64 (n)], .int .i64 ic, .int .i64 mo] w (RetTNE w 0 0 0 0 0 1) := by
  by_cases k : okT h m s n
  · have RI := Lib.hid fun W => rightT_yes k W
    by_cases h1 : ic < 1
    · exact roundT_less h m s n ic mo RI h1 w
    by_cases h2 : 86400000000000 < ic
    · exact roundT_more h m s n ic mo RI h1 h2 w
    by_cases h3 : (86400000000000 : Int) % ic = 0
    · obtain ⟨x0, x1⟩ := numT_range k
      have nw : InW (numT h m s n) := inW_of_64 (by unfold In64; omega)
      have iw : InW ic := inW_of_64 (by unfold In64; omega)
      have mm : mo < 1 ∨ 9 < mo := by
        rcases b with b | b | b | b | b | b
        · exact absurd k b
        · omega
        · omega
        · exact absurd h3 b
        · exact .inl b
        · exact .inr b
      exact roundT_mode h m s n ic mo _ RI h1 h2 (by rw [bne_eq_false_iff_eq]; exact h3) (Lib.hid fun W => (nanosT h m s n k W).mono fun _ _ ⟨h1, h2⟩ => ⟨h1, h2⟩) (Lib.hid fun W => of_any _ (by omega) (by omega) W) (Lib.hid (small_w nw))
        (Lib.hid fun W => of_any _ (by omega) (by omega) W) (Lib.hid (small_w iw)) (Lib.hid fun p q A B n m c d W => near_none p q A B n m c d mo mm W) w
    · exact roundT_part h m s n ic mo RI h1 h2 (by rw [bne_iff_ne]; exact h3) w
  · exact roundT_arg h m s n ic mo (Lib.hid fun W => rightT_no k W) w
theorem rnd_small {x ic mo : Int} (x0 : 0 ≤ x) (x1 : x < 86400000000000) (i0 : 0 < ic) (hd : (86400000000000 : Int) % ic = 0) : (nearZ x ic mo).natAbs < 65536 ^ 9 ∧ (rndT x ic mo).natAbs < 65536 ^ 20 := by
  have nl := near_le (x := x) (y := ic) (m := mo) i0
  have r := rnd_range (mo := mo) x0 x1 i0 hd
  refine ⟨small_2w (by omega), Nat.lt_of_lt_of_le (small_w (z := rndT x ic mo) (inW_of_64 (by unfold In64; omega))) (Nat.pow_le_pow_right (by decide) (by decide))⟩
theorem roundTR_day {h m s n ic mo : Int} (k : okT h m s n) (h1 : ¬ ic < 1) (h2 : ¬ 86400000000000 < ic) (h3 : (86400000000000 : Int) % ic = 0) (m1 : 1 ≤ mo) (m9 : mo ≤ 9) (e : rndT (numT h m s n) ic mo = 86400000000000) (w : World) :
    Calls Tryd.prog 21 #[.agg #[.int .i64 (h), .int .i64 (m), .int .i64 (s), .int .i64 (n)], .int .i64 ic, .int .i64 mo] w (RetTNE w 0 0 0 0 1 0) := by
  obtain ⟨x0, x1⟩ := numT_range k
  have nw : InW (numT h m s n) := inW_of_64 (by unfold In64; omega)
  have iw : InW ic := inW_of_64 (by unfold In64; omega)
  obtain ⟨sk, sp⟩ := rnd_small (mo := mo) x0 x1 (by omega) h3
  have r := rnd_range (mo := mo) x0 x1 (by omega) h3
  exact roundT_day h m s n ic mo _ _ (rndT (numT h m s n) ic mo) (Lib.hid fun W => rightT_yes k W) h1 h2 (by rw [bne_eq_false_iff_eq]; exact h3) (Lib.hid fun W => (nanosT h m s n k W).mono fun _ _ ⟨h1, h2⟩ => ⟨h1, h2⟩) (Lib.hid fun W => of_any _ (by omega) (by omega) W) (Lib.hid (small_w nw))
    (Lib.hid fun W => of_any _ (by omega) (by omega) W) (Lib.hid (small_w iw)) (Lib.hid fun p q A B n m c d W h1 h2 => near_any p q A B n m c d _ _ mo (by omega) m1 m9 (small_w nw) (small_w iw) W h1 h2) (Lib.hid sk)
    (Lib.hid fun p q A B n m c d W h1 h2 h3 h4 => mul_any p q A B n m c d _ _ W h1 h2 h3 h4) (Lib.hid sp) (Lib.hid fun p A n c W h1 h2 => fits_yes p A n c _ W h1 h2 (by unfold two63; omega) (by unfold two63; omega)) e w
theorem roundTR {h m s n ic mo x0 x1 x2 x3 : Int} (k : okT h m s n) (h1 : ¬ ic < 1) (h2 : ¬ 86400000000000 < ic) (h3 : (86400000000000 : Int) % ic = 0) (m1 : 1 ≤ mo) (m9 : mo ≤ 9) (hx : okT x0 x1 x2 x3) (e : numT x0 x1 x2 x3 = rndT (numT h m s n) ic mo) (w : World) :
    Calls Tryd.prog 21 #[.agg #[.int .i64 (h), .int .i64 (m), .int .i64 (s), .int .i64 (n)], .int .i64 ic, .int .i64 mo] w (RetTNE w x0 x1 x2 x3 0 0) := by
  obtain ⟨y0, y1⟩ := numT_range k
  have nw : InW (numT h m s n) := inW_of_64 (by unfold In64; omega)
  have iw : InW ic := inW_of_64 (by unfold In64; omega)
  obtain ⟨sk, sp⟩ := rnd_small (mo := mo) y0 y1 (by omega) h3
  have r := numT_range hx
  rw [e] at r
  exact roundT_yes h m s n ic mo _ _ (rndT (numT h m s n) ic mo) x0 x1 x2 x3 (Lib.hid fun W => rightT_yes k W) h1 h2 (by rw [bne_eq_false_iff_eq]; exact h3) (Lib.hid fun W => (nanosT h m s n k W).mono fun _ _ ⟨h1, h2⟩ => ⟨h1, h2⟩) (Lib.hid fun W => of_any _ (by omega) (by omega) W) (Lib.hid (small_w nw))
    (Lib.hid fun W => of_any _ (by omega) (by omega) W) (Lib.hid (small_w iw)) (Lib.hid fun p q A B n m c d W h1 h2 => near_any p q A B n m c d _ _ mo (by omega) m1 m9 (small_w nw) (small_w iw) W h1 h2) (Lib.hid sk)
    (Lib.hid fun p q A B n m c d W h1 h2 h3 h4 => mul_any p q A B n m c d _ _ W h1 h2 h3 h4) (Lib.hid sp) (Lib.hid fun p A n c W h1 h2 => fits_yes p A n c _ W h1 h2 (by unfold two63; omega) (by unfold two63; omega)) (by rw [beq_eq_false_iff_ne]; omega) (Lib.hid fun W => ofT x0 x1 x2 x3 hx _ e W) w
end Go.Proofs.YteggdabnhdjfcaaDoor
