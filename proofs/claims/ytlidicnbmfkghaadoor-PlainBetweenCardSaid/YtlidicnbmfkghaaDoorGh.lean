import Derived.IntWalk
import Derived.Test.YtlidicnbmfkghaaDoorGm
import Derived.Test.YtlidicnbmfkghaaDoorGa
import Derived.LoopTactic
import Derived.Outline
import Derived.Test.YtlidicnbmfkghaaDoorGs
import Derived.Deep.RegionHeld3
import Derived.Test.YtlidicnbmfkghaaDoorGw
/- Times of the day, as numbers. No program here. -/
namespace Go.Proofs.YtlidicnbmfkghaaDoor

def okT (h m s n : Int) : Prop := (0 ≤ h ∧ h < 24) ∧ (0 ≤ m ∧ m < 60) ∧ (0 ≤ s ∧ s < 60) ∧ 0 ≤ n ∧ n < 1000000000
instance (h m s n : Int) : Decidable (okT h m s n) := by unfold okT; infer_instance
def numT (h m s n : Int) : Int := h * 3600000000000 + m * 60000000000 + s * 1000000000 + n
theorem numT_range {h m s n : Int} (k : okT h m s n) : 0 ≤ numT h m s n ∧ numT h m s n < 86400000000000 := by
  obtain ⟨⟨h1, h2⟩, ⟨h3, h4⟩, ⟨h5, h6⟩, h7, h8⟩ := k; unfold numT; omega
theorem numT_inj {h m s n h' m' s' n' : Int} (k : okT h m s n) (k' : okT h' m' s' n') (e : numT h m s n = numT h' m' s' n') : h = h' ∧ m = m' ∧ s = s' ∧ n = n' := by
  obtain ⟨⟨h1, h2⟩, ⟨h3, h4⟩, ⟨h5, h6⟩, h7, h8⟩ := k
  obtain ⟨⟨g1, g2⟩, ⟨g3, g4⟩, ⟨g5, g6⟩, g7, g8⟩ := k'
  unfold numT at e; omega
theorem time_of {n : Int} (h0 : 0 ≤ n) (h1 : n < 86400000000000) : ∃ h m s k : Int, okT h m s k ∧ numT h m s k = n :=
  ⟨n / 3600000000000, n % 3600000000000 / 60000000000, n % 60000000000 / 1000000000, n % 1000000000, by unfold okT; omega, by unfold numT; omega⟩
/-- which of two times is ahead -/
def cmpT (h m s n h' m' s' n' : Int) : Int :=
  if h < h' then -1 else if h' < h then 1 else if m < m' then -1 else if m' < m then 1 else if s < s' then -1 else if s' < s then 1 else if n < n' then -1 else if n' < n then 1 else 0
/-- the nearest one up to most -/
def nearT (n k : Int) : Int := if n < 0 then 0 else if k < n then k else n
end Go.Proofs.YtlidicnbmfkghaaDoor

/- The document's answer of layer 6: right times, their numbers, the times of numbers, fields made right, times held against one another. -/
namespace Go.Proofs.YtlidicnbmfkghaaDoor
open Go.RowKit

set_option maxRecDepth 100000 in
set_option maxHeartbeats 4000000 in
theorem rightT0 (h m s n : Int)  (t0 : ¬ 0 ≤ h) (w : World) :
    Calls Tryd.prog 33 #[.agg #[.int .i64 (h), .int .i64 (m), .int .i64 (s), .int .i64 (n)]] w (RetV w (.bool false)) := by
  have g0 : decide (0 ≤ h) = false := decide_eq_false t0
  have KB := (BK.nil w).more4 (.int .i64 (h)) (.int .i64 (m)) (.int .i64 (s)) (.int .i64 (n)) 25
  go_enter Tryd.func33, Tryd.ntmps33
  go_upto_region 1 with (fail)
  generalize w.alloc (.cells #[.int .i64 (h), .int .i64 (m), .int .i64 (s), .int .i64 (n)] 25) = w0 at *
  obtain ⟨_, a0, a1, a2, a3, _⟩ := KB.head.four
  have HB := KB.hb
  go_wp2
  go_ret
  exact ⟨rfl, HB⟩
set_option maxRecDepth 100000 in
set_option maxHeartbeats 4000000 in
theorem rightT1 (h m s n : Int) (t0 : 0 ≤ h) (t1 : ¬ h < 24) (w : World) :
    Calls Tryd.prog 33 #[.agg #[.int .i64 (h), .int .i64 (m), .int .i64 (s), .int .i64 (n)]] w (RetV w (.bool false)) := by
  have g0 : decide (0 ≤ h) = true := decide_eq_true t0
  have g1 : decide (h < 24) = false := decide_eq_false t1
  have KB := (BK.nil w).more4 (.int .i64 (h)) (.int .i64 (m)) (.int .i64 (s)) (.int .i64 (n)) 25
  go_enter Tryd.func33, Tryd.ntmps33
  go_upto_region 1 with (fail)
  generalize w.alloc (.cells #[.int .i64 (h), .int .i64 (m), .int .i64 (s), .int .i64 (n)] 25) = w0 at *
  obtain ⟨_, a0, a1, a2, a3, _⟩ := KB.head.four
  have HB := KB.hb
  go_wp2
  go_ret
  exact ⟨rfl, HB⟩
set_option maxRecDepth 100000 in
set_option maxHeartbeats 4000000 in
theorem rightT2 (h m s n : Int) (t0 : 0 ≤ h) (t1 : h < 24) (t2 : ¬ 0 ≤ m) (w : World) :
    Calls Tryd.prog 33 #[.agg #[.int .i64 (h), .int .i64 (m), .int .i64 (s), .int .i64 (n)]] w (RetV w (.bool false)) := by
  have g0 : decide (0 ≤ h) = true := decide_eq_true t0
  have g1 : decide (h < 24) = true := decide_eq_true t1
  have g2 : decide (0 ≤ m) = false := decide_eq_false t2
  have KB := (BK.nil w).more4 (.int .i64 (h)) (.int .i64 (m)) (.int .i64 (s)) (.int .i64 (n)) 25
  go_enter Tryd.func33, Tryd.ntmps33
  go_upto_region 1 with (fail)
  generalize w.alloc (.cells #[.int .i64 (h), .int .i64 (m), .int .i64 (s), .int .i64 (n)] 25) = w0 at *
  obtain ⟨_, a0, a1, a2, a3, _⟩ := KB.head.four
  have HB := KB.hb
  go_wp2
  go_ret
  exact ⟨rfl, HB⟩
set_option maxRecDepth 100000 in
set_option maxHeartbeats 4000000 in
theorem rightT3 (h m s n : Int) (t0 : 0 ≤ h) (t1 : h < 24) (t2 : 0 ≤ m) (t3 : ¬ m < 60) (w : World) :
    Calls Tryd.prog 33 #[.agg #[.int .i64 (h), .int .i64 (m), .int .i64 (s), .int .i64 (n)]] w (RetV w (.bool false)) := by
  have g0 : decide (0 ≤ h) = true := decide_eq_true t0
  have g1 : decide (h < 24) = true := decide_eq_true t1
  have g2 : decide (0 ≤ m) = true := decide_eq_true t2
  have g3 : decide (m < 60) = false := decide_eq_false t3
  have KB := (BK.nil w).more4 (.int .i64 (h)) (.int .i64 (m)) (.int .i64 (s)) (.int .i64 (n)) 25
  go_enter Tryd.func33, Tryd.ntmps33
  go_upto_region 1 with (fail)
  generalize w.alloc (.cells #[.int .i64 (h), .int .i64 (m), .int .i64 (s), .int .i64 (n)] 25) = w0 at *
  obtain ⟨_, a0, a1, a2, a3, _⟩ := KB.head.four
  have HB := KB.hb
  go_wp2
  go_ret
  exact ⟨rfl, HB⟩
set_option maxRecDepth 100000 in
set_option maxHeartbeats 4000000 in
theorem rightT4 (h m s n : Int) (t0 : 0 ≤ h) (t1 : h < 24) (t2 : 0 ≤ m) (t3 : m < 60) (t4 : ¬ 0 ≤ s) (w : World) :
    Calls Tryd.prog 33 #[.agg #[.int .i64 (h), .int .i64 (m), .int .i64 (s), .int .i64 (n)]] w (RetV w (.bool false)) := by
  have g0 : decide (0 ≤ h) = true := decide_eq_true t0
  have g1 : decide (h < 24) = true := decide_eq_true t1
  have g2 : decide (0 ≤ m) = true := decide_eq_true t2
  have g3 : decide (m < 60) = true := decide_eq_true t3
  have g4 : decide (0 ≤ s) = false := decide_eq_false t4
  have KB := (BK.nil w).more4 (.int .i64 (h)) (.int .i64 (m)) (.int .i64 (s)) (.int .i64 (n)) 25
  go_enter Tryd.func33, Tryd.ntmps33
  go_upto_region 1 with (fail)
  generalize w.alloc (.cells #[.int .i64 (h), .int .i64 (m), .int .i64 (s), .int .i64 (n)] 25) = w0 at *
  obtain ⟨_, a0, a1, a2, a3, _⟩ := KB.head.four
  have HB := KB.hb
  go_wp2
  go_ret
  exact ⟨rfl, HB⟩
set_option maxRecDepth 100000 in
set_option maxHeartbeats 4000000 in
theorem rightT5 (h m s n : Int) (t0 : 0 ≤ h) (t1 : h < 24) (t2 : 0 ≤ m) (t3 : m < 60) (t4 : 0 ≤ s) (t5 : ¬ s < 60) (w : World) :
    Calls Tryd.prog 33 #[.agg #[.int .i64 (h), .int .i64 (m), .int .i64 (s), .int .i64 (n)]] w (RetV w (.bool false)) := by
  have g0 : decide (0 ≤ h) = true := decide_eq_true t0
  have g1 : decide (h < 24) = true := decide_eq_true t1
  have g2 : decide (0 ≤ m) = true := decide_eq_true t2
  have g3 : decide (m < 60) = true := decide_eq_true t3
  have g4 : decide (0 ≤ s) = true := decide_eq_true t4
  have g5 : decide (s < 60) = false := decide_eq_false t5
  have KB := (BK.nil w).more4 (.int .i64 (h)) (.int .i64 (m)) (.int .i64 (s)) (.int .i64 (n)) 25
  go_enter Tryd.func33, Tryd.ntmps33
  go_upto_region 1 with (fail)
  generalize w.alloc (.cells #[.int .i64 (h), .int .i64 (m), .int .i64 (s), .int .i64 (n)] 25) = w0 at *
  obtain ⟨_, a0, a1, a2, a3, _⟩ := KB.head.four
  have HB := KB.hb
  go_wp2
  go_ret
  exact ⟨rfl, HB⟩
set_option maxRecDepth 100000 in
set_option maxHeartbeats 4000000 in
theorem rightT6 (h m s n : Int) (t0 : 0 ≤ h) (t1 : h < 24) (t2 : 0 ≤ m) (t3 : m < 60) (t4 : 0 ≤ s) (t5 : s < 60) (t6 : ¬ 0 ≤ n) (w : World) :
    Calls Tryd.prog 33 #[.agg #[.int .i64 (h), .int .i64 (m), .int .i64 (s), .int .i64 (n)]] w (RetV w (.bool false)) := by
  have g0 : decide (0 ≤ h) = true := decide_eq_true t0
  have g1 : decide (h < 24) = true := decide_eq_true t1
  have g2 : decide (0 ≤ m) = true := decide_eq_true t2
  have g3 : decide (m < 60) = true := decide_eq_true t3
  have g4 : decide (0 ≤ s) = true := decide_eq_true t4
  have g5 : decide (s < 60) = true := decide_eq_true t5
  have g6 : decide (0 ≤ n) = false := decide_eq_false t6
  have KB := (BK.nil w).more4 (.int .i64 (h)) (.int .i64 (m)) (.int .i64 (s)) (.int .i64 (n)) 25
  go_enter Tryd.func33, Tryd.ntmps33
  go_upto_region 1 with (fail)
  generalize w.alloc (.cells #[.int .i64 (h), .int .i64 (m), .int .i64 (s), .int .i64 (n)] 25) = w0 at *
  obtain ⟨_, a0, a1, a2, a3, _⟩ := KB.head.four
  have HB := KB.hb
  go_wp2
  go_ret
  exact ⟨rfl, HB⟩
set_option maxRecDepth 100000 in
set_option maxHeartbeats 4000000 in
theorem rightT7 (h m s n : Int) (t0 : 0 ≤ h) (t1 : h < 24) (t2 : 0 ≤ m) (t3 : m < 60) (t4 : 0 ≤ s) (t5 : s < 60) (t6 : 0 ≤ n) (t7 : ¬ n < 1000000000) (w : World) :
    Calls Tryd.prog 33 #[.agg #[.int .i64 (h), .int .i64 (m), .int .i64 (s), .int .i64 (n)]] w (RetV w (.bool false)) := by
  have g0 : decide (0 ≤ h) = true := decide_eq_true t0
  have g1 : decide (h < 24) = true := decide_eq_true t1
  have g2 : decide (0 ≤ m) = true := decide_eq_true t2
  have g3 : decide (m < 60) = true := decide_eq_true t3
  have g4 : decide (0 ≤ s) = true := decide_eq_true t4
  have g5 : decide (s < 60) = true := decide_eq_true t5
  have g6 : decide (0 ≤ n) = true := decide_eq_true t6
  have g7 : decide (n < 1000000000) = false := decide_eq_false t7
  have KB := (BK.nil w).more4 (.int .i64 (h)) (.int .i64 (m)) (.int .i64 (s)) (.int .i64 (n)) 25
  go_enter Tryd.func33, Tryd.ntmps33
  go_upto_region 1 with (fail)
  generalize w.alloc (.cells #[.int .i64 (h), .int .i64 (m), .int .i64 (s), .int .i64 (n)] 25) = w0 at *
  obtain ⟨_, a0, a1, a2, a3, _⟩ := KB.head.four
  have HB := KB.hb
  go_wp2
  go_ret
  exact ⟨rfl, HB⟩
set_option maxRecDepth 100000 in
set_option maxHeartbeats 4000000 in
theorem rightT8 (h m s n : Int) (t0 : 0 ≤ h) (t1 : h < 24) (t2 : 0 ≤ m) (t3 : m < 60) (t4 : 0 ≤ s) (t5 : s < 60) (t6 : 0 ≤ n) (t7 : n < 1000000000) (w : World) :
    Calls Tryd.prog 33 #[.agg #[.int .i64 (h), .int .i64 (m), .int .i64 (s), .int .i64 (n)]] w (RetV w (.bool true)) := by
  have g0 : decide (0 ≤ h) = true := decide_eq_true t0
  have g1 : decide (h < 24) = true := decide_eq_true t1
  have g2 : decide (0 ≤ m) = true := decide_eq_true t2
  have g3 : decide (m < 60) = true := decide_eq_true t3
  have g4 : decide (0 ≤ s) = true := decide_eq_true t4
  have g5 : decide (s < 60) = true := decide_eq_true t5
  have g6 : decide (0 ≤ n) = true := decide_eq_true t6
  have g7 : decide (n < 1000000000) = true := decide_eq_true t7
  have KB := (BK.nil w).more4 (.int .i64 (h)) (.int .i64 (m)) (.int .i64 (s)) (.int .i64 (n)) 25
  go_enter Tryd.func33, Tryd.ntmps33
  go_upto_region 1 with (fail)
  generalize w.alloc (.cells #[.int .i64 (h), .int .i64 (m), .int .i64 (s), .int .i64 (n)] 25) = w0 at *
  obtain ⟨_, a0, a1, a2, a3, _⟩ := KB.head.four
  have HB := KB.hb
  go_wp2
  go_ret
  exact ⟨rfl, HB⟩
theorem rightT (h m s n : Int) (w : World) : Calls Tryd.prog 33 #[.agg #[.int .i64 (h), .int .i64 (m), .int .i64 (s), .int .i64 (n)]] w (RetV w (.bool (decide (okT h m s n)))) := by
  by_cases t0 : 0 ≤ h
  case neg => rw [decide_eq_false (by unfold okT; omega)]; exact rightT0 h m s n t0 w
  by_cases t1 : h < 24
  case neg => rw [decide_eq_false (by unfold okT; omega)]; exact rightT1 h m s n t0 t1 w
  by_cases t2 : 0 ≤ m
  case neg => rw [decide_eq_false (by unfold okT; omega)]; exact rightT2 h m s n t0 t1 t2 w
  by_cases t3 : m < 60
  case neg => rw [decide_eq_false (by unfold okT; omega)]; exact rightT3 h m s n t0 t1 t2 t3 w
  by_cases t4 : 0 ≤ s
  case neg => rw [decide_eq_false (by unfold okT; omega)]; exact rightT4 h m s n t0 t1 t2 t3 t4 w
  by_cases t5 : s < 60
  case neg => rw [decide_eq_false (by unfold okT; omega)]; exact rightT5 h m s n t0 t1 t2 t3 t4 t5 w
  by_cases t6 : 0 ≤ n
  case neg => rw [decide_eq_false (by unfold okT; omega)]; exact rightT6 h m s n t0 t1 t2 t3 t4 t5 t6 w
  by_cases t7 : n < 1000000000
  case neg => rw [decide_eq_false (by unfold okT; omega)]; exact rightT7 h m s n t0 t1 t2 t3 t4 t5 t6 t7 w
  rw [decide_eq_true (by unfold okT; omega)]; exact rightT8 h m s n t0 t1 t2 t3 t4 t5 t6 t7 w
set_option maxRecDepth 100000 in
set_option maxHeartbeats 4000000 in
theorem nanosT (h m s n : Int) (k : okT h m s n) (w : World) :
    Calls Tryd.prog 45 #[.agg #[.int .i64 (h), .int .i64 (m), .int .i64 (s), .int .i64 (n)]] w (RetV w (.int .i64 (numT h m s n))) := by
  obtain ⟨⟨k1, k2⟩, ⟨k3, k4⟩, ⟨k5, k6⟩, k7, k8⟩ := k
  unfold numT
  have KB := (BK.nil w).more4 (.int .i64 (h)) (.int .i64 (m)) (.int .i64 (s)) (.int .i64 (n)) 25
  go_enter Tryd.func45, Tryd.ntmps45
  go_upto_region 1 with (fail)
  generalize w.alloc (.cells #[.int .i64 (h), .int .i64 (m), .int .i64 (s), .int .i64 (n)] 25) = w0 at *
  obtain ⟨_, a0, a1, a2, a3, _⟩ := KB.head.four
  have HB := KB.hb
  go_wp2
  go_ret
  exact ⟨rfl, HB⟩
set_option maxRecDepth 100000 in
set_option maxHeartbeats 4000000 in
theorem ofT (h m s k : Int) (ok : okT h m s k) (n : Int) (hn : numT h m s k = n) (w : World) :
    Calls Tryd.prog 38 #[.int .i64 n] w (fun e w' => e = .returned (.agg #[.int .i64 (h), .int .i64 (m), .int .i64 (s), .int .i64 (k)]) ∧ Below w.heap.size w w') := by
  obtain ⟨⟨h1, h2⟩, ⟨m1, m2⟩, ⟨s1, s2⟩, k1, k2⟩ := ok
  unfold numT at hn
  have KB := ((BK.nil w).more4 (.int .i64 (0)) (.int .i64 (0)) (.int .i64 (0)) (.int .i64 (0)) 25).more4 (.int .i64 (0)) (.int .i64 (0)) (.int .i64 (0)) (.int .i64 (0)) 25
  rw [World.size_alloc] at KB
  go_enter Tryd.func38, Tryd.ntmps38
  go_upto_region 1 with (fail)
  go_wp2_with fail
  generalize (w.alloc (.cells #[.int .i64 (0), .int .i64 (0), .int .i64 (0), .int .i64 (0)] 25)).alloc (.cells #[.int .i64 (0), .int .i64 (0), .int .i64 (0), .int .i64 (0)] 25) = w0 at *
  go_loopw [0] (fun v0 wr => ∃ i : Int, 0 ≤ i ∧ i ≤ h ∧ v0 = .int .i64 (n - 3600000000000 * i) ∧ BK w [(w.heap.size + 1, [.int .i64 (i), .int .i64 (0), .int .i64 (0), .int .i64 (0)]), (w.heap.size, [.int .i64 (0), .int .i64 (0), .int .i64 (0), .int .i64 (0)])] wr) (fun v0 _ => (intOf v0).toNat)
  case atStart => exact ⟨0, by omega, by omega, by go_num, KB⟩
  case round =>
    clear KB
    obtain ⟨i, i1, i2, rfl, KB⟩ := hrel
    by_cases hi : i < h
    · have ge : 3600000000000 ≤ n - 3600000000000 * i := by omega
      obtain ⟨_, b0, b1, b2, b3, bf0, bf1, bf2, bf3⟩ := (KB.head).four
      have KN := KB.one 0 (.int .i64 (i + 1)) (KB.head.at0 _) (by omega) (by intro x hx; simp only [List.mem_cons, List.not_mem_nil, or_false] at hx; rcases hx with rfl; show _ ≠ _; omega)
      go_wp2_with fail
      go_roundw
      case rel => exact ⟨i + 1, by omega, by omega, by go_num, KN⟩
      case measure => simp [intOf]; omega
    · have e : i = h := by omega
      subst e
      have lt : ¬ 3600000000000 ≤ n - 3600000000000 * i := by omega
      have e1 : n - 3600000000000 * i = m * 60000000000 + s * 1000000000 + k := by omega
      generalize n - 3600000000000 * i = n1 at *
      clear hn
      go_wp2_with fail
      go_loopw [0] (fun v0 wr => ∃ j : Int, 0 ≤ j ∧ j ≤ m ∧ v0 = .int .i64 (n1 - 60000000000 * j) ∧ BK w [(w.heap.size + 1, [.int .i64 (i), .int .i64 (j), .int .i64 (0), .int .i64 (0)]), (w.heap.size, [.int .i64 (0), .int .i64 (0), .int .i64 (0), .int .i64 (0)])] wr) (fun v0 _ => (intOf v0).toNat)
      case atStart => exact ⟨0, by omega, by omega, by go_num, KB⟩
      case round =>
        clear KB
        obtain ⟨j, ja, jb, rfl, KB⟩ := hrel
        by_cases hj : j < m
        · have ge : 60000000000 ≤ n1 - 60000000000 * j := by omega
          obtain ⟨_, b0, b1, b2, b3, bf0, bf1, bf2, bf3⟩ := (KB.head).four
          have KN := KB.one 1 (.int .i64 (j + 1)) (KB.head.at1 _) (by omega) (by intro x hx; simp only [List.mem_cons, List.not_mem_nil, or_false] at hx; rcases hx with rfl; show _ ≠ _; omega)
          go_wp2_with fail
          go_roundw
          case rel => exact ⟨j + 1, by omega, by omega, by go_num, KN⟩
          case measure => simp [intOf]; omega
        · have e : j = m := by omega
          subst e
          have lt : ¬ 60000000000 ≤ n1 - 60000000000 * j := by omega
          have e2 : n1 - 60000000000 * j = s * 1000000000 + k := by omega
          generalize n1 - 60000000000 * j = n2 at *
          clear e1
          go_wp2_with fail
          go_loopw [0] (fun v0 wr => ∃ l : Int, 0 ≤ l ∧ l ≤ s ∧ v0 = .int .i64 (n2 - 1000000000 * l) ∧ BK w [(w.heap.size + 1, [.int .i64 (i), .int .i64 (j), .int .i64 (l), .int .i64 (0)]), (w.heap.size, [.int .i64 (0), .int .i64 (0), .int .i64 (0), .int .i64 (0)])] wr) (fun v0 _ => (intOf v0).toNat)
          case atStart => exact ⟨0, by omega, by omega, by go_num, KB⟩
          case round =>
            clear KB
            obtain ⟨l, la, lb, rfl, KB⟩ := hrel
            by_cases hl : l < s
            · have ge : 1000000000 ≤ n2 - 1000000000 * l := by omega
              obtain ⟨_, b0, b1, b2, b3, bf0, bf1, bf2, bf3⟩ := (KB.head).four
              have KN := KB.one 2 (.int .i64 (l + 1)) (KB.head.at2 _) (by omega) (by intro x hx; simp only [List.mem_cons, List.not_mem_nil, or_false] at hx; rcases hx with rfl; show _ ≠ _; omega)
              go_wp2_with fail
              go_roundw
              case rel => exact ⟨l + 1, by omega, by omega, by go_num, KN⟩
              case measure => simp [intOf]; omega
            · have e : l = s := by omega
              subst e
              have lt : ¬ 1000000000 ≤ n2 - 1000000000 * l := by omega
              have e3 : n2 - 1000000000 * l = k := by omega
              have E3 := Lib.hid e3
              clear e3 e2
              have n30 : 0 ≤ n2 - 1000000000 * l := by have := E3.out; omega
              have n31 : n2 - 1000000000 * l < 1000000000 := by have := E3.out; omega
              generalize n2 - 1000000000 * l = n3 at *
              obtain ⟨_, b0, b1, b2, b3, bf0, bf1, bf2, bf3⟩ := (KB.head).four
              obtain ⟨_, r0, r1, r2, r3, rf0, rf1, rf2, rf3⟩ := (KB.tail.head).four
              have i5 : w.heap.size + 1 ≠ w.heap.size := by omega
              have i6 := Ne.symm i5
              replace KB := KB.one 3 (.int .i64 n3) (KB.head.at3 _) (by omega) (by intro x hx; simp only [List.mem_cons, List.not_mem_nil, or_false] at hx; rcases hx with rfl; show _ ≠ _; omega)
              go_wp2
              obtain ⟨_, P0, P1, P2, P3, _⟩ := ((KB.tail.head).self4 (.int .i64 (i)) (.int .i64 (j)) (.int .i64 (l)) (.int .i64 (n3))).four
              have HB := ((((KB.hb.setCell (p := ⟨w.heap.size, 0, none⟩) (by show _ ≤ w.heap.size; omega) (.int .i64 (i))).setCell (p := ⟨w.heap.size, 1, none⟩) (by show _ ≤ w.heap.size; omega) (.int .i64 (j))).setCell (p := ⟨w.heap.size, 2, none⟩) (by show _ ≤ w.heap.size; omega) (.int .i64 (l))).setCell (p := ⟨w.heap.size, 3, none⟩) (by show _ ≤ w.heap.size; omega) (.int .i64 (n3)))
              exact bodyPost_ret (v := .agg #[.int .i64 (i), .int .i64 (j), .int .i64 (l), .int .i64 (n3)]) (by simp [results, Tryd.results38, go_sem, P0, P1, P2, P3]) rfl ⟨by rw [E3.out], HB⟩
/-- What a call that answers a time and an error's number leaves. -/
def RetTE (w : World) (h m s n x : Int) (e : Ending) (w' : World) : Prop := e = .returned (.tuple #[.agg #[.int .i64 h, .int .i64 m, .int .i64 s, .int .i64 n], .int .i64 x]) ∧ Below w.heap.size w w'
set_option maxRecDepth 100000 in
theorem signT_true (w : World) : Calls Tryd.prog 79 #[.bool true] w (fun e w' => e = .returned (.int .i64 (-1)) ∧ w = w') := by
  go_enter Tryd.func79, Tryd.ntmps79
  go_wp2
  go_ret
  exact ⟨rfl, rfl⟩
set_option maxRecDepth 100000 in
theorem signT_false (w : World) : Calls Tryd.prog 79 #[.bool false] w (fun e w' => e = .returned (.int .i64 1) ∧ w = w') := by
  go_enter Tryd.func79, Tryd.ntmps79
  go_wp2
  go_ret
  exact ⟨rfl, rfl⟩
set_option maxRecDepth 100000 in
set_option maxHeartbeats 4000000 in
theorem cmpT_eq (h m s n : Int) (w : World) :
    Calls Tryd.prog 53 #[.agg #[.int .i64 (h), .int .i64 (m), .int .i64 (s), .int .i64 (n)], .agg #[.int .i64 (h), .int .i64 (m), .int .i64 (s), .int .i64 (n)]] w (RetV w (.int .i64 0)) := by
  have SG := Lib.hid signT_true
  have KB := ((BK.nil w).more4 (.int .i64 (h)) (.int .i64 (m)) (.int .i64 (s)) (.int .i64 (n)) 25).more4 (.int .i64 (h)) (.int .i64 (m)) (.int .i64 (s)) (.int .i64 (n)) 25
  rw [World.size_alloc] at KB
  go_enter Tryd.func53, Tryd.ntmps53
  go_upto_region 1 with (fail)
  generalize (w.alloc (.cells #[.int .i64 (h), .int .i64 (m), .int .i64 (s), .int .i64 (n)] 25)).alloc (.cells #[.int .i64 (h), .int .i64 (m), .int .i64 (s), .int .i64 (n)] 25) = w0 at *
  obtain ⟨_, a0, a1, a2, a3, _⟩ := KB.tail.head.four
  obtain ⟨_, b0, b1, b2, b3, _⟩ := KB.head.four
  have HB := KB.hb
  go_wp2_with (go_at_call 79; refine (SG.out _).mono ?_; rintro e w' ⟨rfl, rfl⟩)
  go_ret
  exact ⟨rfl, HB⟩
set_option maxRecDepth 100000 in
set_option maxHeartbeats 4000000 in
theorem cmpT_l0 (h m s n h' m' s' n' : Int) (lt : h < h') (w : World) :
    Calls Tryd.prog 53 #[.agg #[.int .i64 (h), .int .i64 (m), .int .i64 (s), .int .i64 (n)], .agg #[.int .i64 (h'), .int .i64 (m'), .int .i64 (s'), .int .i64 (n')]] w (RetV w (.int .i64 (-1))) := by
  have SG := Lib.hid signT_true
  have c1 : (h == h') = false := by rw [beq_eq_false_iff_ne]; omega
  have c2 : (h != h') = true := by rw [bne_iff_ne]; omega
  have c3 : ¬ h = h' := by omega
  have c4 : decide (h < h') = true := decide_eq_true lt
  have KB := ((BK.nil w).more4 (.int .i64 (h)) (.int .i64 (m)) (.int .i64 (s)) (.int .i64 (n)) 25).more4 (.int .i64 (h')) (.int .i64 (m')) (.int .i64 (s')) (.int .i64 (n')) 25
  rw [World.size_alloc] at KB
  go_enter Tryd.func53, Tryd.ntmps53
  go_upto_region 1 with (fail)
  generalize (w.alloc (.cells #[.int .i64 (h), .int .i64 (m), .int .i64 (s), .int .i64 (n)] 25)).alloc (.cells #[.int .i64 (h'), .int .i64 (m'), .int .i64 (s'), .int .i64 (n')] 25) = w0 at *
  obtain ⟨_, a0, a1, a2, a3, _⟩ := KB.tail.head.four
  obtain ⟨_, b0, b1, b2, b3, _⟩ := KB.head.four
  have HB := KB.hb
  go_wp2_with (go_at_call 79; refine (SG.out _).mono ?_; rintro e w' ⟨rfl, rfl⟩)
  go_ret
  exact ⟨rfl, HB⟩
set_option maxRecDepth 100000 in
set_option maxHeartbeats 4000000 in
theorem cmpT_g0 (h m s n h' m' s' n' : Int) (lt : h' < h) (w : World) :
    Calls Tryd.prog 53 #[.agg #[.int .i64 (h), .int .i64 (m), .int .i64 (s), .int .i64 (n)], .agg #[.int .i64 (h'), .int .i64 (m'), .int .i64 (s'), .int .i64 (n')]] w (RetV w (.int .i64 1)) := by
  have SG := Lib.hid signT_false
  have c1 : (h == h') = false := by rw [beq_eq_false_iff_ne]; omega
  have c2 : (h != h') = true := by rw [bne_iff_ne]; omega
  have c3 : ¬ h = h' := by omega
  have c4 : decide (h < h') = false := decide_eq_false (by omega)
  have KB := ((BK.nil w).more4 (.int .i64 (h)) (.int .i64 (m)) (.int .i64 (s)) (.int .i64 (n)) 25).more4 (.int .i64 (h')) (.int .i64 (m')) (.int .i64 (s')) (.int .i64 (n')) 25
  rw [World.size_alloc] at KB
  go_enter Tryd.func53, Tryd.ntmps53
  go_upto_region 1 with (fail)
  generalize (w.alloc (.cells #[.int .i64 (h), .int .i64 (m), .int .i64 (s), .int .i64 (n)] 25)).alloc (.cells #[.int .i64 (h'), .int .i64 (m'), .int .i64 (s'), .int .i64 (n')] 25) = w0 at *
  obtain ⟨_, a0, a1, a2, a3, _⟩ := KB.tail.head.four
  obtain ⟨_, b0, b1, b2, b3, _⟩ := KB.head.four
  have HB := KB.hb
  go_wp2_with (go_at_call 79; refine (SG.out _).mono ?_; rintro e w' ⟨rfl, rfl⟩)
  go_ret
  exact ⟨rfl, HB⟩
set_option maxRecDepth 100000 in
set_option maxHeartbeats 4000000 in
theorem cmpT_l1 (h m s n m' s' n' : Int) (lt : m < m') (w : World) :
    Calls Tryd.prog 53 #[.agg #[.int .i64 (h), .int .i64 (m), .int .i64 (s), .int .i64 (n)], .agg #[.int .i64 (h), .int .i64 (m'), .int .i64 (s'), .int .i64 (n')]] w (RetV w (.int .i64 (-1))) := by
  have SG := Lib.hid signT_true
  have c1 : (m == m') = false := by rw [beq_eq_false_iff_ne]; omega
  have c2 : (m != m') = true := by rw [bne_iff_ne]; omega
  have c3 : ¬ m = m' := by omega
  have c4 : decide (m < m') = true := decide_eq_true lt
  have KB := ((BK.nil w).more4 (.int .i64 (h)) (.int .i64 (m)) (.int .i64 (s)) (.int .i64 (n)) 25).more4 (.int .i64 (h)) (.int .i64 (m')) (.int .i64 (s')) (.int .i64 (n')) 25
  rw [World.size_alloc] at KB
  go_enter Tryd.func53, Tryd.ntmps53
  go_upto_region 1 with (fail)
  generalize (w.alloc (.cells #[.int .i64 (h), .int .i64 (m), .int .i64 (s), .int .i64 (n)] 25)).alloc (.cells #[.int .i64 (h), .int .i64 (m'), .int .i64 (s'), .int .i64 (n')] 25) = w0 at *
  obtain ⟨_, a0, a1, a2, a3, _⟩ := KB.tail.head.four
  obtain ⟨_, b0, b1, b2, b3, _⟩ := KB.head.four
  have HB := KB.hb
  go_wp2_with (go_at_call 79; refine (SG.out _).mono ?_; rintro e w' ⟨rfl, rfl⟩)
  go_ret
  exact ⟨rfl, HB⟩
set_option maxRecDepth 100000 in
set_option maxHeartbeats 4000000 in
theorem cmpT_g1 (h m s n m' s' n' : Int) (lt : m' < m) (w : World) :
    Calls Tryd.prog 53 #[.agg #[.int .i64 (h), .int .i64 (m), .int .i64 (s), .int .i64 (n)], .agg #[.int .i64 (h), .int .i64 (m'), .int .i64 (s'), .int .i64 (n')]] w (RetV w (.int .i64 1)) := by
  have SG := Lib.hid signT_false
  have c1 : (m == m') = false := by rw [beq_eq_false_iff_ne]; omega
  have c2 : (m != m') = true := by rw [bne_iff_ne]; omega
  have c3 : ¬ m = m' := by omega
  have c4 : decide (m < m') = false := decide_eq_false (by omega)
  have KB := ((BK.nil w).more4 (.int .i64 (h)) (.int .i64 (m)) (.int .i64 (s)) (.int .i64 (n)) 25).more4 (.int .i64 (h)) (.int .i64 (m')) (.int .i64 (s')) (.int .i64 (n')) 25
  rw [World.size_alloc] at KB
  go_enter Tryd.func53, Tryd.ntmps53
  go_upto_region 1 with (fail)
  generalize (w.alloc (.cells #[.int .i64 (h), .int .i64 (m), .int .i64 (s), .int .i64 (n)] 25)).alloc (.cells #[.int .i64 (h), .int .i64 (m'), .int .i64 (s'), .int .i64 (n')] 25) = w0 at *
  obtain ⟨_, a0, a1, a2, a3, _⟩ := KB.tail.head.four
  obtain ⟨_, b0, b1, b2, b3, _⟩ := KB.head.four
  have HB := KB.hb
  go_wp2_with (go_at_call 79; refine (SG.out _).mono ?_; rintro e w' ⟨rfl, rfl⟩)
  go_ret
  exact ⟨rfl, HB⟩
set_option maxRecDepth 100000 in
set_option maxHeartbeats 4000000 in
theorem cmpT_l2 (h m s n s' n' : Int) (lt : s < s') (w : World) :
    Calls Tryd.prog 53 #[.agg #[.int .i64 (h), .int .i64 (m), .int .i64 (s), .int .i64 (n)], .agg #[.int .i64 (h), .int .i64 (m), .int .i64 (s'), .int .i64 (n')]] w (RetV w (.int .i64 (-1))) := by
  have SG := Lib.hid signT_true
  have c1 : (s == s') = false := by rw [beq_eq_false_iff_ne]; omega
  have c2 : (s != s') = true := by rw [bne_iff_ne]; omega
  have c3 : ¬ s = s' := by omega
  have c4 : decide (s < s') = true := decide_eq_true lt
  have KB := ((BK.nil w).more4 (.int .i64 (h)) (.int .i64 (m)) (.int .i64 (s)) (.int .i64 (n)) 25).more4 (.int .i64 (h)) (.int .i64 (m)) (.int .i64 (s')) (.int .i64 (n')) 25
  rw [World.size_alloc] at KB
  go_enter Tryd.func53, Tryd.ntmps53
  go_upto_region 1 with (fail)
  generalize (w.alloc (.cells #[.int .i64 (h), .int .i64 (m), .int .i64 (s), .int .i64 (n)] 25)).alloc (.cells #[.int .i64 (h), .int .i64 (m), .int .i64 (s'), .int .i64 (n')] 25) = w0 at *
  obtain ⟨_, a0, a1, a2, a3, _⟩ := KB.tail.head.four
  obtain ⟨_, b0, b1, b2, b3, _⟩ := KB.head.four
  have HB := KB.hb
  go_wp2_with (go_at_call 79; refine (SG.out _).mono ?_; rintro e w' ⟨rfl, rfl⟩)
  go_ret
  exact ⟨rfl, HB⟩
set_option maxRecDepth 100000 in
set_option maxHeartbeats 4000000 in
theorem cmpT_g2 (h m s n s' n' : Int) (lt : s' < s) (w : World) :
    Calls Tryd.prog 53 #[.agg #[.int .i64 (h), .int .i64 (m), .int .i64 (s), .int .i64 (n)], .agg #[.int .i64 (h), .int .i64 (m), .int .i64 (s'), .int .i64 (n')]] w (RetV w (.int .i64 1)) := by
  have SG := Lib.hid signT_false
  have c1 : (s == s') = false := by rw [beq_eq_false_iff_ne]; omega
  have c2 : (s != s') = true := by rw [bne_iff_ne]; omega
  have c3 : ¬ s = s' := by omega
  have c4 : decide (s < s') = false := decide_eq_false (by omega)
  have KB := ((BK.nil w).more4 (.int .i64 (h)) (.int .i64 (m)) (.int .i64 (s)) (.int .i64 (n)) 25).more4 (.int .i64 (h)) (.int .i64 (m)) (.int .i64 (s')) (.int .i64 (n')) 25
  rw [World.size_alloc] at KB
  go_enter Tryd.func53, Tryd.ntmps53
  go_upto_region 1 with (fail)
  generalize (w.alloc (.cells #[.int .i64 (h), .int .i64 (m), .int .i64 (s), .int .i64 (n)] 25)).alloc (.cells #[.int .i64 (h), .int .i64 (m), .int .i64 (s'), .int .i64 (n')] 25) = w0 at *
  obtain ⟨_, a0, a1, a2, a3, _⟩ := KB.tail.head.four
  obtain ⟨_, b0, b1, b2, b3, _⟩ := KB.head.four
  have HB := KB.hb
  go_wp2_with (go_at_call 79; refine (SG.out _).mono ?_; rintro e w' ⟨rfl, rfl⟩)
  go_ret
  exact ⟨rfl, HB⟩
set_option maxRecDepth 100000 in
set_option maxHeartbeats 4000000 in
theorem cmpT_l3 (h m s n n' : Int) (lt : n < n') (w : World) :
    Calls Tryd.prog 53 #[.agg #[.int .i64 (h), .int .i64 (m), .int .i64 (s), .int .i64 (n)], .agg #[.int .i64 (h), .int .i64 (m), .int .i64 (s), .int .i64 (n')]] w (RetV w (.int .i64 (-1))) := by
  have SG := Lib.hid signT_true
  have c1 : (n == n') = false := by rw [beq_eq_false_iff_ne]; omega
  have c2 : (n != n') = true := by rw [bne_iff_ne]; omega
  have c3 : ¬ n = n' := by omega
  have c4 : decide (n < n') = true := decide_eq_true lt
  have KB := ((BK.nil w).more4 (.int .i64 (h)) (.int .i64 (m)) (.int .i64 (s)) (.int .i64 (n)) 25).more4 (.int .i64 (h)) (.int .i64 (m)) (.int .i64 (s)) (.int .i64 (n')) 25
  rw [World.size_alloc] at KB
  go_enter Tryd.func53, Tryd.ntmps53
  go_upto_region 1 with (fail)
  generalize (w.alloc (.cells #[.int .i64 (h), .int .i64 (m), .int .i64 (s), .int .i64 (n)] 25)).alloc (.cells #[.int .i64 (h), .int .i64 (m), .int .i64 (s), .int .i64 (n')] 25) = w0 at *
  obtain ⟨_, a0, a1, a2, a3, _⟩ := KB.tail.head.four
  obtain ⟨_, b0, b1, b2, b3, _⟩ := KB.head.four
  have HB := KB.hb
  go_wp2_with (go_at_call 79; refine (SG.out _).mono ?_; rintro e w' ⟨rfl, rfl⟩)
  go_ret
  exact ⟨rfl, HB⟩
set_option maxRecDepth 100000 in
set_option maxHeartbeats 4000000 in
theorem cmpT_g3 (h m s n n' : Int) (lt : n' < n) (w : World) :
    Calls Tryd.prog 53 #[.agg #[.int .i64 (h), .int .i64 (m), .int .i64 (s), .int .i64 (n)], .agg #[.int .i64 (h), .int .i64 (m), .int .i64 (s), .int .i64 (n')]] w (RetV w (.int .i64 1)) := by
  have SG := Lib.hid signT_false
  have c1 : (n == n') = false := by rw [beq_eq_false_iff_ne]; omega
  have c2 : (n != n') = true := by rw [bne_iff_ne]; omega
  have c3 : ¬ n = n' := by omega
  have c4 : decide (n < n') = false := decide_eq_false (by omega)
  have KB := ((BK.nil w).more4 (.int .i64 (h)) (.int .i64 (m)) (.int .i64 (s)) (.int .i64 (n)) 25).more4 (.int .i64 (h)) (.int .i64 (m)) (.int .i64 (s)) (.int .i64 (n')) 25
  rw [World.size_alloc] at KB
  go_enter Tryd.func53, Tryd.ntmps53
  go_upto_region 1 with (fail)
  generalize (w.alloc (.cells #[.int .i64 (h), .int .i64 (m), .int .i64 (s), .int .i64 (n)] 25)).alloc (.cells #[.int .i64 (h), .int .i64 (m), .int .i64 (s), .int .i64 (n')] 25) = w0 at *
  obtain ⟨_, a0, a1, a2, a3, _⟩ := KB.tail.head.four
  obtain ⟨_, b0, b1, b2, b3, _⟩ := KB.head.four
  have HB := KB.hb
  go_wp2_with (go_at_call 79; refine (SG.out _).mono ?_; rintro e w' ⟨rfl, rfl⟩)
  go_ret
  exact ⟨rfl, HB⟩
theorem cmpTR (h m s n h' m' s' n' : Int) (w : World) : Calls Tryd.prog 53 #[.agg #[.int .i64 (h), .int .i64 (m), .int .i64 (s), .int .i64 (n)], .agg #[.int .i64 (h'), .int .i64 (m'), .int .i64 (s'), .int .i64 (n')]] w (RetV w (.int .i64 (cmpT h m s n h' m' s' n'))) := by
  unfold cmpT
  by_cases lt : h < h'
  case pos => rw [if_pos lt]; exact cmpT_l0 h m s n h' m' s' n' lt w
  rw [if_neg lt]
  by_cases gt : h' < h
  case pos => rw [if_pos gt]; exact cmpT_g0 h m s n h' m' s' n' gt w
  rw [if_neg gt]
  obtain rfl : h = h' := by omega
  clear lt gt
  by_cases lt : m < m'
  case pos => rw [if_pos lt]; exact cmpT_l1 h m s n m' s' n' lt w
  rw [if_neg lt]
  by_cases gt : m' < m
  case pos => rw [if_pos gt]; exact cmpT_g1 h m s n m' s' n' gt w
  rw [if_neg gt]
  obtain rfl : m = m' := by omega
  clear lt gt
  by_cases lt : s < s'
  case pos => rw [if_pos lt]; exact cmpT_l2 h m s n s' n' lt w
  rw [if_neg lt]
  by_cases gt : s' < s
  case pos => rw [if_pos gt]; exact cmpT_g2 h m s n s' n' gt w
  rw [if_neg gt]
  obtain rfl : s = s' := by omega
  clear lt gt
  by_cases lt : n < n'
  case pos => rw [if_pos lt]; exact cmpT_l3 h m s n n' lt w
  rw [if_neg lt]
  by_cases gt : n' < n
  case pos => rw [if_pos gt]; exact cmpT_g3 h m s n n' gt w
  rw [if_neg gt]
  obtain rfl : n = n' := by omega
  clear lt gt
  exact cmpT_eq h m s n w
end Go.Proofs.YtlidicnbmfkghaaDoor

/- The document's answer of layer 6: nanoseconds added to times, times rounded, out of what their calls answer. -/
namespace Go.Proofs.YtlidicnbmfkghaaDoor
open Go.RowKit

/-- What a call that answers a time, a number and an error's number leaves. -/
def RetTNE (w : World) (h m s n k x : Int) (e : Ending) (w' : World) : Prop := e = .returned (.tuple #[.agg #[.int .i64 h, .int .i64 m, .int .i64 s, .int .i64 n], .int .i64 k, .int .i64 x]) ∧ Below w.heap.size w w'
set_option maxRecDepth 100000 in
set_option maxHeartbeats 8000000 in
theorem dayT (OD : Hid (∀ W, Calls Tryd.prog 41 #[.int .i64 86400000000000] W (RetZ W 86400000000000))) (sd : Hid ((86400000000000 : Int).natAbs < 65536 ^ 9)) (w : World) :
    Calls Tryd.prog 35 #[] w (RetZ w 86400000000000) := by
  go_enter Tryd.func35, Tryd.ntmps35
  go_upto_region 1 with (fail)
  have KM := ((BM.nil w).more2 (.bool false) (.slice none 0 0) 39)
  try simp only [World.size_alloc] at KM
  generalize (w.alloc (.cells #[.bool false, .slice none 0 0] 39)) = w0 at *
  go_wp2_with fail
  refine (OD.out _).mono ?_
  rintro e w1 ⟨p1, A1, n1, c1, rfl, z1, k⟩
  have l1 := z1.small sd.out
  replace KM := (KM.below k).ncons z1
  clear k z1
  obtain ⟨_, ra, rb, rc, rd⟩ := (KM.head).two
  go_wp2
  have P2 := (KM.head.box).self2 p1 (.slice A1 n1 c1)
  have Z2 := (KM.num).set2 KM.head.box.c0 p1 (.slice A1 n1 c1)
  have HB := (KM.hb.setCell (p := ⟨w.heap.size, 0, none⟩) (Nat.le_refl _) (.bool p1)).setCell (p := ⟨w.heap.size, 1, none⟩) (Nat.le_refl _) (.slice A1 n1 c1)
  exact bodyPost_ret (v := .agg #[.bool p1, .slice A1 n1 c1]) (by simp [results, Tryd.results35, go_sem, P2.c0, P2.c1]) rfl ⟨p1, A1, n1, c1, rfl, Z2, HB⟩
end Go.Proofs.YtlidicnbmfkghaaDoor

/- The document's answer of layer 6, whole: nanoseconds added to a time, a time rounded. -/
namespace Go.Proofs.YtlidicnbmfkghaaDoor
open Go.RowKit

theorem day_small : (86400000000000 : Int).natAbs < 65536 ^ 9 := small_w (inW_of_64 (by decide))
theorem dayR (w : World) : Calls Tryd.prog 35 #[] w (RetZ w 86400000000000) := dayT (Lib.hid fun W => of_any _ (by decide) (by decide) W) (Lib.hid day_small) w
theorem rightT_yes {h m s n : Int} (k : okT h m s n) (W : World) : Calls Tryd.prog 33 #[.agg #[.int .i64 (h), .int .i64 (m), .int .i64 (s), .int .i64 (n)]] W (fun e w' => e = .returned (.bool true) ∧ Below W.heap.size W w') := by
  have c := rightT h m s n W
  rw [decide_eq_true k] at c
  exact c.mono fun _ _ ⟨h1, h2⟩ => ⟨h1, h2⟩
theorem rightT_no {h m s n : Int} (k : ¬ okT h m s n) (W : World) : Calls Tryd.prog 33 #[.agg #[.int .i64 (h), .int .i64 (m), .int .i64 (s), .int .i64 (n)]] W (fun e w' => e = .returned (.bool false) ∧ Below W.heap.size W w') := by
  have c := rightT h m s n W
  rw [decide_eq_false k] at c
  exact c.mono fun _ _ ⟨h1, h2⟩ => ⟨h1, h2⟩
theorem add_small {x a : Int} (x0 : 0 ≤ x) (x1 : x < 86400000000000) (ha : InW a) : (x + a).natAbs < 65536 ^ 9 := by
  have := abs_w ha
  exact small_2w (by omega)
/-- what a time's number becomes -/
def rndT (x ic mo : Int) : Int := nearZ x ic mo * ic
theorem rnd_range {x ic mo : Int} (x0 : 0 ≤ x) (x1 : x < 86400000000000) (i0 : 0 < ic) (hd : (86400000000000 : Int) % ic = 0) : 0 ≤ rndT x ic mo ∧ rndT x ic mo ≤ 86400000000000 := by
  obtain ⟨q, hq⟩ : ∃ q : Int, (86400000000000 : Int) = q * ic := ⟨86400000000000 / ic, (Int.ediv_mul_cancel (Int.dvd_of_emod_eq_zero hd)).symm⟩
  have l1 : 0 ≤ x / ic := Int.ediv_nonneg x0 (by omega)
  have l2 : x / ic + 1 ≤ q := by
    have := Int.ediv_lt_of_lt_mul i0 (show x < q * ic by omega)
    omega
  have key : 0 ≤ nearZ x ic mo ∧ nearZ x ic mo ≤ q := by
    rcases near_two (n := x) (d := ic) (m := mo) with k | ⟨k, _⟩ <;> rw [k] <;> omega
  unfold rndT
  exact ⟨Int.mul_nonneg key.1 (by omega), by rw [hq]; exact Int.mul_le_mul_of_nonneg_right key.2 (by omega)⟩
theorem rnd_small {x ic mo : Int} (x0 : 0 ≤ x) (x1 : x < 86400000000000) (i0 : 0 < ic) (hd : (86400000000000 : Int) % ic = 0) : (nearZ x ic mo).natAbs < 65536 ^ 9 ∧ (rndT x ic mo).natAbs < 65536 ^ 20 := by
  have nl := near_le (x := x) (y := ic) (m := mo) i0
  have r := rnd_range (mo := mo) x0 x1 i0 hd
  refine ⟨small_2w (by omega), Nat.lt_of_lt_of_le (small_w (z := rndT x ic mo) (inW_of_64 (by unfold In64; omega))) (Nat.pow_le_pow_right (by decide) (by decide))⟩
end Go.Proofs.YtlidicnbmfkghaaDoor
