import Derived.Test.YtallclimljiplaaGreatDoorZGtd
set_option maxRecDepth 100000
set_option maxHeartbeats 64000000
namespace Go.Proofs.YtallclimljiplaaGreatDoor
open Go.RowKit
theorem lh_0 {Q : World → Prop} (MO : Hid (∀ (w W : World), Q w → Below w.heap.size w W → Q W)) (AL : Hid (∀ W, Q W → Calls Tryz.prog 9 #[] W (RetV W (.bool true)))) (w : World) (LQ : Q w) (A B C : Option Addr) (n c m d q e : Nat) (z i : Int)  (GR : Hid (∀ W, Below w.heap.size w W → Calls Tryz.prog 12 #[.agg #[.slice A n c, .slice B m d, .slice C q e]] W (RetV W (.bool true)))) : Calls Tryz.prog 8 #[.agg #[.slice A n c, .slice B m d, .slice C q e], .int .i64 z, .int .i64 i] w (RetV w (.bool true)) := by
  go_enter Tryz.func8, Tryz.ntmps8
  go_upto_region 1 with (fail)
  have KB := (BK.nil w).lit [.slice A n c, .slice B m d, .slice C q e] 29
  rw [show ([.slice A n c, .slice B m d, .slice C q e] : List Value).toArray = #[.slice A n c, .slice B m d, .slice C q e] from rfl] at KB
  generalize w.alloc (.cells #[.slice A n c, .slice B m d, .slice C q e] 29) = W at *
  obtain ⟨_, x0, x1, x2, _⟩ := (KB.head).three
  go_wp2_with (first | (go_at_call 12; refine (GR.out _ KB.hb).mono ?_; rintro e9 W9 ⟨rfl, hk⟩; replace KB := KB.below hk; clear hk x0 x1 x2; obtain ⟨_, x0, x1, x2, _⟩ := (KB.head).three) | (go_at_call 9; refine (AL.out _ (MO.out _ _ LQ KB.hb)).mono ?_; rintro e9 W9 ⟨rfl, hk⟩; replace KB := KB.below hk; clear hk))
  go_ret
  exact ⟨rfl, KB.hb⟩
theorem lh_1 {Q : World → Prop} (MO : Hid (∀ (w W : World), Q w → Below w.heap.size w W → Q W)) (AL : Hid (∀ W, Q W → Calls Tryz.prog 9 #[] W (RetV W (.bool true)))) (w : World) (LQ : Q w) (A B C : Option Addr) (n c m d q e : Nat) (z i : Int) (d0 : decide (z < 0) = true) (GR : Hid (∀ W, Below w.heap.size w W → Calls Tryz.prog 12 #[.agg #[.slice A n c, .slice B m d, .slice C q e]] W (RetV W (.bool false)))) : Calls Tryz.prog 8 #[.agg #[.slice A n c, .slice B m d, .slice C q e], .int .i64 z, .int .i64 i] w (RetV w (.bool true)) := by
  go_enter Tryz.func8, Tryz.ntmps8
  go_upto_region 1 with (fail)
  have KB := (BK.nil w).lit [.slice A n c, .slice B m d, .slice C q e] 29
  rw [show ([.slice A n c, .slice B m d, .slice C q e] : List Value).toArray = #[.slice A n c, .slice B m d, .slice C q e] from rfl] at KB
  generalize w.alloc (.cells #[.slice A n c, .slice B m d, .slice C q e] 29) = W at *
  obtain ⟨_, x0, x1, x2, _⟩ := (KB.head).three
  go_wp2_with (first | (go_at_call 12; refine (GR.out _ KB.hb).mono ?_; rintro e9 W9 ⟨rfl, hk⟩; replace KB := KB.below hk; clear hk x0 x1 x2; obtain ⟨_, x0, x1, x2, _⟩ := (KB.head).three) | (go_at_call 9; refine (AL.out _ (MO.out _ _ LQ KB.hb)).mono ?_; rintro e9 W9 ⟨rfl, hk⟩; replace KB := KB.below hk; clear hk))
  go_ret
  exact ⟨rfl, KB.hb⟩
theorem lh_2 {Q : World → Prop} (MO : Hid (∀ (w W : World), Q w → Below w.heap.size w W → Q W)) (AL : Hid (∀ W, Q W → Calls Tryz.prog 9 #[] W (RetV W (.bool true)))) (w : World) (LQ : Q w) (A B C : Option Addr) (n c m d q e : Nat) (z i : Int) (d0 : decide (z < 0) = false) (d1 : decide (z ≥ (m : Int)) = true) (GR : Hid (∀ W, Below w.heap.size w W → Calls Tryz.prog 12 #[.agg #[.slice A n c, .slice B m d, .slice C q e]] W (RetV W (.bool false)))) : Calls Tryz.prog 8 #[.agg #[.slice A n c, .slice B m d, .slice C q e], .int .i64 z, .int .i64 i] w (RetV w (.bool true)) := by
  go_enter Tryz.func8, Tryz.ntmps8
  go_upto_region 1 with (fail)
  have KB := (BK.nil w).lit [.slice A n c, .slice B m d, .slice C q e] 29
  rw [show ([.slice A n c, .slice B m d, .slice C q e] : List Value).toArray = #[.slice A n c, .slice B m d, .slice C q e] from rfl] at KB
  generalize w.alloc (.cells #[.slice A n c, .slice B m d, .slice C q e] 29) = W at *
  obtain ⟨_, x0, x1, x2, _⟩ := (KB.head).three
  go_wp2_with (first | (go_at_call 12; refine (GR.out _ KB.hb).mono ?_; rintro e9 W9 ⟨rfl, hk⟩; replace KB := KB.below hk; clear hk x0 x1 x2; obtain ⟨_, x0, x1, x2, _⟩ := (KB.head).three) | (go_at_call 9; refine (AL.out _ (MO.out _ _ LQ KB.hb)).mono ?_; rintro e9 W9 ⟨rfl, hk⟩; replace KB := KB.below hk; clear hk))
  go_ret
  exact ⟨rfl, KB.hb⟩
theorem lh_m {Q : World → Prop} (MO : Hid (∀ (w W : World), Q w → Below w.heap.size w W → Q W)) (AL : Hid (∀ W, Q W → Calls Tryz.prog 9 #[] W (RetV W (.bool true)))) (w : World) (LQ : Q w) (g o : Nat) (A C : Option Addr) (n c m d q e : Nat) (z : Nat) (i : Int) (hz : z < m) (_hm : m ≤ d) (hd : d ≤ maxLen) (hg : g < w.heap.size) (Z : Option Addr) (u cu : Nat) (_hu : u ≤ cu) (hcu : cu ≤ maxLen) (Y1 : Hid (w.cell? ⟨g, o + z * 2 + 1, none⟩ = some (.slice Z u cu))) (f : Int → Int × Bool) (GR : Hid (∀ W, Below w.heap.size w W → Calls Tryz.prog 12 #[.agg #[.slice A n c, .slice (some ⟨g, o, none⟩) m d, .slice C q e]] W (RetV W (.bool false)))) (EC : Hid (∀ (j : Int) W, Below w.heap.size w W → Q W → Calls Tryz.prog 13 #[.agg #[.slice A n c, .slice (some ⟨g, o, none⟩) m d, .slice C q e], .int .i64 (z : Int), .int .i64 j] W (RetNumB W (f j).1 (f j).2))) (FIN : Hid (∀ n', (∀ j : Nat, j + 1 < u → (f (j : Int)).2 = true ∧ ((f ((j : Int) + 1)).2 = true → (f (j : Int)).1 < (f ((j : Int) + 1)).1)) → f i = (n', true) → (-20000000000000 ≤ n' ∧ n' ≤ 20000000000000 ∧ 0 ≤ i ∧ i < (u : Int)) ∧ ∃ po ps pa qo qs qa, (∀ W, Below w.heap.size w W → Q W → Calls Tryz.prog 18 #[.agg #[.slice A n c, .slice (some ⟨g, o, none⟩) m d, .slice C q e], .int .i64 (z : Int), .int .i64 (n' - 1)] W (fun e w' => e = .returned (.tuple #[.agg #[.int .i64 po, .int .i64 ps, .string pa], .bool true]) ∧ Below W.heap.size W w')) ∧ (∀ W, Below w.heap.size w W → Q W → Calls Tryz.prog 18 #[.agg #[.slice A n c, .slice (some ⟨g, o, none⟩) m d, .slice C q e], .int .i64 (z : Int), .int .i64 n'] W (fun e w' => e = .returned (.tuple #[.agg #[.int .i64 qo, .int .i64 qs, .string qa], .bool true]) ∧ Below W.heap.size W w')) ∧ (∀ W, Below w.heap.size w W → Q W → Calls Tryz.prog 16 #[.agg #[.slice A n c, .slice (some ⟨g, o, none⟩) m d, .slice C q e], .int .i64 (z : Int), .int .i64 i, .int .i64 (n' - 1)] W (fun e w' => e = .returned (.tuple #[.agg #[.int .i64 po, .int .i64 ps, .string pa], .bool true]) ∧ Below W.heap.size W w')) ∧ (∀ W, Below w.heap.size w W → Q W → Calls Tryz.prog 16 #[.agg #[.slice A n c, .slice (some ⟨g, o, none⟩) m d, .slice C q e], .int .i64 (z : Int), .int .i64 (i + 1), .int .i64 n'] W (fun e w' => e = .returned (.tuple #[.agg #[.int .i64 qo, .int .i64 qs, .string qa], .bool true]) ∧ Below W.heap.size W w')))) : Calls Tryz.prog 8 #[.agg #[.slice A n c, .slice (some ⟨g, o, none⟩) m d, .slice C q e], .int .i64 (z : Int), .int .i64 i] w (RetV w (.bool true)) := by
  have dm : d ≤ 9223372036854775807 := hd
  have um : cu ≤ 9223372036854775807 := hcu
  have d0 : decide ((z : Int) < 0) = false := decide_eq_false (by omega)
  have d1 : decide ((z : Int) ≥ (m : Int)) = false := decide_eq_false (by omega)
  go_enter Tryz.func8, Tryz.ntmps8
  go_upto_region 1 with (fail)
  have KB := (BK.nil w).lit [.slice A n c, .slice (some ⟨g, o, none⟩) m d, .slice C q e] 29
  rw [show ([.slice A n c, .slice (some ⟨g, o, none⟩) m d, .slice C q e] : List Value).toArray = #[.slice A n c, .slice (some ⟨g, o, none⟩) m d, .slice C q e] from rfl] at KB
  generalize w.alloc (.cells #[.slice A n c, .slice (some ⟨g, o, none⟩) m d, .slice C q e] 29) = W at *
  obtain ⟨_, x0, x1, x2, _⟩ := (KB.head).three
  go_wp2_with (go_at_call 12; refine (GR.out _ KB.hb).mono ?_; rintro e9 W9 ⟨rfl, hk⟩; replace KB := KB.below hk; clear hk x0 x1 x2; obtain ⟨_, x0, x1, x2, _⟩ := (KB.head).three)
  clear GR x0 x1 x2
  simp only [show decide (m ≤ z) = false from decide_eq_false (by omega)]
  go_loopw [7] (fun v7 wr => ∃ k : Nat, (k < u ∨ k = 0) ∧ v7 = .int .i64 k ∧ Hid (∀ j : Nat, j < k → j + 1 < u → (f (j : Int)).2 = true ∧ ((f ((j : Int) + 1)).2 = true → (f (j : Int)).1 < (f ((j : Int) + 1)).1)) ∧ BK w [(w.heap.size, [.slice A n c, .slice (some ⟨g, o, none⟩) m d, .slice C q e])] wr) (fun v _ => u - (intOf v).toNat)
  case atStart => exact ⟨0, by omega, rfl, Lib.hid fun j h => absurd h (by omega), KB⟩
  case round =>
    clear KB
    obtain ⟨k, hk, rfl, HR, KB⟩ := hrel
    obtain ⟨_, x0, x1, x2, _⟩ := (KB.head).three
    have y1 := (KB.hb.cell (p := ⟨g, o + z * 2 + 1, none⟩) hg).trans Y1.out
    by_cases h4 : k + 1 < u
    · obtain ⟨⟨a, oa⟩, ha⟩ : ∃ p, f (k : Int) = p := ⟨_, rfl⟩
      obtain ⟨⟨b, ob⟩, hb⟩ : ∃ p, f ((k : Int) + 1) = p := ⟨_, rfl⟩
      have E1 := EC.out (k : Int)
      have E2 := EC.out ((k : Int) + 1)
      rw [ha] at E1
      rw [hb] at E2
      replace E1 := Lib.hid E1
      replace E2 := Lib.hid E2
      have NX : Hid (oa = true → (ob = true → a < b) → ∀ j : Nat, j < k + 1 → j + 1 < u → (f (j : Int)).2 = true ∧ ((f ((j : Int) + 1)).2 = true → (f (j : Int)).1 < (f ((j : Int) + 1)).1)) := Lib.hid fun h1 h2 j hj hju => by
        by_cases c : j = k
        · subst c
          rw [ha, hb]
          exact ⟨h1, h2⟩
        · exact HR.out j (by omega) hju
      clear ha hb
      cases oa with
      | false =>
        go_wp2_with (first | (go_at_call 13; refine (E1.out _ KB.hb (MO.out _ _ LQ KB.hb)).mono ?_; rintro e9 W1 ⟨rfl, hk⟩; replace KB := KB.below hk; clear E1 hk; clear x0 x1 x2; obtain ⟨_, x0, x1, x2, _⟩ := KB.head.three) | (go_at_call 13; refine (E2.out _ KB.hb (MO.out _ _ LQ KB.hb)).mono ?_; rintro e9 W2 ⟨rfl, hk⟩; replace KB := KB.below hk; clear E2 hk; clear x0 x1 x2; obtain ⟨_, x0, x1, x2, _⟩ := KB.head.three) | (go_at_call 9; refine (AL.out _ (MO.out _ _ LQ KB.hb)).mono ?_; rintro e9 W9 ⟨rfl, hk⟩; replace KB := KB.below hk; clear hk))
        go_ret
        exact ⟨rfl, KB.hb⟩
      | true =>
        cases ob with
        | false =>
          have N2 := Lib.hid (NX.out rfl (fun h => by cases h))
          clear NX HR
          go_wp2_with (first | (go_at_call 13; refine (E1.out _ KB.hb (MO.out _ _ LQ KB.hb)).mono ?_; rintro e9 W1 ⟨rfl, hk⟩; replace KB := KB.below hk; clear E1 hk; clear x0 x1 x2; obtain ⟨_, x0, x1, x2, _⟩ := KB.head.three) | (go_at_call 13; refine (E2.out _ KB.hb (MO.out _ _ LQ KB.hb)).mono ?_; rintro e9 W2 ⟨rfl, hk⟩; replace KB := KB.below hk; clear E2 hk; clear x0 x1 x2; obtain ⟨_, x0, x1, x2, _⟩ := KB.head.three))
          go_roundw
          case rel => exact ⟨k + 1, by omega, int_eqS (by omega), N2, KB⟩
          case measure => simp only [intOf]; omega
        | true =>
          by_cases h5 : a ≥ b
          · have d5 : decide (a ≥ b) = true := decide_eq_true h5
            clear NX HR
            go_wp2_with (first | (go_at_call 13; refine (E1.out _ KB.hb (MO.out _ _ LQ KB.hb)).mono ?_; rintro e9 W1 ⟨rfl, hk⟩; replace KB := KB.below hk; clear E1 hk; clear x0 x1 x2; obtain ⟨_, x0, x1, x2, _⟩ := KB.head.three) | (go_at_call 13; refine (E2.out _ KB.hb (MO.out _ _ LQ KB.hb)).mono ?_; rintro e9 W2 ⟨rfl, hk⟩; replace KB := KB.below hk; clear E2 hk; clear x0 x1 x2; obtain ⟨_, x0, x1, x2, _⟩ := KB.head.three) | (go_at_call 9; refine (AL.out _ (MO.out _ _ LQ KB.hb)).mono ?_; rintro e9 W9 ⟨rfl, hk⟩; replace KB := KB.below hk; clear hk))
            go_ret
            exact ⟨rfl, KB.hb⟩
          · have d5 : decide (a ≥ b) = false := decide_eq_false h5
            have N2 := Lib.hid (NX.out rfl (fun _ => by omega))
            clear NX HR
            go_wp2_with (first | (go_at_call 13; refine (E1.out _ KB.hb (MO.out _ _ LQ KB.hb)).mono ?_; rintro e9 W1 ⟨rfl, hk⟩; replace KB := KB.below hk; clear E1 hk; clear x0 x1 x2; obtain ⟨_, x0, x1, x2, _⟩ := KB.head.three) | (go_at_call 13; refine (E2.out _ KB.hb (MO.out _ _ LQ KB.hb)).mono ?_; rintro e9 W2 ⟨rfl, hk⟩; replace KB := KB.below hk; clear E2 hk; clear x0 x1 x2; obtain ⟨_, x0, x1, x2, _⟩ := KB.head.three))
            go_roundw
            case rel => exact ⟨k + 1, by omega, int_eqS (by omega), N2, KB⟩
            case measure => simp only [intOf]; omega
    · have k9 : k + 1 ≤ 9223372036854775807 := by omega
      have d9 : decide ((k : Int) + 1 < (u : Int)) = false := decide_eq_false (by omega)
      have ALL := fun n' h => FIN.out n' (fun j hj => HR.out j (by omega) hj) h
      clear HR FIN
      obtain ⟨⟨n', ok⟩, hn⟩ : ∃ p, f i = p := ⟨_, rfl⟩
      have E1 := EC.out i
      rw [hn] at E1
      replace E1 := Lib.hid E1
      clear EC
      cases ok with
      | false =>
        clear ALL hn
        go_wp2_with (first | (go_at_call 13; refine (E1.out _ KB.hb (MO.out _ _ LQ KB.hb)).mono ?_; rintro e9 W1 ⟨rfl, hk⟩; replace KB := KB.below hk; clear E1 hk; clear x0 x1 x2; obtain ⟨_, x0, x1, x2, _⟩ := KB.head.three) | (go_at_call 9; refine (AL.out _ (MO.out _ _ LQ KB.hb)).mono ?_; rintro e9 W9 ⟨rfl, hk⟩; replace KB := KB.below hk; clear hk))
        go_ret
        exact ⟨rfl, KB.hb⟩
      | true =>
        obtain ⟨⟨n1, n2, i1, i2⟩, po, ps, pa, qo, qs, qa, A1, A2, B1, B2⟩ := ALL n' hn
        replace A1 := Lib.hid A1
        replace A2 := Lib.hid A2
        replace B1 := Lib.hid B1
        replace B2 := Lib.hid B2
        clear ALL hn
        have s1 : (pa == pa) = true := by rw [beq_txtT]; exact decide_eq_true rfl
        have s2 : (qa == qa) = true := by rw [beq_txtT]; exact decide_eq_true rfl
        have iw : i + 1 ≤ 9223372036854775807 := by omega
        go_upto_region 14 with (first | (go_at_call 13; refine (E1.out _ KB.hb (MO.out _ _ LQ KB.hb)).mono ?_; rintro e9 W1 ⟨rfl, hk⟩; replace KB := KB.below hk; clear E1 hk; clear x0 x1 x2; obtain ⟨_, x0, x1, x2, _⟩ := KB.head.three) | (go_at_call 18; refine (A1.out _ KB.hb (MO.out _ _ LQ KB.hb)).mono ?_; rintro e9 W3 ⟨rfl, hk⟩; replace KB := KB.below hk; clear A1 hk x0 x1 x2))
        replace KB := KB.lit [.int .i64 po, .int .i64 ps, .string pa] 43
        rw [show ([.int .i64 po, .int .i64 ps, .string pa] : List Value).toArray = #[.int .i64 po, .int .i64 ps, .string pa] from rfl] at KB
        generalize W3.alloc (.cells #[.int .i64 po, .int .i64 ps, .string pa] 43) = V3 at *
        generalize W3.heap.size = q3 at *
        obtain ⟨_, x0, x1, x2, _⟩ := (KB.tail.head).three
        go_upto_region 15 with (go_at_call 18; refine (A2.out _ KB.hb (MO.out _ _ LQ KB.hb)).mono ?_; rintro e9 W4 ⟨rfl, hk⟩; replace KB := KB.below hk; clear A2 hk x0 x1 x2)
        replace KB := KB.lit [.int .i64 qo, .int .i64 qs, .string qa] 43
        rw [show ([.int .i64 qo, .int .i64 qs, .string qa] : List Value).toArray = #[.int .i64 qo, .int .i64 qs, .string qa] from rfl] at KB
        generalize W4.alloc (.cells #[.int .i64 qo, .int .i64 qs, .string qa] 43) = V4 at *
        generalize W4.heap.size = q4 at *
        obtain ⟨_, x0, x1, x2, _⟩ := (KB.tail.tail.head).three
        go_upto_region 16 with (go_at_call 16; refine (B1.out _ KB.hb (MO.out _ _ LQ KB.hb)).mono ?_; rintro e9 W5 ⟨rfl, hk⟩; replace KB := KB.below hk; clear B1 hk x0 x1 x2)
        replace KB := KB.lit [.int .i64 po, .int .i64 ps, .string pa] 43
        rw [show ([.int .i64 po, .int .i64 ps, .string pa] : List Value).toArray = #[.int .i64 po, .int .i64 ps, .string pa] from rfl] at KB
        generalize W5.alloc (.cells #[.int .i64 po, .int .i64 ps, .string pa] 43) = V5 at *
        generalize W5.heap.size = q5 at *
        obtain ⟨_, x0, x1, x2, _⟩ := (KB.tail.tail.tail.head).three
        go_upto_region 17 with (go_at_call 16; refine (B2.out _ KB.hb (MO.out _ _ LQ KB.hb)).mono ?_; rintro e9 W6 ⟨rfl, hk⟩; replace KB := KB.below hk; clear B2 hk x0 x1 x2)
        replace KB := KB.lit [.int .i64 qo, .int .i64 qs, .string qa] 43
        rw [show ([.int .i64 qo, .int .i64 qs, .string qa] : List Value).toArray = #[.int .i64 qo, .int .i64 qs, .string qa] from rfl] at KB
        generalize W6.alloc (.cells #[.int .i64 qo, .int .i64 qs, .string qa] 43) = V6 at *
        generalize W6.heap.size = q6 at *
        go_wp2_with (go_at_call 9; refine (AL.out _ (MO.out _ _ LQ KB.hb)).mono ?_; rintro e9 W7 ⟨rfl, hk⟩; replace KB := KB.below hk; clear hk; obtain ⟨_, f0, f1, f2, _⟩ := KB.head.three; obtain ⟨_, e0, e1, e2, _⟩ := KB.tail.head.three; obtain ⟨_, c0, c1, c2, _⟩ := KB.tail.tail.head.three; obtain ⟨_, b0, b1, b2, _⟩ := KB.tail.tail.tail.head.three)
        go_ret
        exact ⟨rfl, KB.hb⟩
theorem endO_some {L : List Rl} {x : Er} {n : Int} (h : endO L (some x) = (n, true)) : x.til = true ∧ endE L x = n := by
  unfold endO at h
  cases t : x.til with
  | false =>
    have h : (if x.til = true then (endE L x, true) else ((0 : Int), false)) = (n, true) := h
    rw [t] at h
    cases h
  | true =>
    have h : (if x.til = true then (endE L x, true) else ((0 : Int), false)) = (n, true) := h
    rw [if_pos t] at h
    exact ⟨rfl, (Prod.mk.inj h).1⟩
theorem endO_til {L : List Rl} {x : Er} (h : x.til = true) : endO L (some x) = (endE L x, true) := by
  show (if x.til = true then (endE L x, true) else ((0 : Int), false)) = _
  rw [if_pos h]
theorem endO_none {L : List Rl} {n : Int} (h : endO L none = (n, true)) : False := by cases h
theorem rises {L : List Rl} {es : List Er} (ok : tilOk es) {i : Nat} {x : Er} (hx : es[i]? = some x) (til : x.til = true)
    (H : ∀ (j : Nat) (y y' : Er), es[j]? = some y → es[j + 1]? = some y' → y'.til = true → endE L y < endE L y')
    (H2 : ∀ (y' : Er), es[i + 1]? = some y' → y'.til = true → endE L x < endE L y') :
    eraAt L (endE L x - 1) es = some x ∧ ∃ x', es[i + 1]? = some x' ∧ eraAt L (endE L x) es = some x' := by
  have hi : i + 1 < es.length := by
    have := tilC_at ok i x hx
    rw [til] at this
    exact of_decide_eq_true this.symm
  have tl : ∀ (k : Nat) (y : Er), k ≤ i → es[k]? = some y → y.til = true := fun k y hk hy => by rw [tilC_at ok k y hy]; exact decide_eq_true (by omega)
  have le : ∀ (d k : Nat) (y : Er), k + d = i → es[k]? = some y → endE L y + d ≤ endE L x := by
    intro d
    induction d with
    | zero =>
      intro k y hk hy
      obtain rfl : k = i := by omega
      rw [hx] at hy
      cases hy
      omega
    | succ d ih =>
      intro k y hk hy
      obtain ⟨y', hy'⟩ : ∃ y', es[k + 1]? = some y' := ⟨_, List.getElem?_eq_getElem (by omega)⟩
      have h1 := H k y y' hy hy' (tl (k + 1) y' (by omega) hy')
      have h2 := ih (k + 1) y' (by omega) hy'
      omega
  obtain ⟨x', hx'⟩ : ∃ x', es[i + 1]? = some x' := ⟨_, List.getElem?_eq_getElem hi⟩
  refine ⟨eraAt_first hx (fun k y hk hy c => ?_) (.inr (by omega)), x', hx', eraAt_first hx' (fun k y hk hy c => ?_) ?_⟩
  · rcases c with c | c
    · rw [tl k y (by omega) hy] at c; cases c
    · have := le (i - k) k y (by omega) hy
      omega
  · rcases c with c | c
    · rw [tl k y (by omega) hy] at c; cases c
    · have := le (i - k) k y (by omega) hy
      omega
  · cases t : x'.til with
    | false => exact .inl t
    | true => exact .inr (H2 x' hx' t)
theorem holdL12 {Q : World → Prop} (C' : ErasQ Q) (S : Sr) (a b c : Hd) (ze : List Ze) (z i : Int) (w : World) (hv : SrcV w S a b c ze) (hx : S.in64) (_hz : In64 z) (_hi : In64 i) (LQ : Q w) : Calls Tryz.prog 8 #[.agg #[a.val, b.val, c.val], .int .i64 z, .int .i64 i] w (RetV w (.bool true)) := by
  have MO := Lib.hid C'.mono
  have AL := Lib.hid (fun W q => alive12 C' W q)
  have hn : ze.length = b.n := by have := hv.zones.len; simpa using this
  have EC := fun (j : Int) W (h : Below w.heap.size w W) (q : Q W) => C'.end_ S a b c ze z j W (hv.below h) hx q
  have AC := fun (T : Int) (hT : In64 T) W (h : Below w.heap.size w W) (q : Q W) => C'.at_ S a b c ze z T hT W (hv.below h) hx q
  have PC := fun (j T : Int) (hT : In64 T) W (h : Below w.heap.size w W) (q : Q W) => C'.phase S a b c ze z j T hT W (hv.below h) hx q
  have ZO := fun p => zone_ok hv (z := z) (p := p)
  have hq := hv
  obtain ⟨A, n, c'⟩ := a
  obtain ⟨B, m, d⟩ := b
  obtain ⟨C, q, e⟩ := c
  replace hn : ze.length = m := hn
  have GR := fun W (h : Below w.heap.size w W) => greatE S A B C n c' m d q e ze W (hq.below h)
  cases hg : gB n m q ze with
  | true =>
    rw [hg] at GR
    exact lh_0 MO AL w LQ A B C n c' m d q e z i (Lib.hid GR)
  | false =>
    rw [hg] at GR
    by_cases h0 : z < 0
    · exact lh_1 MO AL w LQ A B C n c' m d q e z i (decide_eq_true h0) (Lib.hid GR)
    · by_cases h1 : z ≥ (m : Int)
      · exact lh_2 MO AL w LQ A B C n c' m d q e z i (decide_eq_false h0) (decide_eq_true h1) (Lib.hid GR)
      · obtain ⟨p, hp⟩ : ∃ p, ze[z.toNat]? = some p := ⟨_, List.getElem?_eq_getElem (by omega)⟩
        obtain ⟨g, o, eB, hgg, ca⟩ := hq.zones.cells (by show 0 < m; omega)
        have eB : B = some ⟨g, o, none⟩ := eB
        subst eB
        have ra := row_at ca (show (ze.map Ze.vals)[z.toNat]? = some (Ze.vals p) by rw [List.getElem?_map, hp]; rfl)
        have er : eraRows w p := hq.eras p (List.mem_of_getElem? hp)
        have zz : ((z.toNat : Nat) : Int) = z := by omega
        have hu : p.1.eras.length = p.2.n := by have := er.len; simpa using this
        have FIN : ∀ n', (∀ j : Nat, j + 1 < p.2.n → (endO S.rules (eraAtP S ze z (j : Int))).2 = true ∧ ((endO S.rules (eraAtP S ze z ((j : Int) + 1))).2 = true → (endO S.rules (eraAtP S ze z (j : Int))).1 < (endO S.rules (eraAtP S ze z ((j : Int) + 1))).1)) → endO S.rules (eraAtP S ze z i) = (n', true) → (-20000000000000 ≤ n' ∧ n' ≤ 20000000000000 ∧ 0 ≤ i ∧ i < (p.2.n : Int)) ∧ ∃ po ps pa qo qs qa,
            (∀ W, Below w.heap.size w W → Q W → Calls Tryz.prog 18 #[.agg #[.slice A n c', .slice (some ⟨g, o, none⟩) m d, .slice C q e], .int .i64 z, .int .i64 (n' - 1)] W (RetPB W ⟨po, ps, pa⟩ true)) ∧
            (∀ W, Below w.heap.size w W → Q W → Calls Tryz.prog 18 #[.agg #[.slice A n c', .slice (some ⟨g, o, none⟩) m d, .slice C q e], .int .i64 z, .int .i64 n'] W (RetPB W ⟨qo, qs, qa⟩ true)) ∧
            (∀ W, Below w.heap.size w W → Q W → Calls Tryz.prog 16 #[.agg #[.slice A n c', .slice (some ⟨g, o, none⟩) m d, .slice C q e], .int .i64 z, .int .i64 i, .int .i64 (n' - 1)] W (RetPB W ⟨po, ps, pa⟩ true)) ∧
            (∀ W, Below w.heap.size w W → Q W → Calls Tryz.prog 16 #[.agg #[.slice A n c', .slice (some ⟨g, o, none⟩) m d, .slice C q e], .int .i64 z, .int .i64 (i + 1), .int .i64 n'] W (RetPB W ⟨qo, qs, qa⟩ true)) := by
          intro n' RI hf
          cases hk : okSr S with
          | false =>
            rw [eraAtP_none (zoneAt_bad hk)] at hf
            exact (endO_none hf).elim
          | true =>
            have hz1 := zoneAt_hit hk h0 hp
            obtain ⟨zok, _, _, hL, hS⟩ := ZO p hz1
            have EA := fun j => eraAtP_some (S := S) (ze := ze) (z := z) (i := j) hz1
            have i0 : 0 ≤ i := by
              apply Classical.byContradiction
              intro c
              rw [EA, if_neg c] at hf
              exact endO_none hf
            cases hxx : p.1.eras[i.toNat]? with
            | none =>
              rw [EA, if_pos i0, hxx] at hf
              exact (endO_none hf).elim
            | some x =>
              have fx : ErF x := era_fit (zok.2.2.1 x (List.mem_of_getElem? hxx))
              have hl := (List.getElem?_eq_some_iff.1 hxx).1
              have hf2 := hf
              rw [EA, if_pos i0, hxx] at hf2
              obtain ⟨tx, rfl⟩ := endO_some hf2
              have bd := end_in hL fx
              have AN : ∀ (j : Nat), eraAtP S ze z (j : Int) = p.1.eras[j]? := fun j => by rw [EA, if_pos (by omega)]; rfl
              obtain ⟨r1, x', hx', r2⟩ := rises (L := S.rules) zok.2.2.2 hxx tx (fun j y y' hy hy' ty' => by
                have hjl := (List.getElem?_eq_some_iff.1 hy').1
                obtain ⟨q1, q2⟩ := RI j (by omega)
                have e1 := AN j
                have e2 := AN (j + 1)
                rw [show (((j + 1 : Nat)) : Int) = (j : Int) + 1 by omega] at e2
                rw [e1, e2, hy, hy', endO_til ty'] at q2
                rw [e1, hy] at q1
                have ty : y.til = true := by
                  cases t : y.til with
                  | true => rfl
                  | false =>
                    have q1 : (if y.til = true then (endE S.rules y, true) else ((0 : Int), false)).2 = true := q1
                    rw [t] at q1
                    cases q1
                rw [endO_til ty] at q2
                exact q2 rfl) (fun y' hy' ty' => by
                have hjl := (List.getElem?_eq_some_iff.1 hy').1
                obtain ⟨_, q2⟩ := RI i.toNat (by omega)
                have e1 := AN i.toNat
                have e2 := AN (i.toNat + 1)
                rw [show (((i.toNat + 1 : Nat)) : Int) = (i.toNat : Int) + 1 by omega] at e2
                rw [e1, e2, hxx, hy', endO_til ty', endO_til tx] at q2
                exact q2 rfl)
              have EX : eraAtP S ze z i = some x := by rw [EA, if_pos i0]; exact hxx
              have EX' : eraAtP S ze z (i + 1) = some x' := by rw [EA, if_pos (by omega), show (i + 1).toNat = i.toNat + 1 by omega]; exact hx'
              refine ⟨⟨bd.1, bd.2, i0, by omega⟩, ?_⟩
              obtain ⟨⟨po, ps, pa⟩, hP⟩ : ∃ t, phE abbrB S.rules x (endE S.rules x - 1) = t := ⟨_, rfl⟩
              obtain ⟨⟨qo, qs, qa⟩, hQ⟩ : ∃ t, phE abbrB S.rules x' (endE S.rules x) = t := ⟨_, rfl⟩
              refine ⟨po, ps, pa, qo, qs, qa, fun W h q => ?_, fun W h q => ?_, fun W h q => ?_, fun W h q => ?_⟩
              · have t := AC (endE S.rules x - 1) (by unfold In64; omega) W h q
                rw [hz1] at t
                rw [show atO abbrB S.rules (some p) (endE S.rules x - 1) = _ from (atE_some r1).trans hP] at t
                exact t
              · have t := AC (endE S.rules x) (by unfold In64; omega) W h q
                rw [hz1] at t
                rw [show atO abbrB S.rules (some p) (endE S.rules x) = _ from (atE_some r2).trans hQ] at t
                exact t
              · have t := PC i (endE S.rules x - 1) (by unfold In64; omega) W h q
                rw [EX] at t
                rw [show phO abbrB S.rules (some x) (endE S.rules x - 1) = _ from hP] at t
                exact t
              · have t := PC (i + 1) (endE S.rules x) (by unfold In64; omega) W h q
                rw [EX'] at t
                rw [show phO abbrB S.rules (some x') (endE S.rules x) = _ from hQ] at t
                exact t
        obtain ⟨⟨nm, es⟩, ⟨Z, u, cu⟩⟩ := p
        have Y1 : w.cell? ⟨g, o + z.toNat * 2 + 1, none⟩ = some (.slice Z u cu) := ra 1 _ rfl
        generalize hff : (fun j => endO S.rules (eraAtP S ze z j)) = f at *
        have EC2 : ∀ (j : Int) W, Below w.heap.size w W → Q W → Calls Tryz.prog 13 #[.agg #[.slice A n c', .slice (some ⟨g, o, none⟩) m d, .slice C q e], .int .i64 z, .int .i64 j] W (RetNumB W (f j).1 (f j).2) := fun j W h q => by rw [← hff]; exact EC j W h q
        have t := lh_m MO AL w LQ g o A C n c' m d q e z.toNat i (by omega) hq.zones.cap hq.zones.max hgg Z u cu er.cap er.max (Lib.hid Y1) f (Lib.hid GR) (Lib.hid (fun j W h q => by rw [zz]; exact EC2 j W h q)) (Lib.hid fun n' h hf => by rw [zz]; rw [← hff] at h hf; exact FIN n' h hf)
        rw [zz] at t
        exact t
end Go.Proofs.YtallclimljiplaaGreatDoor
