/- The document's answer of layer 8: the fields of a line, walked. -/
import Derived.Test.YtnkmlfbnfndfpaaGreatDoorZGq
import Derived.WalkSmall
import Derived.Laws.DeepStrings4
namespace Go.Proofs.YtnkmlfbnfndfpaaGreatDoor
open Go.RowKit
theorem word_info : (Tryz.prog.info? 73).map (fun i => (i.zero, i.size, i.bytes)) = some (some (.agg #[.string ⟨#[]⟩, .int .i64 0]), 2, 24) := by kernel_rfl
def SplitRel (w : World) (s : ByteArray) (v i : Value) (wr : World) : Prop :=
  ∃ (out : List (ByteArray × Int)) (k n f : Nat), k ≤ s.size ∧ wr.ownsRow w.heap.size 73 2 v n (words out) ∧ i = .int .i64 k ∧ n ≤ 16 ∧ s.size - k < f ∧ splitGo s f out k = splitGo s (s.size + 1) [] 0 ∧ Below w.heap.size w wr
theorem byte_ne {s : ByteArray} {k : Nat} (h : k < s.size) (n : UInt8) (i : Int) (hi : (n.toNat : Int) = i) : (s[k] = n → ((s[k].toNat : Int) != i) = false) ∧ (¬ s[k] = n → ((s[k].toNat : Int) != i) = true) := by
  constructor
  · intro e; rw [e, bne_eq_false_iff_eq]; exact hi
  · intro e; rw [bne_iff_ne]; intro c; exact e (by rw [← UInt8.toNat_inj]; omega)
theorem blank_yes {b : Int} {p : Bool} (h : blankB b = p) (w : World) : Calls Tryz.prog 40 #[.int .u8 b] w (fun e w' => e = .returned (.bool p) ∧ w = w') := h ▸ blankR b w
theorem bare_yes {b : Int} {p : Bool} (h : bareB b = p) (w : World) : Calls Tryz.prog 41 #[.int .u8 b] w (fun e w' => e = .returned (.bool p) ∧ w = w') := h ▸ bareR b w
set_option maxRecDepth 100000 in
set_option maxHeartbeats 16000000 in
theorem splitR (s : ByteArray) (hs : s.size ≤ 1000000) (w : World) : Calls Tryz.prog 23 #[.string s] w (RetFld w (splitRes s)) := by
  obtain ⟨i0, hi, hz0, hz1, hz2⟩ := info_partsS word_info
  by_cases h500 : 500 < s.size
  · have E := Lib.hid (show splitRes s = ([], 500, 12) from if_pos h500)
    go_enter Tryz.func23, Tryz.ntmps23
    go_wp2
    go_ret3
    exact ⟨none, 0, 0, by rw [E.out]; rfl, by rw [E.out]; exact Fs.nil _, Below.refl _ _⟩
  · have E := Lib.hid (show splitRes s = splitGo s (s.size + 1) [] 0 from if_neg h500)
    go_enter Tryz.func23, Tryz.ntmps23
    go_wp2
    go_loopw [5, 6] (fun v i wr => SplitRel w s v i wr) (fun _ i _ => s.size - (intOf i).toNat)
    case atStart => exact ⟨[], 0, 0, s.size + 1, by omega, World.ownsRow_nil w _ _ _, rfl, by omega, by omega, rfl, Below.refl _ _⟩
    case round =>
      obtain ⟨out, k, n, f, hk, hown, rfl, hn, hf, he, hbel⟩ := hrel
      obtain ⟨A, c, rfl, hS⟩ := Fs.of_own hown
      have hlt := hown.lt
      have hsz := hbel.size
      have LN := Lib.hid hS.len
      obtain ⟨f, rfl⟩ : ∃ g, f = g + 1 := ⟨f - 1, by omega⟩
      have E := Lib.hid (E.out.trans he.symm)
      clear he
      by_cases h1 : k < s.size
      · obtain ⟨a1, a2⟩ := byte_ne h1 35 35 rfl
        by_cases a : s[k] = 35
        · have g1 := a1 a
          have EE := Lib.hid (E.out.trans (sp_remark h1 a))
          clear a1 a2 a E
          go_wp2
          go_ret3
          exact ⟨A, n, c, by rw [EE.out]; rfl, by rw [EE.out]; exact hS, hbel⟩
        · have g1 := a2 a
          clear a1 a2
          cases bl : blankB s[k].toNat with
          | true =>
            have EE := Lib.hid (E.out.trans (sp_blank h1 a bl))
            have BW := Lib.hid (blank_yes bl)
            clear a bl E
            go_wp2_with (go_at_call 40; refine (BW.out _).mono ?_; rintro e w' ⟨rfl, rfl⟩)
            go_roundw
            case rel => exact ⟨out, k + 1, n, f, by omega, hown, int_eqS (by omega), hn, by omega, EE.out.symm.trans (if_neg h500), hbel⟩
            case measure => simp only [intOf]; omega
          | false =>
            have BW := Lib.hid (blank_yes bl)
            obtain ⟨q1, q2⟩ := byte_ne h1 34 34 rfl
            obtain ⟨q3, q4⟩ := byte_is h1 34 34 rfl
            by_cases q : s[k] = 34
            · skip
              have g2 := q1 q
              have g3 := q3 q
              clear q1 q2 q3 q4
              have SS := Lib.hid (secondR s k hs (by omega))
              by_cases m : n = 16
              · have EF := Lib.hid (E.out.trans (sp_many h1 a bl (.inl q) (LN.out.trans m)))
                clear a bl E q
                subst m
                go_wp2_with first
                  | (go_at_call 40; refine (BW.out _).mono ?_; rintro e w' ⟨rfl, rfl⟩)
                  | (go_at_call 42; refine (SW.out _).mono ?_; rintro e w' ⟨rfl, rfl⟩)
                go_ret3
                exact ⟨none, 0, 0, by rw [EF.out]; rfl, by rw [EF.out]; exact Fs.nil _, hbel⟩
              · have EE := E.out.trans (sp_quo h1 a bl q (by rw [LN.out]; exact m))
                have m1 : ((n : Int) == 16) = false := by rw [beq_eq_false_iff_ne]; omega
                clear a bl E q
                cases hq : quoAt s (k + 1) with
                | none =>
                  rw [hq] at EE
                  replace EE := Lib.hid EE
                  have EF := EE
                  have SW := Lib.hid (fun w => show Calls Tryz.prog 42 #[.string s, .int .i64 k] w (fun e w' => e = .returned (.int .i64 (-1)) ∧ w = w') from by have := SS.out w; rw [show quoI s (k + 1) = -1 from by unfold quoI; rw [hq]] at this; exact this)
                  clear EE hq SS
                  go_wp2_with first
                    | (go_at_call 40; refine (BW.out _).mono ?_; rintro e w' ⟨rfl, rfl⟩)
                    | (go_at_call 42; refine (SW.out _).mono ?_; rintro e w' ⟨rfl, rfl⟩)
                  go_ret3
                  exact ⟨none, 0, 0, by rw [EF.out]; rfl, by rw [EF.out]; exact Fs.nil _, hbel.alloc hsz _⟩
                | some e =>
                  obtain ⟨e1, e2⟩ := quoAt_in s.size (k + 1) (by omega) e hq
                  have SW := Lib.hid (fun w => show Calls Tryz.prog 42 #[.string s, .int .i64 k] w (fun z w' => z = .returned (.int .i64 e) ∧ w = w') from by have := SS.out w; rw [show quoI s (k + 1) = e from by unfold quoI; rw [hq]] at this; exact this)
                  rw [hq] at EE
                  replace EE := Lib.hid EE
                  clear hq SS
                  have nn : ¬ ((e : Int) < 0) := by omega
                  go_wp2_with first
                    | (go_at_call 40; refine (BW.out _).mono ?_; rintro e w' ⟨rfl, rfl⟩)
                    | (go_at_call 42; refine (SW.out _).mono ?_; rintro e w' ⟨rfl, rfl⟩)
                  go_loop [9] (fun v9 => ∃ j : Nat, k + 1 ≤ j ∧ j ≤ e ∧ v9 = .int .i64 j ∧ badIn s j e = badIn s (k + 1) e) (fun v9 => e - (intOf v9).toNat)
                  case atStart => exact ⟨k + 1, by omega, by omega, by go_num, rfl⟩
                  case round =>
                    obtain ⟨j, hkj, hj, rfl, hje⟩ := hrel
                    have JE := Lib.hid hje
                    clear hje
                    by_cases h3 : j < e
                    · have h4 : j < s.size := by omega
                      by_cases b1 : (s[j].toNat : Int) < 32
                      · have d1 : decide ((s[j].toNat : Int) < 32) = true := decide_eq_true b1
                        have EF := EE.out
                        simp only [← JE.out, badIn_here h3 h4 (.inl (by omega))] at EF
                        replace EF := Lib.hid EF
                        clear EE JE
                        go_wp2
                        go_ret3
                        exact ⟨none, 0, 0, by rw [EF.out]; rfl, by rw [EF.out]; exact Fs.nil _, hbel.alloc hsz _⟩
                      · have d1 : decide ((s[j].toNat : Int) < 32) = false := decide_eq_false b1
                        by_cases b2 : 126 < (s[j].toNat : Int)
                        · have d2 : decide (126 < (s[j].toNat : Int)) = true := decide_eq_true b2
                          have EF := EE.out
                          simp only [← JE.out, badIn_here h3 h4 (.inr (by omega))] at EF
                          replace EF := Lib.hid EF
                          clear EE JE
                          go_wp2
                          go_ret3
                          exact ⟨none, 0, 0, by rw [EF.out]; rfl, by rw [EF.out]; exact Fs.nil _, hbel.alloc hsz _⟩
                        · have d2 : decide (126 < (s[j].toNat : Int)) = false := decide_eq_false b2
                          have NE := Lib.hid ((badIn_on h3 h4 (by omega)).symm.trans JE.out)
                          clear JE
                          go_wp2
                          go_round
                          case rel => exact ⟨j + 1, by omega, by omega, by go_num, NE.out⟩
                          case measure => simp [intOf]; omega
                    · have EF := EE.out
                      simp only [← JE.out, badIn_end h3] at EF
                      clear EE JE
                      by_cases h2 : e + 1 < s.size
                      · skip
                        obtain ⟨z1, z2⟩ := byte_ne h2 35 35 rfl
                        cases bj : blankB s[e + 1].toNat with
                        | true =>
                          have BJ := Lib.hid (blank_yes bj)
                          rw [show blocked s (e + 1) = false from by unfold blocked; rw [dif_pos h2, bj]; rfl, if_neg (by decide)] at EF
                          replace EF := Lib.hid EF
                          clear bj z1 z2
                          have CT := cell_two_new (wr.alloc (.cells #[.string (s.extract (k + 1) e), .int .i64 k] 73)) (.string (s.extract (k + 1) e)) (.int .i64 k) 73
                          have hs1 : (wr.alloc (.cells #[.string (s.extract (k + 1) e), .int .i64 k] 73)).heap.size = wr.heap.size + 1 := by simp
                          rw [hs1] at CT
                          go_wp2_with first
                            | (go_at_call 40; refine (BJ.out _).mono ?_; rintro e w' ⟨rfl, rfl⟩)
                            | (go_at_call 41; refine (RJ.out _).mono ?_; rintro e w' ⟨rfl, rfl⟩)
                            | (at_builtin
                               refine wpList_append_own_at _ rfl (.tmp 120) (.tmp 122) 43 rfl w.heap.size 73 i0 _ 2 24 Tryz.underlying43 hi hz0 hz1 hz2 rfl (by decide) (.slice A n c) n (words out) rfl ((hown.alloc _).alloc _) ⟨wr.heap.size + 1, 0, none⟩ 1 1 [.string (s.extract (k + 1) e), .int .i64 k] rfl rfl CT ?_ ?_ ?_ ?_ ?_
                               · intro u hu; rcases List.mem_cons.1 hu with hu | hu; rw [hu]; rfl; rw [List.mem_singleton.1 hu]; rfl
                               · unfold maxLen; omega
                               · omega
                               · simp; omega
                               intro v1 w1 hown1 hg1 _ _)
                          rw [words_snoc] at hown1
                          go_roundw
                          case rel => exact ⟨out ++ [((s.extract (k + 1) e), (k : Int))], (e + 1), n + 1, f, by omega, hown1, int_eqS (by omega), by omega, by omega, EF.out.symm.trans (if_neg h500), ((hbel.alloc hsz _).alloc (by simp; omega) _).grown hg1 (by simp; omega) (fun q hq => (hlt q hq).1)⟩
                          case measure => simp only [intOf]; omega
                        | false =>
                          have BJ := Lib.hid (blank_yes bj)
                          by_cases z : s[e + 1] = 35
                          · have g5 := z1 z
                            rw [show blocked s (e + 1) = false from by unfold blocked; rw [dif_pos h2, z, decide_eq_false (by simp), Bool.and_false], if_neg (by decide)] at EF
                            replace EF := Lib.hid EF
                            clear bj z1 z2 z
                            have CT := cell_two_new (wr.alloc (.cells #[.string (s.extract (k + 1) e), .int .i64 k] 73)) (.string (s.extract (k + 1) e)) (.int .i64 k) 73
                            have hs1 : (wr.alloc (.cells #[.string (s.extract (k + 1) e), .int .i64 k] 73)).heap.size = wr.heap.size + 1 := by simp
                            rw [hs1] at CT
                            go_wp2_with first
                              | (go_at_call 40; refine (BJ.out _).mono ?_; rintro e w' ⟨rfl, rfl⟩)
                              | (go_at_call 41; refine (RJ.out _).mono ?_; rintro e w' ⟨rfl, rfl⟩)
                              | (at_builtin
                                 refine wpList_append_own_at _ rfl (.tmp 120) (.tmp 122) 43 rfl w.heap.size 73 i0 _ 2 24 Tryz.underlying43 hi hz0 hz1 hz2 rfl (by decide) (.slice A n c) n (words out) rfl ((hown.alloc _).alloc _) ⟨wr.heap.size + 1, 0, none⟩ 1 1 [.string (s.extract (k + 1) e), .int .i64 k] rfl rfl CT ?_ ?_ ?_ ?_ ?_
                                 · intro u hu; rcases List.mem_cons.1 hu with hu | hu; rw [hu]; rfl; rw [List.mem_singleton.1 hu]; rfl
                                 · unfold maxLen; omega
                                 · omega
                                 · simp; omega
                                 intro v1 w1 hown1 hg1 _ _)
                            rw [words_snoc] at hown1
                            go_roundw
                            case rel => exact ⟨out ++ [((s.extract (k + 1) e), (k : Int))], (e + 1), n + 1, f, by omega, hown1, int_eqS (by omega), by omega, by omega, EF.out.symm.trans (if_neg h500), ((hbel.alloc hsz _).alloc (by simp; omega) _).grown hg1 (by simp; omega) (fun q hq => (hlt q hq).1)⟩
                            case measure => simp only [intOf]; omega
                          · have g5 := z2 z
                            rw [show blocked s (e + 1) = true from by unfold blocked; rw [dif_pos h2, bj, decide_eq_true z]; rfl, if_pos rfl] at EF
                            replace EF := Lib.hid EF
                            clear bj z1 z2 z
                            go_wp2_with first
                              | (go_at_call 40; refine (BJ.out _).mono ?_; rintro e w' ⟨rfl, rfl⟩)
                              | (go_at_call 41; refine (RJ.out _).mono ?_; rintro e w' ⟨rfl, rfl⟩)
                            go_ret3
                            exact ⟨none, 0, 0, by rw [EF.out]; rfl, by rw [EF.out]; exact Fs.nil _, hbel.alloc hsz _⟩
                      · rw [show blocked s (e + 1) = false from dif_neg h2, if_neg (by decide)] at EF
                        replace EF := Lib.hid EF
                        have CT := cell_two_new (wr.alloc (.cells #[.string (s.extract (k + 1) e), .int .i64 k] 73)) (.string (s.extract (k + 1) e)) (.int .i64 k) 73
                        have hs1 : (wr.alloc (.cells #[.string (s.extract (k + 1) e), .int .i64 k] 73)).heap.size = wr.heap.size + 1 := by simp
                        rw [hs1] at CT
                        go_wp2_with first
                          | (go_at_call 40; refine (BJ.out _).mono ?_; rintro e w' ⟨rfl, rfl⟩)
                          | (go_at_call 41; refine (RJ.out _).mono ?_; rintro e w' ⟨rfl, rfl⟩)
                          | (at_builtin
                             refine wpList_append_own_at _ rfl (.tmp 120) (.tmp 122) 43 rfl w.heap.size 73 i0 _ 2 24 Tryz.underlying43 hi hz0 hz1 hz2 rfl (by decide) (.slice A n c) n (words out) rfl ((hown.alloc _).alloc _) ⟨wr.heap.size + 1, 0, none⟩ 1 1 [.string (s.extract (k + 1) e), .int .i64 k] rfl rfl CT ?_ ?_ ?_ ?_ ?_
                             · intro u hu; rcases List.mem_cons.1 hu with hu | hu; rw [hu]; rfl; rw [List.mem_singleton.1 hu]; rfl
                             · unfold maxLen; omega
                             · omega
                             · simp; omega
                             intro v1 w1 hown1 hg1 _ _)
                        rw [words_snoc] at hown1
                        go_roundw
                        case rel => exact ⟨out ++ [((s.extract (k + 1) e), (k : Int))], e + 1, n + 1, f, by omega, hown1, int_eqS (by omega), by omega, by omega, EF.out.symm.trans (if_neg h500), ((hbel.alloc hsz _).alloc (by simp; omega) _).grown hg1 (by simp; omega) (fun q hq => (hlt q hq).1)⟩
                        case measure => simp only [intOf]; omega
            · have g2 := q2 q
              have g3 := q4 q
              clear q1 q2 q3 q4
              cases ba : bareB s[k].toNat with
              | false =>
                have EE := Lib.hid (E.out.trans (sp_no h1 a bl q ba))
                have RW := Lib.hid (bare_yes ba)
                clear a bl E q ba
                go_wp2_with first
                  | (go_at_call 40; refine (BW.out _).mono ?_; rintro e w' ⟨rfl, rfl⟩)
                  | (go_at_call 41; refine (RW.out _).mono ?_; rintro e w' ⟨rfl, rfl⟩)
                go_ret3
                exact ⟨none, 0, 0, by rw [EE.out]; rfl, by rw [EE.out]; exact Fs.nil _, hbel⟩
              | true =>
                have RW := Lib.hid (bare_yes ba)
                by_cases m : n = 16
                · have EE := Lib.hid (E.out.trans (sp_many h1 a bl (.inr ba) (LN.out.trans m)))
                  clear a bl E q ba
                  subst m
                  go_wp2_with first
                    | (go_at_call 40; refine (BW.out _).mono ?_; rintro e w' ⟨rfl, rfl⟩)
                    | (go_at_call 41; refine (RW.out _).mono ?_; rintro e w' ⟨rfl, rfl⟩)
                  go_ret3
                  exact ⟨none, 0, 0, by rw [EE.out]; rfl, by rw [EE.out]; exact Fs.nil _, hbel⟩
                · have EE := Lib.hid (E.out.trans (sp_bare h1 a bl q ba (by rw [LN.out]; exact m)))
                  have m1 : ((n : Int) == 16) = false := by rw [beq_eq_false_iff_ne]; omega
                  obtain ⟨e1, e2⟩ := bareEnd_lt h1 ba
                  clear a bl E q ba
                  go_wp2_with first
                    | (go_at_call 40; refine (BW.out _).mono ?_; rintro e w' ⟨rfl, rfl⟩)
                    | (go_at_call 41; refine (RW.out _).mono ?_; rintro e w' ⟨rfl, rfl⟩)
                  go_loop [6] (fun v6 => ∃ j : Nat, j ≤ s.size ∧ k ≤ j ∧ v6 = .int .i64 j ∧ bareEnd s j = bareEnd s k) (fun v6 => s.size - (intOf v6).toNat)
                  case atStart => exact ⟨k, by omega, by omega, rfl, rfl⟩
                  case round =>
                    obtain ⟨j, hj, hkj, rfl, hje⟩ := hrel
                    have JE := Lib.hid hje
                    clear hje
                    by_cases h2 : j < s.size
                    · cases bj : bareB s[j].toNat with
                      | true =>
                        have NE := Lib.hid ((bareEnd_on h2 bj).symm.trans JE.out)
                        have RJ := Lib.hid (bare_yes bj)
                        clear bj
                        go_wp2_with (go_at_call 41; refine (RJ.out _).mono ?_; rintro e w' ⟨rfl, rfl⟩)
                        go_round
                        case rel => exact ⟨j + 1, by omega, by omega, by go_num, NE.out⟩
                        case measure => simp [intOf]; omega
                      | false =>
                        have NE := Lib.hid ((bareEnd_here h2 bj).symm.trans JE.out)
                        have RJ := Lib.hid (bare_yes bj)
                        clear bj
                        have EF := EE.out
                        rw [← NE.out] at EF
                        have kj : k < j := by have := NE.out; omega
                        clear EE NE JE
                        obtain ⟨z1, z2⟩ := byte_ne h2 35 35 rfl
                        cases bj : blankB s[j].toNat with
                        | true =>
                          have BJ := Lib.hid (blank_yes bj)
                          rw [show blocked s j = false from by unfold blocked; rw [dif_pos h2, bj]; rfl, if_neg (by decide)] at EF
                          replace EF := Lib.hid EF
                          clear bj z1 z2
                          have CT := cell_two_new (wr.alloc (.cells #[.string (s.extract k j), .int .i64 k] 73)) (.string (s.extract k j)) (.int .i64 k) 73
                          have hs1 : (wr.alloc (.cells #[.string (s.extract k j), .int .i64 k] 73)).heap.size = wr.heap.size + 1 := by simp
                          rw [hs1] at CT
                          go_wp2_with first
                            | (go_at_call 40; refine (BJ.out _).mono ?_; rintro e w' ⟨rfl, rfl⟩)
                            | (go_at_call 41; refine (RJ.out _).mono ?_; rintro e w' ⟨rfl, rfl⟩)
                            | (at_builtin
                               refine wpList_append_own_at _ rfl (.tmp 120) (.tmp 122) 43 rfl w.heap.size 73 i0 _ 2 24 Tryz.underlying43 hi hz0 hz1 hz2 rfl (by decide) (.slice A n c) n (words out) rfl ((hown.alloc _).alloc _) ⟨wr.heap.size + 1, 0, none⟩ 1 1 [.string (s.extract k j), .int .i64 k] rfl rfl CT ?_ ?_ ?_ ?_ ?_
                               · intro u hu; rcases List.mem_cons.1 hu with hu | hu; rw [hu]; rfl; rw [List.mem_singleton.1 hu]; rfl
                               · unfold maxLen; omega
                               · omega
                               · simp; omega
                               intro v1 w1 hown1 hg1 _ _)
                          rw [words_snoc] at hown1
                          go_roundw
                          case rel => exact ⟨out ++ [((s.extract k j), (k : Int))], j, n + 1, f, by omega, hown1, rfl, by omega, by omega, EF.out.symm.trans (if_neg h500), ((hbel.alloc hsz _).alloc (by simp; omega) _).grown hg1 (by simp; omega) (fun q hq => (hlt q hq).1)⟩
                          case measure => simp only [intOf]; omega
                        | false =>
                          have BJ := Lib.hid (blank_yes bj)
                          by_cases z : s[j] = 35
                          · have g5 := z1 z
                            rw [show blocked s j = false from by unfold blocked; rw [dif_pos h2, z, decide_eq_false (by simp), Bool.and_false], if_neg (by decide)] at EF
                            replace EF := Lib.hid EF
                            clear bj z1 z2 z
                            have CT := cell_two_new (wr.alloc (.cells #[.string (s.extract k j), .int .i64 k] 73)) (.string (s.extract k j)) (.int .i64 k) 73
                            have hs1 : (wr.alloc (.cells #[.string (s.extract k j), .int .i64 k] 73)).heap.size = wr.heap.size + 1 := by simp
                            rw [hs1] at CT
                            go_wp2_with first
                              | (go_at_call 40; refine (BJ.out _).mono ?_; rintro e w' ⟨rfl, rfl⟩)
                              | (go_at_call 41; refine (RJ.out _).mono ?_; rintro e w' ⟨rfl, rfl⟩)
                              | (at_builtin
                                 refine wpList_append_own_at _ rfl (.tmp 120) (.tmp 122) 43 rfl w.heap.size 73 i0 _ 2 24 Tryz.underlying43 hi hz0 hz1 hz2 rfl (by decide) (.slice A n c) n (words out) rfl ((hown.alloc _).alloc _) ⟨wr.heap.size + 1, 0, none⟩ 1 1 [.string (s.extract k j), .int .i64 k] rfl rfl CT ?_ ?_ ?_ ?_ ?_
                                 · intro u hu; rcases List.mem_cons.1 hu with hu | hu; rw [hu]; rfl; rw [List.mem_singleton.1 hu]; rfl
                                 · unfold maxLen; omega
                                 · omega
                                 · simp; omega
                                 intro v1 w1 hown1 hg1 _ _)
                            rw [words_snoc] at hown1
                            go_roundw
                            case rel => exact ⟨out ++ [((s.extract k j), (k : Int))], j, n + 1, f, by omega, hown1, rfl, by omega, by omega, EF.out.symm.trans (if_neg h500), ((hbel.alloc hsz _).alloc (by simp; omega) _).grown hg1 (by simp; omega) (fun q hq => (hlt q hq).1)⟩
                            case measure => simp only [intOf]; omega
                          · have g5 := z2 z
                            rw [show blocked s j = true from by unfold blocked; rw [dif_pos h2, bj, decide_eq_true z]; rfl, if_pos rfl] at EF
                            replace EF := Lib.hid EF
                            clear bj z1 z2 z
                            go_wp2_with first
                              | (go_at_call 40; refine (BJ.out _).mono ?_; rintro e w' ⟨rfl, rfl⟩)
                              | (go_at_call 41; refine (RJ.out _).mono ?_; rintro e w' ⟨rfl, rfl⟩)
                            go_ret3
                            exact ⟨none, 0, 0, by rw [EF.out]; rfl, by rw [EF.out]; exact Fs.nil _, hbel.alloc hsz _⟩
                    · have NE := Lib.hid ((bareEnd_end h2).symm.trans JE.out)
                      have EF := EE.out
                      rw [← NE.out, show blocked s j = false from dif_neg h2, if_neg (by decide)] at EF
                      replace EF := Lib.hid EF
                      clear EE NE JE
                      have CT := cell_two_new (wr.alloc (.cells #[.string (s.extract k j), .int .i64 k] 73)) (.string (s.extract k j)) (.int .i64 k) 73
                      have hs1 : (wr.alloc (.cells #[.string (s.extract k j), .int .i64 k] 73)).heap.size = wr.heap.size + 1 := by simp
                      rw [hs1] at CT
                      go_wp2_with first
                        | (go_at_call 40; refine (BJ.out _).mono ?_; rintro e w' ⟨rfl, rfl⟩)
                        | (go_at_call 41; refine (RJ.out _).mono ?_; rintro e w' ⟨rfl, rfl⟩)
                        | (at_builtin
                           refine wpList_append_own_at _ rfl (.tmp 120) (.tmp 122) 43 rfl w.heap.size 73 i0 _ 2 24 Tryz.underlying43 hi hz0 hz1 hz2 rfl (by decide) (.slice A n c) n (words out) rfl ((hown.alloc _).alloc _) ⟨wr.heap.size + 1, 0, none⟩ 1 1 [.string (s.extract k j), .int .i64 k] rfl rfl CT ?_ ?_ ?_ ?_ ?_
                           · intro u hu; rcases List.mem_cons.1 hu with hu | hu; rw [hu]; rfl; rw [List.mem_singleton.1 hu]; rfl
                           · unfold maxLen; omega
                           · omega
                           · simp; omega
                           intro v1 w1 hown1 hg1 _ _)
                      rw [words_snoc] at hown1
                      go_roundw
                      case rel => exact ⟨out ++ [((s.extract k j), (k : Int))], j, n + 1, f, by omega, hown1, rfl, by omega, by omega, EF.out.symm.trans (if_neg h500), ((hbel.alloc hsz _).alloc (by simp; omega) _).grown hg1 (by simp; omega) (fun q hq => (hlt q hq).1)⟩
                      case measure => simp only [intOf]; omega
      · have EE := Lib.hid (E.out.trans (sp_end h1))
        go_wp2
        go_ret3
        exact ⟨A, n, c, by rw [EE.out]; rfl, by rw [EE.out]; exact hS, hbel⟩
end Go.Proofs.YtnkmlfbnfndfpaaGreatDoor
