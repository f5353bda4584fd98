/- The walk of RoundAll: at any two numbers of 64 bits and any mode it returns true; what was there is as it was. -/
import Derived.Test.YtnopgdheffnfdaaRalive
import Derived.Test.YtnopgdheffnfdaaRnums
import Derived.Deep.RegionHeld3
namespace Go.Proofs.Ytnopgdheffnfdaa
open Go.RowKit

/-- the loop's variable, and what was there before -/
def AllRel (w : World) (v : Value) (W : World) : Prop := ∃ i : Int, 1 ≤ i ∧ i ≤ 10 ∧ v = .int .i64 i ∧ Below w.heap.size w W
set_option maxRecDepth 100000 in
set_option maxHeartbeats 8000000 in
theorem all_high (a m n inc : Int) (OA : Hid (∀ W, Calls Try.prog 14 #[.int .i64 a] W (fun o w' => o = .returned (.agg #[.int .i64 (hiW a), .int .u64 (loW a)]) ∧ Below W.heap.size W w'))) (ON : Hid (∀ W, Calls Try.prog 14 #[.int .i64 n] W (fun o w' => o = .returned (.agg #[.int .i64 (hiW n), .int .u64 (loW n)]) ∧ Below W.heap.size W w'))) (AL : Hid (∀ W, Calls Try.prog 11 #[] W (fun o w' => o = .returned (.bool true) ∧ Below W.heap.size W w'))) (MI : Hid (∀ W, Calls Try.prog 15 #[.int .i64 m] W (fun o w' => o = .returned (.int .i64 (mirM m)) ∧ Below W.heap.size W w'))) (SA : Hid (∀ i : Int, ∃ x y e : Int, (∀ W, Calls Try.prog 9 #[.agg #[.int .i64 (hiW a), .int .u64 (loW a)], .agg #[.int .i64 (hiW n), .int .u64 (loW n)], .int .i64 i] W (fun o w' => o = .returned (.tuple #[.agg #[.int .i64 x, .int .u64 y], .int .i64 e]) ∧ Below W.heap.size W w')) ∧ (∀ W, Calls Try.prog 10 #[.agg #[.int .i64 (hiW a), .int .u64 (loW a)], .agg #[.int .i64 (hiW n), .int .u64 (loW n)], .int .i64 i] W (fun o w' => o = .returned (.tuple #[.agg #[.int .i64 x, .int .u64 y], .int .i64 e]) ∧ Below W.heap.size W w')))) (hn : n = inc) (hc : ¬ inc < 1) (w : World) :
    Calls Try.prog 5 #[.int .i64 a, .int .i64 inc, .int .i64 m] w (RetV w (.bool true)) := by
  subst hn
  go_enter Try.func5, Try.ntmps5
  go_upto_region 3 with (fail)
  go_wp2_with fail
  go_loopw [7] (fun v7 wr => AllRel w v7 wr) (fun v7 _ => (10 - intOf v7).toNat)
  case atStart => exact ⟨1, by omega, by omega, rfl, Below.refl _ _⟩
  case round =>
    obtain ⟨i, i1, i2, rfl, HB⟩ := hrel
    by_cases hi : i ≤ 9
    · obtain ⟨x, y, e, T1, T2⟩ := SA.out i
      replace T1 := Lib.hid T1
      replace T2 := Lib.hid T2
      have KB : BK w [] _ := ⟨fun x hx => absurd hx (by simp), HB⟩
      clear HB
      go_wp2_with fail
      refine (OA.out _).mono ?_
      rintro e w1 ⟨rfl, k⟩
      replace KB := KB.below k
      clear k
      go_wp2_with fail
      refine (ON.out _).mono ?_
      rintro e w2 ⟨rfl, k⟩
      replace KB := KB.below k
      clear k
      go_wp2_with fail
      refine (T1.out _).mono ?_
      rintro e w3 ⟨rfl, k⟩
      replace KB := KB.below k
      clear k
      go_upto_region 7 with (fail)
      replace KB := KB.more2 (.int .i64 x) (.int .u64 y) 24
      generalize w3.alloc (.cells #[.int .i64 x, .int .u64 y] 24) = w4 at *
      generalize w3.heap.size = g at *
      go_wp2_with fail
      refine (OA.out _).mono ?_
      rintro e w5 ⟨rfl, k⟩
      replace KB := KB.below k
      clear k
      go_wp2_with fail
      refine (ON.out _).mono ?_
      rintro e w6 ⟨rfl, k⟩
      replace KB := KB.below k
      clear k
      go_wp2_with fail
      refine (T2.out _).mono ?_
      rintro e w7 ⟨rfl, k⟩
      replace KB := KB.below k
      clear k
      go_upto_region 8 with (fail)
      have hlh := KB.head.lt
      replace KB := KB.more2 (.int .i64 x) (.int .u64 y) 24
      generalize w7.alloc (.cells #[.int .i64 x, .int .u64 y] 24) = w8 at *
      have ih0 : w7.heap.size ≠ g := by omega
      have oh0 := Ne.symm ih0
      generalize w7.heap.size = h at *
      obtain ⟨_, ra, rb, rc, rd⟩ := (KB.head).two
      obtain ⟨_, sa, sb, sc, sd⟩ := (KB.tail.head).two
      have HB := KB.hb
      go_wp2_with fail
      go_roundw
      case rel => exact ⟨i + 1, by omega, by omega, by go_num, HB⟩
      case measure => simp [intOf]; omega
    · have hx : i = 10 := by omega
      subst hx
      clear SA OA ON i1 i2 hi
      by_cases h1 : m = 1
      · subst h1
        rw [show mirM 1 = 2 from rfl] at MI
        go_wp2_with fail
        refine (AL.out _).mono ?_
        rintro e W9 ⟨rfl, k⟩
        replace HB := below_thru HB k
        clear k
        go_wp2_with fail
        refine (MI.out _).mono ?_
        rintro e W8 ⟨rfl, k⟩
        replace HB := below_thru HB k
        clear k
        go_wp2
        go_ret
        exact ⟨rfl, HB⟩
      · have b1 : (m == 1) = false := by rw [beq_eq_false_iff_ne]; exact h1
        by_cases h2 : m = 2
        · subst h2
          rw [show mirM 2 = 1 from rfl] at MI
          go_wp2_with fail
          refine (AL.out _).mono ?_
          rintro e W9 ⟨rfl, k⟩
          replace HB := below_thru HB k
          clear k
          go_wp2_with fail
          refine (MI.out _).mono ?_
          rintro e W8 ⟨rfl, k⟩
          replace HB := below_thru HB k
          clear k
          go_wp2
          go_ret
          exact ⟨rfl, HB⟩
        · have b2 : (m == 2) = false := by rw [beq_eq_false_iff_ne]; exact h2
          by_cases h5 : m = 5
          · subst h5
            rw [show mirM 5 = 6 from rfl] at MI
            go_wp2_with fail
            refine (AL.out _).mono ?_
            rintro e W9 ⟨rfl, k⟩
            replace HB := below_thru HB k
            clear k
            go_wp2_with fail
            refine (MI.out _).mono ?_
            rintro e W8 ⟨rfl, k⟩
            replace HB := below_thru HB k
            clear k
            go_wp2
            go_ret
            exact ⟨rfl, HB⟩
          · have b5 : (m == 5) = false := by rw [beq_eq_false_iff_ne]; exact h5
            by_cases h6 : m = 6
            · subst h6
              rw [show mirM 6 = 5 from rfl] at MI
              go_wp2_with fail
              refine (AL.out _).mono ?_
              rintro e W9 ⟨rfl, k⟩
              replace HB := below_thru HB k
              clear k
              go_wp2_with fail
              refine (MI.out _).mono ?_
              rintro e W8 ⟨rfl, k⟩
              replace HB := below_thru HB k
              clear k
              go_wp2
              go_ret
              exact ⟨rfl, HB⟩
            · have b6 : (m == 6) = false := by rw [beq_eq_false_iff_ne]; exact h6
              rw [show mirM m = m by unfold mirM; rw [if_neg h1, if_neg h2, if_neg h5, if_neg h6]] at MI
              go_wp2_with fail
              refine (AL.out _).mono ?_
              rintro e W9 ⟨rfl, k⟩
              replace HB := below_thru HB k
              clear k
              go_wp2_with fail
              refine (MI.out _).mono ?_
              rintro e W8 ⟨rfl, k⟩
              replace HB := below_thru HB k
              clear k
              go_wp2
              go_ret
              exact ⟨rfl, HB⟩
set_option maxRecDepth 100000 in
set_option maxHeartbeats 8000000 in
theorem all_low (a m n inc : Int) (OA : Hid (∀ W, Calls Try.prog 14 #[.int .i64 a] W (fun o w' => o = .returned (.agg #[.int .i64 (hiW a), .int .u64 (loW a)]) ∧ Below W.heap.size W w'))) (ON : Hid (∀ W, Calls Try.prog 14 #[.int .i64 n] W (fun o w' => o = .returned (.agg #[.int .i64 (hiW n), .int .u64 (loW n)]) ∧ Below W.heap.size W w'))) (AL : Hid (∀ W, Calls Try.prog 11 #[] W (fun o w' => o = .returned (.bool true) ∧ Below W.heap.size W w'))) (MI : Hid (∀ W, Calls Try.prog 15 #[.int .i64 m] W (fun o w' => o = .returned (.int .i64 (mirM m)) ∧ Below W.heap.size W w'))) (SA : Hid (∀ i : Int, ∃ x y e : Int, (∀ W, Calls Try.prog 9 #[.agg #[.int .i64 (hiW a), .int .u64 (loW a)], .agg #[.int .i64 (hiW n), .int .u64 (loW n)], .int .i64 i] W (fun o w' => o = .returned (.tuple #[.agg #[.int .i64 x, .int .u64 y], .int .i64 e]) ∧ Below W.heap.size W w')) ∧ (∀ W, Calls Try.prog 10 #[.agg #[.int .i64 (hiW a), .int .u64 (loW a)], .agg #[.int .i64 (hiW n), .int .u64 (loW n)], .int .i64 i] W (fun o w' => o = .returned (.tuple #[.agg #[.int .i64 x, .int .u64 y], .int .i64 e]) ∧ Below W.heap.size W w')))) (hn : Hid (wrap64 (1 - (inc + 1).tmod 1000) = n)) (hc : inc < 1) (hl : -9223372036854775808 ≤ inc) (w : World) :
    Calls Try.prog 5 #[.int .i64 a, .int .i64 inc, .int .i64 m] w (RetV w (.bool true)) := by
  go_enter Try.func5, Try.ntmps5
  go_upto_region 3 with (fail)
  rw [hn.out]
  clear hn hl hc
  go_wp2_with fail
  go_loopw [7] (fun v7 wr => AllRel w v7 wr) (fun v7 _ => (10 - intOf v7).toNat)
  case atStart => exact ⟨1, by omega, by omega, rfl, Below.refl _ _⟩
  case round =>
    obtain ⟨i, i1, i2, rfl, HB⟩ := hrel
    by_cases hi : i ≤ 9
    · obtain ⟨x, y, e, T1, T2⟩ := SA.out i
      replace T1 := Lib.hid T1
      replace T2 := Lib.hid T2
      have KB : BK w [] _ := ⟨fun x hx => absurd hx (by simp), HB⟩
      clear HB
      go_wp2_with fail
      refine (OA.out _).mono ?_
      rintro e w1 ⟨rfl, k⟩
      replace KB := KB.below k
      clear k
      go_wp2_with fail
      refine (ON.out _).mono ?_
      rintro e w2 ⟨rfl, k⟩
      replace KB := KB.below k
      clear k
      go_wp2_with fail
      refine (T1.out _).mono ?_
      rintro e w3 ⟨rfl, k⟩
      replace KB := KB.below k
      clear k
      go_upto_region 7 with (fail)
      replace KB := KB.more2 (.int .i64 x) (.int .u64 y) 24
      generalize w3.alloc (.cells #[.int .i64 x, .int .u64 y] 24) = w4 at *
      generalize w3.heap.size = g at *
      go_wp2_with fail
      refine (OA.out _).mono ?_
      rintro e w5 ⟨rfl, k⟩
      replace KB := KB.below k
      clear k
      go_wp2_with fail
      refine (ON.out _).mono ?_
      rintro e w6 ⟨rfl, k⟩
      replace KB := KB.below k
      clear k
      go_wp2_with fail
      refine (T2.out _).mono ?_
      rintro e w7 ⟨rfl, k⟩
      replace KB := KB.below k
      clear k
      go_upto_region 8 with (fail)
      have hlh := KB.head.lt
      replace KB := KB.more2 (.int .i64 x) (.int .u64 y) 24
      generalize w7.alloc (.cells #[.int .i64 x, .int .u64 y] 24) = w8 at *
      have ih0 : w7.heap.size ≠ g := by omega
      have oh0 := Ne.symm ih0
      generalize w7.heap.size = h at *
      obtain ⟨_, ra, rb, rc, rd⟩ := (KB.head).two
      obtain ⟨_, sa, sb, sc, sd⟩ := (KB.tail.head).two
      have HB := KB.hb
      go_wp2_with fail
      go_roundw
      case rel => exact ⟨i + 1, by omega, by omega, by go_num, HB⟩
      case measure => simp [intOf]; omega
    · have hx : i = 10 := by omega
      subst hx
      clear SA OA ON i1 i2 hi
      by_cases h1 : m = 1
      · subst h1
        rw [show mirM 1 = 2 from rfl] at MI
        go_wp2_with fail
        refine (AL.out _).mono ?_
        rintro e W9 ⟨rfl, k⟩
        replace HB := below_thru HB k
        clear k
        go_wp2_with fail
        refine (MI.out _).mono ?_
        rintro e W8 ⟨rfl, k⟩
        replace HB := below_thru HB k
        clear k
        go_wp2
        go_ret
        exact ⟨rfl, HB⟩
      · have b1 : (m == 1) = false := by rw [beq_eq_false_iff_ne]; exact h1
        by_cases h2 : m = 2
        · subst h2
          rw [show mirM 2 = 1 from rfl] at MI
          go_wp2_with fail
          refine (AL.out _).mono ?_
          rintro e W9 ⟨rfl, k⟩
          replace HB := below_thru HB k
          clear k
          go_wp2_with fail
          refine (MI.out _).mono ?_
          rintro e W8 ⟨rfl, k⟩
          replace HB := below_thru HB k
          clear k
          go_wp2
          go_ret
          exact ⟨rfl, HB⟩
        · have b2 : (m == 2) = false := by rw [beq_eq_false_iff_ne]; exact h2
          by_cases h5 : m = 5
          · subst h5
            rw [show mirM 5 = 6 from rfl] at MI
            go_wp2_with fail
            refine (AL.out _).mono ?_
            rintro e W9 ⟨rfl, k⟩
            replace HB := below_thru HB k
            clear k
            go_wp2_with fail
            refine (MI.out _).mono ?_
            rintro e W8 ⟨rfl, k⟩
            replace HB := below_thru HB k
            clear k
            go_wp2
            go_ret
            exact ⟨rfl, HB⟩
          · have b5 : (m == 5) = false := by rw [beq_eq_false_iff_ne]; exact h5
            by_cases h6 : m = 6
            · subst h6
              rw [show mirM 6 = 5 from rfl] at MI
              go_wp2_with fail
              refine (AL.out _).mono ?_
              rintro e W9 ⟨rfl, k⟩
              replace HB := below_thru HB k
              clear k
              go_wp2_with fail
              refine (MI.out _).mono ?_
              rintro e W8 ⟨rfl, k⟩
              replace HB := below_thru HB k
              clear k
              go_wp2
              go_ret
              exact ⟨rfl, HB⟩
            · have b6 : (m == 6) = false := by rw [beq_eq_false_iff_ne]; exact h6
              rw [show mirM m = m by unfold mirM; rw [if_neg h1, if_neg h2, if_neg h5, if_neg h6]] at MI
              go_wp2_with fail
              refine (AL.out _).mono ?_
              rintro e W9 ⟨rfl, k⟩
              replace HB := below_thru HB k
              clear k
              go_wp2_with fail
              refine (MI.out _).mono ?_
              rintro e W8 ⟨rfl, k⟩
              replace HB := below_thru HB k
              clear k
              go_wp2
              go_ret
              exact ⟨rfl, HB⟩
theorem roundAll_walk (a inc m : Int) (ha : In64 a) (hi : In64 inc) (_ : In64 m) (w : World) :
    Calls Try.prog 5 #[.int .i64 a, .int .i64 inc, .int .i64 m] w (RetV w (.bool true)) := by
  have A := Lib.hid alive_ret
  have MI := Lib.hid (fun W => mirror_ret m W)
  by_cases hc : inc < 1
  · have hn := wrap_64 (1 - (inc + 1).tmod 1000)
    exact all_low a m _ inc (Lib.hid fun W => of_ret a ha W) (Lib.hid fun W => of_ret _ hn W) A MI (Lib.hid fun i => tos_same a _ i (inW_of_64 ha) (inW_of_64 hn)) (Lib.hid rfl) hc hi.1 w
  · exact all_high a m inc inc (Lib.hid fun W => of_ret a ha W) (Lib.hid fun W => of_ret _ hi W) A MI (Lib.hid fun i => tos_same a _ i (inW_of_64 ha) (inW_of_64 hi)) rfl hc w
end Go.Proofs.Ytnopgdheffnfdaa
