/- Stage 9's laws: the spot that texts tell. -/
import Derived.Test.YtipohfaapiiopaaDoorUalive
import Derived.Deep.RegionHeld3
import Derived.Outline
namespace Go.Proofs.YtipohfaapiiopaaDoor
open Go.RowKit
set_option maxRecDepth 100000 in
set_option maxHeartbeats 8000000 in
theorem parsesL {full : Prop} {Q : World → Prop} (C : MomentP full Q) (A : Option Addr) (n c : Nat) (l : List ByteArray) (w : World) (ha : Ss w A n c l) (hn : n ≤ maxLen) (hz : ∀ (i : Nat) (h : i < l.length), l[i].size ≤ maxLen) (L : Q w) :
    Calls Tryd.prog 5 #[.slice A n c] w (RetV w (.bool true)) := by
  have AL := Lib.hid (alive9 C)
  have MO := Lib.hid C.mono
  have LN := Lib.hid ha.len
  have HA := Lib.hid ha
  have HZ := Lib.hid hz
  have CE := Lib.hid (fun h => ha.cell h)
  obtain ⟨mo, ki, wd, da, ti, re, kk, xx, he⟩ : ∃ mo ki wd da ti re kk xx : Int, parseRes l = (⟨mo, ki, wd, da, ti, re⟩, kk, xx) := ⟨_, _, _, _, _, _, _, _, rfl⟩
  have PA := Lib.hid (fun hz (L : Q w) => C.parse6 he A n c w ha hz L)
  have PR := Lib.hid (fun hz W (hb : Below w.heap.size w W) => parse6 he A n c W (ha.below hb) hz)
  replace hn : n ≤ 9223372036854775807 := hn
  clear C ha hz he
  go_enter Tryd.func5, Tryd.ntmps5
  go_wp2_with fail
  go_loop [3] (fun v => ∃ k : Nat, k ≤ n ∧ k ≤ 3 ∧ v = .int .i64 k ∧ ∀ (i : Nat) (h : i < l.length), i < k → l[i].size ≤ 1000) (fun v => n - (intOf v).toNat)
  case atStart => exact ⟨0, by omega, by omega, rfl, fun i _ h => absurd h (by omega)⟩
  case round =>
    obtain ⟨k, k1, k2, rfl, hs⟩ := hrel
    have HS := Lib.hid hs
    clear hs
    by_cases h : k < n ∧ k < 3
    · obtain ⟨h1, h2⟩ := h
      have d1 : decide ((k : Int) < n) = true := decide_eq_true (by omega)
      have d2 : decide ((k : Int) < 3) = true := decide_eq_true (by omega)
      obtain ⟨g, o, rfl, cs⟩ := CE.out (by omega)
      have hl : k < l.length := by rw [LN.out]; exact h1
      have cell := cs k hl w (Below.refl _ _)
      clear cs
      have sz := HZ.out k hl
      replace sz : l[k].size ≤ 9223372036854775807 := sz
      by_cases h3 : 1000 < l[k].size
      · have d3 : decide (1000 < (l[k].size : Int)) = true := decide_eq_true (by omega)
        clear h3
        generalize l[k] = x at *
        go_wp2_with fail
        refine (AL.out _ L).mono ?_
        rintro e w1 ⟨rfl, hb⟩
        go_wp2
        go_ret
        exact ⟨rfl, hb⟩
      · have d3 : decide (1000 < (l[k].size : Int)) = false := decide_eq_false (by omega)
        have HT : Hid (∀ (i : Nat) (h : i < l.length), i < k + 1 → l[i].size ≤ 1000) := Lib.hid fun i hi hk => by
          by_cases e : i = k
          · subst e; omega
          · exact HS.out i hi (by omega)
        clear h3
        generalize l[k] = x at *
        go_wp2
        go_round
        case rel => exact ⟨k + 1, by omega, by omega, int_eqS (by omega), HT.out⟩
        case measure => simp only [intOf]; omega
    · have HT : Hid (∀ (i : Nat) (h : i < l.length), i < 3 → l[i].size ≤ 1000) := Lib.hid fun i hi h3 => HS.out i hi (by have := LN.out; omega)
      by_cases h1 : k < n
      · have d1 : decide ((k : Int) < n) = true := decide_eq_true (by omega)
        have d2 : decide ((k : Int) < 3) = false := decide_eq_false (by omega)
        go_wp2_with fail
        refine (PA.out HT.out L).mono ?_
        rintro e w1 ⟨rfl, hb⟩
        have KB := (BK.nil w).below hb
        clear hb
        go_upto_region 7 with (fail)
        have g1 : w.heap.size ≤ w1.heap.size := KB.hb.size
        replace KB := KB.more6 (.int .i64 mo) (.int .i64 ki) (.int .i64 wd) (.int .i64 da) (.int .i64 ti) (.int .i64 re) 36
        generalize hg : w1.heap.size = g at *
        generalize w1.alloc (.cells #[.int .i64 mo, .int .i64 ki, .int .i64 wd, .int .i64 da, .int .i64 ti, .int .i64 re] 36) = w2 at *
        clear hg
        go_wp2_with fail
        refine (PR.out HT.out _ KB.hb).mono ?_
        rintro e w3 ⟨rfl, hb⟩
        replace KB := KB.below hb
        clear hb
        go_upto_region 8 with (fail)
        have g2 : g < w3.heap.size := KB.head.lt
        replace KB := KB.more6 (.int .i64 mo) (.int .i64 ki) (.int .i64 wd) (.int .i64 da) (.int .i64 ti) (.int .i64 re) 36
        generalize w3.heap.size = g3 at *
        generalize w3.alloc (.cells #[.int .i64 mo, .int .i64 ki, .int .i64 wd, .int .i64 da, .int .i64 ti, .int .i64 re] 36) = w4 at *
        go_wp2_with fail
        refine (AL.out _ (MO.out _ _ L KB.hb)).mono ?_
        rintro e w5 ⟨rfl, hb⟩
        replace KB := KB.below hb
        clear hb
        obtain ⟨_, qa, qb, qc, qd, qe, qf, _⟩ := KB.head.six
        obtain ⟨_, ra, rb, rc, rd, re, rf, _⟩ := KB.tail.head.six
        have HB := KB.hb
        go_wp2
        go_ret
        exact ⟨rfl, HB⟩
      · have d1 : decide ((k : Int) < n) = false := decide_eq_false (by omega)
        go_wp2_with fail
        refine (PA.out HT.out L).mono ?_
        rintro e w1 ⟨rfl, hb⟩
        have KB := (BK.nil w).below hb
        clear hb
        go_upto_region 7 with (fail)
        have g1 : w.heap.size ≤ w1.heap.size := KB.hb.size
        replace KB := KB.more6 (.int .i64 mo) (.int .i64 ki) (.int .i64 wd) (.int .i64 da) (.int .i64 ti) (.int .i64 re) 36
        generalize hg : w1.heap.size = g at *
        generalize w1.alloc (.cells #[.int .i64 mo, .int .i64 ki, .int .i64 wd, .int .i64 da, .int .i64 ti, .int .i64 re] 36) = w2 at *
        clear hg
        go_wp2_with fail
        refine (PR.out HT.out _ KB.hb).mono ?_
        rintro e w3 ⟨rfl, hb⟩
        replace KB := KB.below hb
        clear hb
        go_upto_region 8 with (fail)
        have g2 : g < w3.heap.size := KB.head.lt
        replace KB := KB.more6 (.int .i64 mo) (.int .i64 ki) (.int .i64 wd) (.int .i64 da) (.int .i64 ti) (.int .i64 re) 36
        generalize w3.heap.size = g3 at *
        generalize w3.alloc (.cells #[.int .i64 mo, .int .i64 ki, .int .i64 wd, .int .i64 da, .int .i64 ti, .int .i64 re] 36) = w4 at *
        go_wp2_with fail
        refine (AL.out _ (MO.out _ _ L KB.hb)).mono ?_
        rintro e w5 ⟨rfl, hb⟩
        replace KB := KB.below hb
        clear hb
        obtain ⟨_, qa, qb, qc, qd, qe, qf, _⟩ := KB.head.six
        obtain ⟨_, ra, rb, rc, rd, re, rf, _⟩ := KB.tail.head.six
        have HB := KB.hb
        go_wp2
        go_ret
        exact ⟨rfl, HB⟩
end Go.Proofs.YtipohfaapiiopaaDoor
