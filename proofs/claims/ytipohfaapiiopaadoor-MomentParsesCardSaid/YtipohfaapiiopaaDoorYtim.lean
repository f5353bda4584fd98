/- Package moment: a clock's time, written. -/
import Derived.Test.YtipohfaapiiopaaDoorYfmt
namespace Go.Proofs.YtipohfaapiiopaaDoor
open Go.RowKit Go.Sort Go.Lib
abbrev Pow10 (W : World) : Prop := Lib.TabIs Tryd.prog W "internal/strconv.uint64pow10" .u64 Lib.pow10Tab
theorem Pow10.mono {w W : World} (h : Pow10 w) (b : Below w.heap.size w W) : Pow10 W := tabBelow_of_tabIs h W b

set_option maxRecDepth 100000 in
set_option maxHeartbeats 4000000 in
theorem time_neg_true (n a : Int) (u : Nat) (h m s : ByteArray) (d : decide (n < 0) = true) (k0 : IntKind.u64.wrap n = a) (k1 : IntKind.u64.wrap (-a) = (u : Int)) (_hu : u ≤ 9223372036854775808) (hz : ((u : Int) % 60 != 0) = true)
    (FU : Hid (∀ W, Pow10 W → Calls Tryd.prog 46 #[.int .u64 ((u : Int) / 3600), .int .i64 10] W (RetV W (.string h))))
    (TM : Hid (∀ W, Calls Tryd.prog 47 #[.int .u64 ((u : Int) % 3600 / 60)] W (RetV W (.string m))))
    (TS : Hid (∀ W, Calls Tryd.prog 47 #[.int .u64 ((u : Int) % 60)] W (RetV W (.string s))))
    (_zh : h.size ≤ 100) (_zm : m.size ≤ 100) (_zs : s.size ≤ 100) (w : World) (htab : Pow10 w) :
    Calls Tryd.prog 24 #[.int .i64 n] w (RetV w (.string (⟨[45].toArray⟩ ++ h ++ ⟨[58].toArray⟩ ++ m ++ (⟨[58].toArray⟩ ++ s)))) := by
  have TB := Lib.hid htab
  clear htab
  go_enter Tryd.func24, Tryd.ntmps24
  go_wp2_with fail
  refine (FU.out _ TB.out).mono ?_
  clear FU TB
  rintro e w1 ⟨rfl, hb⟩
  go_wp2_with fail
  refine (TM.out _).mono ?_
  clear TM
  rintro e w2 ⟨rfl, hb2⟩
  replace hb := below_thru hb hb2
  clear hb2
  go_wp2_with fail
  refine (TS.out _).mono ?_
  clear TS
  rintro e w3 ⟨rfl, hb3⟩
  replace hb := below_thru hb hb3
  clear hb3
  go_wp2
  go_ret
  exact ⟨rfl, hb⟩
set_option maxRecDepth 100000 in
set_option maxHeartbeats 4000000 in
theorem time_neg_false (n a : Int) (u : Nat) (h m : ByteArray) (d : decide (n < 0) = true) (k0 : IntKind.u64.wrap n = a) (k1 : IntKind.u64.wrap (-a) = (u : Int)) (_hu : u ≤ 9223372036854775808) (hz : ((u : Int) % 60 != 0) = false)
    (FU : Hid (∀ W, Pow10 W → Calls Tryd.prog 46 #[.int .u64 ((u : Int) / 3600), .int .i64 10] W (RetV W (.string h))))
    (TM : Hid (∀ W, Calls Tryd.prog 47 #[.int .u64 ((u : Int) % 3600 / 60)] W (RetV W (.string m))))
    (_zh : h.size ≤ 100) (_zm : m.size ≤ 100) (w : World) (htab : Pow10 w) :
    Calls Tryd.prog 24 #[.int .i64 n] w (RetV w (.string (⟨[45].toArray⟩ ++ h ++ ⟨[58].toArray⟩ ++ m))) := by
  have TB := Lib.hid htab
  clear htab
  go_enter Tryd.func24, Tryd.ntmps24
  go_wp2_with fail
  refine (FU.out _ TB.out).mono ?_
  clear FU TB
  rintro e w1 ⟨rfl, hb⟩
  go_wp2_with fail
  refine (TM.out _).mono ?_
  clear TM
  rintro e w2 ⟨rfl, hb2⟩
  replace hb := below_thru hb hb2
  clear hb2
  go_wp2
  go_ret
  exact ⟨rfl, hb⟩
set_option maxRecDepth 100000 in
set_option maxHeartbeats 4000000 in
theorem time_pos_true (n _a : Int) (u : Nat) (h m s : ByteArray) (d : decide (n < 0) = false) (k0 : IntKind.u64.wrap n = (u : Int)) (_hu : u ≤ 9223372036854775808) (hz : ((u : Int) % 60 != 0) = true)
    (FU : Hid (∀ W, Pow10 W → Calls Tryd.prog 46 #[.int .u64 ((u : Int) / 3600), .int .i64 10] W (RetV W (.string h))))
    (TM : Hid (∀ W, Calls Tryd.prog 47 #[.int .u64 ((u : Int) % 3600 / 60)] W (RetV W (.string m))))
    (TS : Hid (∀ W, Calls Tryd.prog 47 #[.int .u64 ((u : Int) % 60)] W (RetV W (.string s))))
    (_zh : h.size ≤ 100) (_zm : m.size ≤ 100) (_zs : s.size ≤ 100) (w : World) (htab : Pow10 w) :
    Calls Tryd.prog 24 #[.int .i64 n] w (RetV w (.string (⟨[].toArray⟩ ++ h ++ ⟨[58].toArray⟩ ++ m ++ (⟨[58].toArray⟩ ++ s)))) := by
  have TB := Lib.hid htab
  clear htab
  go_enter Tryd.func24, Tryd.ntmps24
  go_wp2_with fail
  refine (FU.out _ TB.out).mono ?_
  clear FU TB
  rintro e w1 ⟨rfl, hb⟩
  go_wp2_with fail
  refine (TM.out _).mono ?_
  clear TM
  rintro e w2 ⟨rfl, hb2⟩
  replace hb := below_thru hb hb2
  clear hb2
  go_wp2_with fail
  refine (TS.out _).mono ?_
  clear TS
  rintro e w3 ⟨rfl, hb3⟩
  replace hb := below_thru hb hb3
  clear hb3
  go_wp2
  go_ret
  exact ⟨rfl, hb⟩
set_option maxRecDepth 100000 in
set_option maxHeartbeats 4000000 in
theorem time_pos_false (n _a : Int) (u : Nat) (h m : ByteArray) (d : decide (n < 0) = false) (k0 : IntKind.u64.wrap n = (u : Int)) (_hu : u ≤ 9223372036854775808) (hz : ((u : Int) % 60 != 0) = false)
    (FU : Hid (∀ W, Pow10 W → Calls Tryd.prog 46 #[.int .u64 ((u : Int) / 3600), .int .i64 10] W (RetV W (.string h))))
    (TM : Hid (∀ W, Calls Tryd.prog 47 #[.int .u64 ((u : Int) % 3600 / 60)] W (RetV W (.string m))))
    (_zh : h.size ≤ 100) (_zm : m.size ≤ 100) (w : World) (htab : Pow10 w) :
    Calls Tryd.prog 24 #[.int .i64 n] w (RetV w (.string (⟨[].toArray⟩ ++ h ++ ⟨[58].toArray⟩ ++ m))) := by
  have TB := Lib.hid htab
  clear htab
  go_enter Tryd.func24, Tryd.ntmps24
  go_wp2_with fail
  refine (FU.out _ TB.out).mono ?_
  clear FU TB
  rintro e w1 ⟨rfl, hb⟩
  go_wp2_with fail
  refine (TM.out _).mono ?_
  clear TM
  rintro e w2 ⟨rfl, hb2⟩
  replace hb := below_thru hb hb2
  clear hb2
  go_wp2
  go_ret
  exact ⟨rfl, hb⟩
theorem ytw_size (n : Nat) (h : n < 100) : (twB n).size ≤ 100 := by rw [tw_is h]; show 2 ≤ 100; decide
theorem ydec_le {u : Nat} (h : u < 18446744073709551616) : (decB u).size ≤ 100 := by
  rw [← decB_is]
  show (Lib.decDigits u).toArray.size ≤ 100
  rw [List.size_toArray, Lib.decDigits_length]
  by_cases g : u = 0
  · subst g
    have e : Lib.decDigits 0 = [48] := by rw [Lib.decDigits, dif_pos (by decide)]; rfl
    rw [← Lib.decDigits_length, e]; decide
  · have := Lib.numDigits_eq u (by omega) h; split at this <;> omega
theorem timeMP (n : Int) (hn : In64 n) (w : World) (htab : Pow10 w) : Calls Tryd.prog 24 #[.int .i64 n] w (RetV w (.string (timeB n))) := by
  have hn1 : -9223372036854775808 ≤ n ∧ n ≤ 9223372036854775807 := hn
  obtain ⟨u, hu⟩ : ∃ u : Nat, n.natAbs = u := ⟨_, rfl⟩
  have u1 : u ≤ 9223372036854775808 := by omega
  have FU := Lib.hid (fun (W : World) (h : Pow10 W) => by
    have := fmtP (u / 3600) (by omega) W h
    rw [Int.natCast_ediv] at this
    exact this)
  have TM := Lib.hid (fun (W : World) => by
    have := twoP (u % 3600 / 60) (by omega) W
    rw [Int.natCast_ediv, Int.natCast_emod] at this
    exact this)
  have TS := Lib.hid (fun (W : World) => by
    have := twoP (u % 60) (by omega) W
    rw [Int.natCast_emod] at this
    exact this)
  have e60 : u % 3600 / 60 = u / 60 % 60 := by omega
  have zh := ydec_le (u := u / 3600) (by omega)
  have zm := ytw_size (u % 3600 / 60) (by omega)
  have zs := ytw_size (u % 60) (by omega)
  unfold timeB
  rw [hu]
  by_cases z : u % 60 = 0
  · rw [if_pos z, ← e60]
    have hz : ((u : Int) % 60 != 0) = false := by rw [bne_eq_false_iff_eq]; omega
    by_cases g : n < 0
    · rw [if_pos g]
      exact time_neg_false n _ u _ _ (decide_eq_true g) rfl (by rw [IntKind.wrap_u64, IntKind.wrap_u64]; omega) u1 hz FU TM zh zm w htab
    · rw [if_neg g]
      exact time_pos_false n 0 u _ _ (decide_eq_false g) (by rw [IntKind.wrap_u64]; omega) u1 hz FU TM zh zm w htab
  · rw [if_neg z, ← e60]
    have hz : ((u : Int) % 60 != 0) = true := by rw [bne_iff_ne]; omega
    by_cases g : n < 0
    · rw [if_pos g]
      have := time_neg_true n _ u _ _ _ (decide_eq_true g) rfl (by rw [IntKind.wrap_u64, IntKind.wrap_u64]; omega) u1 hz FU TM TS zh zm zs w htab
      rw [← ByteArray.append_assoc] at this
      exact this
    · rw [if_neg g]
      have := time_pos_true n 0 u _ _ _ (decide_eq_false g) (by rw [IntKind.wrap_u64]; omega) u1 hz FU TM TS zh zm zs w htab
      rw [← ByteArray.append_assoc] at this
      exact this
end Go.Proofs.YtipohfaapiiopaaDoor
