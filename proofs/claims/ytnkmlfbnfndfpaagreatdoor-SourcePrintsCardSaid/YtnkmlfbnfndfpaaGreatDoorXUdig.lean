/- The document's answer of layer 9: numbers' digits, two digits. -/
import Derived.Test.YtnkmlfbnfndfpaaGreatDoorXGq
import Derived.Test.YtnkmlfbnfndfpaaGreatDoorXDec
import Derived.Test.YtnkmlfbnfndfpaaGreatDoorXGu
import Derived.Laws.IdiomStrings
set_option maxRecDepth 100000
set_option maxHeartbeats 64000000
namespace Go.Proofs.YtnkmlfbnfndfpaaGreatDoor
open Go.RowKit
theorem byte_text (W : World) (x : Int) (d : UInt8) (h : x = d.toNat) :
    (convert 86 9 (.slice (some ⟨W.heap.size, 0, none⟩) 1 1)).run Tryz.prog (W.alloc (.cells #[.int .u8 x] 5)) = .ok (.string ⟨[d].toArray⟩) (W.alloc (.cells #[.int .u8 x] 5)) := by
  refine run_convert_bytes_back (W.alloc (.cells #[.int .u8 x] 5)) 86 9 5 ⟨W.heap.size, 0, none⟩ 1 [d] Tryz.underlying86 Tryz.underlying5 Tryz.underlying9 ?_
  intro j hj
  obtain rfl : j = 0 := by simp at hj; omega
  have ea : ((⟨W.heap.size, 0, none⟩ : Addr).add 0) = ⟨W.heap.size, 0, none⟩ := by unfold Addr.add; split <;> simp_all
  rw [ea]
  simp [h]
def decB (n : Nat) : ByteArray := ⟨(dec n).toArray⟩
theorem decB_size (n : Nat) : (decB n).size = (dec n).length := rfl
def dOf (k : Nat) (s : ByteArray) : ByteArray := if k = 0 ∧ 0 < s.size then s else decB k ++ s
theorem txt_app (a b : List UInt8) : (⟨a.toArray⟩ ++ ⟨b.toArray⟩ : ByteArray) = ⟨(a ++ b).toArray⟩ := by
  apply ByteArray.ext
  rw [ByteArray.data_append]
  simp
theorem txt_of (s : ByteArray) : s = ⟨s.data.toList.toArray⟩ := by cases s; simp
theorem dOf_step (k : Nat) (s : ByteArray) (h : 0 < k ∨ s.size = 0) (b : UInt8) (hb : b = UInt8.ofNat (48 + k % 10)) : dOf (k / 10) (⟨[b].toArray⟩ ++ s) = dOf k s := by
  have e1 : dOf k s = decB k ++ s := by unfold dOf; rw [if_neg (by omega)]
  rw [e1, txt_of s]
  unfold dOf decB
  simp only [txt_app]
  by_cases h1 : k / 10 = 0
  · rw [if_pos ⟨h1, by show 0 < ([b] ++ s.data.toList).toArray.size; simp⟩, dec_small (n := k) (by omega), hb, Nat.mod_eq_of_lt (by omega)]
  · rw [if_neg (by omega), dec_big (n := k) (by omega), hb, List.append_assoc]
theorem digitsR (N : Nat) (hN : N < 10000000000000000000) (hN2 : (N : Int) ≤ 9223372036854775807) (w : World) : Calls Tryz.prog 92 #[.int .i64 N] w (RetV w (.string (decB N))) := by
  go_enter Tryz.func92, Tryz.ntmps92
  go_wp2
  go_loopw [0, 3] (fun n s wr => ∃ (k j : Nat) (t : ByteArray), n = .int .i64 k ∧ s = .string t ∧ k < 10 ^ j ∧ k ≤ N ∧ t.size + j = 19 ∧ dOf k t = decB N ∧ Below w.heap.size w wr) (fun n s _ => (intOf n).toNat + (match s with | .string t => if t.size = 0 then 1 else 0 | _ => 0))
  case atStart => exact ⟨N, 19, ⟨[].toArray⟩, rfl, rfl, by omega, Nat.le_refl _, rfl, by unfold dOf; rw [if_neg (by intro h; exact absurd h.2 (by decide))]; unfold decB; rw [txt_app, List.append_nil], Below.refl _ _⟩
  case round =>
    obtain ⟨k, j, t, rfl, rfl, hk, hkN, hj, he, hbel⟩ := hrel
    have hsz := hbel.size
    obtain ⟨b, hb⟩ : ∃ b : UInt8, b = UInt8.ofNat (48 + k % 10) := ⟨_, rfl⟩
    by_cases h0 : 0 < k ∨ t.size = 0
    · have hj1 : 1 ≤ j := by
        rcases Nat.eq_zero_or_pos j with rfl | h
        · simp at hk; omega
        · exact h
      obtain ⟨j, rfl⟩ : ∃ i, j = i + 1 := ⟨j - 1, by omega⟩
      have hk2 : k / 10 < 10 ^ j := by rw [Nat.pow_succ] at hk; omega
      have HE := Lib.hid ((dOf_step k t h0 b hb).trans he)
      have cv := fun W => byte_text W (48 + (k : Int) % 10) b (by rw [hb, UInt8.toNat_ofNat']; omega)
      have HB := Lib.hid hb
      clear he hb
      by_cases h1 : 0 < k
      · have d1 : decide (0 < (k : Int)) = true := decide_eq_true (by omega)
        go_wp2
        go_roundw
        case rel => exact ⟨k / 10, j, ⟨[b].toArray⟩ ++ t, int_eqS (by omega), rfl, hk2, by omega, by rw [ByteArray.size_append]; show 1 + t.size + j = 19; omega, HE.out, hbel.alloc hsz _⟩
        case measure =>
          show (intOf _).toNat + (if (⟨[b].toArray⟩ ++ t).size = 0 then 1 else 0) < (intOf _).toNat + (if t.size = 0 then 1 else 0)
          rw [if_neg (by rw [ByteArray.size_append]; show ¬ 1 + t.size = 0; omega)]
          simp only [intOf]
          omega
      · have k0 : k = 0 := by omega
        subst k0
        have t0 : t = ByteArray.empty := by simpa using (h0.resolve_left h1)
        replace t0 : t = ⟨[].toArray⟩ := t0
        subst t0
        clear cv
        have cv := fun W => byte_text W 48 b (by rw [HB.out]; rfl)
        go_wp2
        go_roundw
        case rel => exact ⟨0, j, ⟨[b].toArray⟩ ++ ⟨[].toArray⟩, int_eqS (by omega), rfl, hk2, by omega, by rw [ByteArray.size_append]; show 1 + 0 + j = 19; have h : 0 + (j + 1) = 19 := hj; omega, HE.out, hbel.alloc hsz _⟩
        case measure =>
          show (intOf _).toNat + (if (⟨[b].toArray⟩ ++ ⟨[].toArray⟩ : ByteArray).size = 0 then 1 else 0) < (intOf _).toNat + (if (⟨[].toArray⟩ : ByteArray).size = 0 then 1 else 0)
          rw [if_neg (by rw [ByteArray.size_append]; show ¬ 1 + 0 = 0; omega)]
          show (intOf _).toNat + 0 < (intOf _).toNat + (if 0 = 0 then 1 else 0)
          simp [intOf]
    · have k0 : k = 0 := by omega
      subst k0
      have d2 : (t.toList == []) = false := txt_no (by intro h; rw [h] at h0; exact h0 (.inr rfl))
      have HE := Lib.hid (show decB N = t by rw [← he]; unfold dOf; rw [if_pos ⟨rfl, by omega⟩])
      clear he hb
      go_wp2
      go_ret
      exact ⟨by rw [HE.out]; rfl, hbel⟩
def twB (n : Nat) : ByteArray := if n < 10 then ⟨[48].toArray⟩ ++ decB n else decB n
theorem twiceR (N : Nat) (hN : N < 100) (w : World) : Calls Tryz.prog 93 #[.int .i64 N] w (RetV w (.string (twB N))) := by
  have DI := Lib.hid (fun W => digitsR N (by omega) (by omega) W)
  unfold twB
  by_cases h : N < 10
  · rw [if_pos h]
    have d1 : decide ((N : Int) < 10) = true := decide_eq_true (by omega)
    have sz : (decB N).size ≤ 2 := dec_len (k := 1) (by omega)
    generalize decB N = t at *
    generalize (N : Int) = n at *
    go_enter Tryz.func93, Tryz.ntmps93
    go_wp2_with fail
    refine (DI.out _).mono ?_
    rintro e w1 ⟨rfl, hb⟩
    go_wp2
    go_ret
    exact ⟨rfl, hb⟩
  · rw [if_neg h]
    have d1 : decide ((N : Int) < 10) = false := decide_eq_false (by omega)
    have sz : (decB N).size ≤ 2 := dec_len (k := 1) (by omega)
    generalize decB N = t at *
    generalize (N : Int) = n at *
    go_enter Tryz.func93, Tryz.ntmps93
    go_wp2_with fail
    refine (DI.out _).mono ?_
    rintro e w1 ⟨rfl, hb⟩
    go_wp2
    go_ret
    exact ⟨rfl, hb⟩
theorem twB_size {n : Nat} (h : n < 100) : (twB n).size = 2 := by
  unfold twB
  by_cases h1 : n < 10
  · rw [if_pos h1, ByteArray.size_append]; show 1 + (dec n).length = 2; rw [dec_small h1]; rfl
  · rw [if_neg h1]; show (dec n).length = 2; rw [dec_big h1, dec_small (by omega)]; rfl
theorem decB_le {n : Nat} (h : n < 10000000000000000000) : (decB n).size ≤ 19 := dec_len (k := 18) (by omega)
def timeB (n : Int) : ByteArray :=
  if n.natAbs % 60 = 0 then (if n < 0 then ⟨[45].toArray⟩ else ⟨[].toArray⟩) ++ decB (n.natAbs / 3600) ++ ⟨[58].toArray⟩ ++ twB (n.natAbs / 60 % 60)
  else (if n < 0 then ⟨[45].toArray⟩ else ⟨[].toArray⟩) ++ decB (n.natAbs / 3600) ++ ⟨[58].toArray⟩ ++ twB (n.natAbs / 60 % 60) ++ ⟨[58].toArray⟩ ++ twB (n.natAbs % 60)
theorem time_p0 (n H Q M S : Int) (a b c : ByteArray) (az : a.size ≤ 19) (bz : b.size = 2) (_cz : c.size = 2) (e1 : n.tdiv 3600 = H) (e2 : n.tdiv 60 = Q) (e3 : Q.tmod 60 = M) (e4 : n.tmod 60 = S) (h1 : 0 ≤ H ∧ H ≤ 2562047788015216) (q1 : -153722867280912931 ≤ Q ∧ Q ≤ 153722867280912931) (_m1 : 0 ≤ M ∧ M ≤ 59) (_s1 : 0 ≤ S ∧ S ≤ 59) (d1 : decide (n < 0) = false) (d2 : (S != 0) = false) (DI : Hid (∀ W, Calls Tryz.prog 92 #[.int .i64 (H)] W (RetV W (.string a)))) (TM : Hid (∀ W, Calls Tryz.prog 93 #[.int .i64 (M)] W (RetV W (.string b)))) (_TS : Hid (∀ W, Calls Tryz.prog 93 #[.int .i64 (S)] W (RetV W (.string c)))) (w : World) : Calls Tryz.prog 58 #[.int .i64 n] w (RetV w (.string (⟨[].toArray⟩ ++ a ++ ⟨[58].toArray⟩ ++ b))) := by
  go_enter Tryz.func58, Tryz.ntmps58
  go_wp2_with fail
  refine (DI.out _).mono ?_
  rintro e w1 ⟨rfl, hb⟩
  go_wp2_with fail
  refine (TM.out _).mono ?_
  rintro e w2 ⟨rfl, k⟩
  replace hb := below_next hb k
  clear k
  go_wp2
  go_ret
  exact ⟨rfl, hb⟩
theorem time_ps (n H Q M S : Int) (a b c : ByteArray) (az : a.size ≤ 19) (bz : b.size = 2) (cz : c.size = 2) (e1 : n.tdiv 3600 = H) (e2 : n.tdiv 60 = Q) (e3 : Q.tmod 60 = M) (e4 : n.tmod 60 = S) (h1 : 0 ≤ H ∧ H ≤ 2562047788015216) (q1 : -153722867280912931 ≤ Q ∧ Q ≤ 153722867280912931) (_m1 : 0 ≤ M ∧ M ≤ 59) (_s1 : 0 ≤ S ∧ S ≤ 59) (d1 : decide (n < 0) = false) (d2 : (S != 0) = true) (DI : Hid (∀ W, Calls Tryz.prog 92 #[.int .i64 (H)] W (RetV W (.string a)))) (TM : Hid (∀ W, Calls Tryz.prog 93 #[.int .i64 (M)] W (RetV W (.string b)))) (TS : Hid (∀ W, Calls Tryz.prog 93 #[.int .i64 (S)] W (RetV W (.string c)))) (w : World) : Calls Tryz.prog 58 #[.int .i64 n] w (RetV w (.string (⟨[].toArray⟩ ++ a ++ ⟨[58].toArray⟩ ++ b ++ ⟨[58].toArray⟩ ++ c))) := by
  go_enter Tryz.func58, Tryz.ntmps58
  go_wp2_with fail
  refine (DI.out _).mono ?_
  rintro e w1 ⟨rfl, hb⟩
  go_wp2_with fail
  refine (TM.out _).mono ?_
  rintro e w2 ⟨rfl, k⟩
  replace hb := below_next hb k
  clear k
  go_wp2_with fail
  refine (TS.out _).mono ?_
  rintro e w3 ⟨rfl, k⟩
  replace hb := below_next hb k
  clear k
  go_wp2
  go_ret
  exact ⟨rfl, hb⟩
theorem time_n0 (n H Q M S : Int) (a b c : ByteArray) (az : a.size ≤ 19) (bz : b.size = 2) (_cz : c.size = 2) (e1 : n.tdiv 3600 = H) (e2 : n.tdiv 60 = Q) (e3 : Q.tmod 60 = M) (e4 : n.tmod 60 = S) (h1 : -2562047788015216 ≤ H ∧ H ≤ 0) (q1 : -153722867280912931 ≤ Q ∧ Q ≤ 153722867280912931) (m1 : -59 ≤ M ∧ M ≤ 0) (s1 : -59 ≤ S ∧ S ≤ 0) (d1 : decide (n < 0) = true) (d2 : (-S != 0) = false) (DI : Hid (∀ W, Calls Tryz.prog 92 #[.int .i64 (-H)] W (RetV W (.string a)))) (TM : Hid (∀ W, Calls Tryz.prog 93 #[.int .i64 (-M)] W (RetV W (.string b)))) (_TS : Hid (∀ W, Calls Tryz.prog 93 #[.int .i64 (-S)] W (RetV W (.string c)))) (w : World) : Calls Tryz.prog 58 #[.int .i64 n] w (RetV w (.string (⟨[45].toArray⟩ ++ a ++ ⟨[58].toArray⟩ ++ b))) := by
  go_enter Tryz.func58, Tryz.ntmps58
  go_wp2_with fail
  refine (DI.out _).mono ?_
  rintro e w1 ⟨rfl, hb⟩
  go_wp2_with fail
  refine (TM.out _).mono ?_
  rintro e w2 ⟨rfl, k⟩
  replace hb := below_next hb k
  clear k
  go_wp2
  go_ret
  exact ⟨rfl, hb⟩
theorem time_ns (n H Q M S : Int) (a b c : ByteArray) (az : a.size ≤ 19) (bz : b.size = 2) (cz : c.size = 2) (e1 : n.tdiv 3600 = H) (e2 : n.tdiv 60 = Q) (e3 : Q.tmod 60 = M) (e4 : n.tmod 60 = S) (h1 : -2562047788015216 ≤ H ∧ H ≤ 0) (q1 : -153722867280912931 ≤ Q ∧ Q ≤ 153722867280912931) (m1 : -59 ≤ M ∧ M ≤ 0) (s1 : -59 ≤ S ∧ S ≤ 0) (d1 : decide (n < 0) = true) (d2 : (-S != 0) = true) (DI : Hid (∀ W, Calls Tryz.prog 92 #[.int .i64 (-H)] W (RetV W (.string a)))) (TM : Hid (∀ W, Calls Tryz.prog 93 #[.int .i64 (-M)] W (RetV W (.string b)))) (TS : Hid (∀ W, Calls Tryz.prog 93 #[.int .i64 (-S)] W (RetV W (.string c)))) (w : World) : Calls Tryz.prog 58 #[.int .i64 n] w (RetV w (.string (⟨[45].toArray⟩ ++ a ++ ⟨[58].toArray⟩ ++ b ++ ⟨[58].toArray⟩ ++ c))) := by
  go_enter Tryz.func58, Tryz.ntmps58
  go_wp2_with fail
  refine (DI.out _).mono ?_
  rintro e w1 ⟨rfl, hb⟩
  go_wp2_with fail
  refine (TM.out _).mono ?_
  rintro e w2 ⟨rfl, k⟩
  replace hb := below_next hb k
  clear k
  go_wp2_with fail
  refine (TS.out _).mono ?_
  rintro e w3 ⟨rfl, k⟩
  replace hb := below_next hb k
  clear k
  go_wp2
  go_ret
  exact ⟨rfl, hb⟩
theorem timeR (n : Int) (n1 : -9223372036854775808 ≤ n) (n2 : n ≤ 9223372036854775807) (w : World) : Calls Tryz.prog 58 #[.int .i64 n] w (RetV w (.string (timeB n))) := by
  obtain ⟨a, ha⟩ : ∃ a : Nat, a = n.natAbs := ⟨_, rfl⟩
  have DI := Lib.hid (fun W => digitsR (a / 3600) (by omega) (by omega) W)
  have TM := Lib.hid (fun W => twiceR (a / 60 % 60) (by omega) W)
  have TS := Lib.hid (fun W => twiceR (a % 60) (by omega) W)
  have az : (decB (a / 3600)).size ≤ 19 := decB_le (by omega)
  have bz : (twB (a / 60 % 60)).size = 2 := twB_size (by omega)
  have cz : (twB (a % 60)).size = 2 := twB_size (by omega)
  unfold timeB
  rw [← ha]
  by_cases hn : n < 0
  · rw [if_pos hn]
    obtain rfl : n = -(a : Int) := by omega
    have f1 : (-(a : Int)).tdiv 3600 = -((a / 3600 : Nat) : Int) := by rw [Int.neg_tdiv, Int.tdiv_eq_ediv_of_nonneg (by omega)]; rfl
    have f2 : (-(a : Int)).tdiv 60 = -((a / 60 : Nat) : Int) := by rw [Int.neg_tdiv, Int.tdiv_eq_ediv_of_nonneg (by omega)]; rfl
    have f3 : (-((a / 60 : Nat) : Int)).tmod 60 = -((a / 60 % 60 : Nat) : Int) := by rw [Int.neg_tmod, Int.tmod_eq_emod_of_nonneg (by omega)]; rfl
    have f4 : (-(a : Int)).tmod 60 = -((a % 60 : Nat) : Int) := by rw [Int.neg_tmod, Int.tmod_eq_emod_of_nonneg (by omega)]; rfl
    have d1 : decide (-(a : Int) < 0) = true := decide_eq_true hn
    by_cases hs : a % 60 = 0
    · rw [if_pos hs]
      exact time_n0 _ _ _ _ _ _ _ _ az bz cz f1 f2 f3 f4 (by omega) (by omega) (by omega) (by omega) d1 (by rw [bne_eq_false_iff_eq]; omega) (Lib.hid fun W => by rw [Int.neg_neg]; exact DI.out W) (Lib.hid fun W => by rw [Int.neg_neg]; exact TM.out W) (Lib.hid fun W => by rw [Int.neg_neg]; exact TS.out W) w
    · rw [if_neg hs]
      exact time_ns _ _ _ _ _ _ _ _ az bz cz f1 f2 f3 f4 (by omega) (by omega) (by omega) (by omega) d1 (by rw [bne_iff_ne]; omega) (Lib.hid fun W => by rw [Int.neg_neg]; exact DI.out W) (Lib.hid fun W => by rw [Int.neg_neg]; exact TM.out W) (Lib.hid fun W => by rw [Int.neg_neg]; exact TS.out W) w
  · rw [if_neg hn]
    obtain rfl : n = (a : Int) := by omega
    have f1 : (a : Int).tdiv 3600 = ((a / 3600 : Nat) : Int) := by rw [Int.tdiv_eq_ediv_of_nonneg (by omega)]; rfl
    have f2 : (a : Int).tdiv 60 = ((a / 60 : Nat) : Int) := by rw [Int.tdiv_eq_ediv_of_nonneg (by omega)]; rfl
    have f3 : ((a / 60 : Nat) : Int).tmod 60 = ((a / 60 % 60 : Nat) : Int) := by rw [Int.tmod_eq_emod_of_nonneg (by omega)]; rfl
    have f4 : (a : Int).tmod 60 = ((a % 60 : Nat) : Int) := by rw [Int.tmod_eq_emod_of_nonneg (by omega)]; rfl
    have d1 : decide ((a : Int) < 0) = false := decide_eq_false hn
    by_cases hs : a % 60 = 0
    · rw [if_pos hs]
      exact time_p0 _ _ _ _ _ _ _ _ az bz cz f1 f2 f3 f4 (by omega) (by omega) (by omega) (by omega) d1 (by rw [bne_eq_false_iff_eq]; omega) DI TM TS w
    · rw [if_neg hs]
      exact time_ps _ _ _ _ _ _ _ _ az bz cz f1 f2 f3 f4 (by omega) (by omega) (by omega) (by omega) d1 (by rw [bne_iff_ne]; omega) DI TM TS w
end Go.Proofs.YtnkmlfbnfndfpaaGreatDoor
