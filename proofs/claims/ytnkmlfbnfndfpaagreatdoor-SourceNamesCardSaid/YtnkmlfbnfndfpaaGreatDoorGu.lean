import Derived.Test.YtnkmlfbnfndfpaaGreatDoorGq
import Derived.Laws.DeepStrings4
import Derived.BigQuiet
import Derived.Deep.RegionHeld3
/- The document's answer of layer 9: numbers of digits. -/
namespace Go.Proofs.YtnkmlfbnfndfpaaGreatDoor
open Go.RowKit

/-- the first k bytes are digits; their number -/
def digB (s : ByteArray) : Nat → Bool
  | 0 => true
  | k + 1 => digB s k && (if h : k < s.size then decide (48 ≤ s[k].toNat ∧ s[k].toNat ≤ 57) else true)
def digN (s : ByteArray) : Nat → Nat
  | 0 => 0
  | k + 1 => digN s k * 10 + (if h : k < s.size then s[k].toNat - 48 else 0)
theorem digB_succ {s : ByteArray} {k : Nat} (h : k < s.size) : digB s (k + 1) = (digB s k && decide (48 ≤ s[k].toNat ∧ s[k].toNat ≤ 57)) := by
  show (digB s k && (if h : k < s.size then _ else true)) = _
  rw [dif_pos h]
theorem digN_succ {s : ByteArray} {k : Nat} (h : k < s.size) : digN s (k + 1) = digN s k * 10 + (s[k].toNat - 48) := by
  show digN s k * 10 + (if h : k < s.size then _ else 0) = _
  rw [dif_pos h]
theorem digB_off {s : ByteArray} {k : Nat} : ∀ (d : Nat), digB s k = false → digB s (k + d) = false := by
  intro d
  induction d with
  | zero => intro h; exact h
  | succ d ih => intro h; show (digB s (k + d) && _) = false; rw [ih h]; rfl
theorem digN_lt {s : ByteArray} : ∀ k, digB s k = true → digN s k < 10 ^ k := by
  intro k
  induction k with
  | zero => intro _; show 0 < 10 ^ 0; decide
  | succ k ih =>
    intro h
    have h1 : digB s k = true := by
      cases e : digB s k with
      | true => rfl
      | false => have := digB_off 1 e; rw [h] at this; cases this
    have h2 := ih h1
    by_cases hk : k < s.size
    · rw [digB_succ hk, h1, Bool.true_and] at h
      have := of_decide_eq_true h
      rw [digN_succ hk, Nat.pow_succ]
      omega
    · show digN s k * 10 + (if h : k < s.size then _ else 0) < _
      rw [dif_neg hk, Nat.pow_succ]
      omega
/-- the number of a text of a to b digits; -1: it is none -/
def numRes (s : ByteArray) (a b : Int) : Int := if (s.size : Int) < a ∨ b < s.size then -1 else if digB s s.size = true then digN s s.size else -1
set_option maxRecDepth 100000 in
set_option maxHeartbeats 4000000 in
theorem numberR (s : ByteArray) (a b : Int) (_a0 : 0 ≤ a) (b3 : b ≤ 3) (hs : s.size ≤ maxLen) (w : World) : Calls Tryz.prog 168 #[.string s, .int .i64 a, .int .i64 b] w (fun e w' => e = .returned (.int .i64 (numRes s a b)) ∧ w = w') := by
  have hs : s.size ≤ 9223372036854775807 := hs
  by_cases h1 : (s.size : Int) < a
  · have d1 : decide ((s.size : Int) < a) = true := decide_eq_true h1
    have E := Lib.hid (show numRes s a b = -1 by unfold numRes; rw [if_pos (.inl h1)])
    go_enter Tryz.func168, Tryz.ntmps168
    go_wp2
    go_ret
    exact ⟨by rw [E.out]; rfl, rfl⟩
  have d1 : decide ((s.size : Int) < a) = false := decide_eq_false h1
  by_cases h2 : b < (s.size : Int)
  · have d2 : decide (b < (s.size : Int)) = true := decide_eq_true h2
    have E := Lib.hid (show numRes s a b = -1 by unfold numRes; rw [if_pos (.inr h2)])
    go_enter Tryz.func168, Tryz.ntmps168
    go_wp2
    go_ret
    exact ⟨by rw [E.out]; rfl, rfl⟩
  have d2 : decide (b < (s.size : Int)) = false := decide_eq_false h2
  have E := Lib.hid (show numRes s a b = if digB s s.size = true then (digN s s.size : Int) else -1 by unfold numRes; rw [if_neg (by omega)])
  have s3 : s.size ≤ 3 := by omega
  clear h1 h2
  go_enter Tryz.func168, Tryz.ntmps168
  go_wp2_with fail
  clear d1 d2
  go_loop [7, 8] (fun v7 v8 => ∃ k : Nat, k ≤ s.size ∧ v8 = .int .i64 k ∧ v7 = .int .i64 (digN s k) ∧ digB s k = true) (fun _ v => s.size - (intOf v).toNat)
  case atStart => exact ⟨0, by omega, rfl, rfl, rfl⟩
  case round =>
    obtain ⟨k, hk, rfl, rfl, hd⟩ := hrel
    have HD := Lib.hid hd
    have lt := digN_lt k hd
    clear hd
    by_cases h1 : k < s.size
    · have lt2 : digN s k < 1000 := Nat.lt_of_lt_of_le lt (by
        have : k = 0 ∨ k = 1 ∨ k = 2 := by omega
        rcases this with rfl | rfl | rfl <;> decide)
      clear lt
      have DB := Lib.hid (digB_succ h1)
      have DN := Lib.hid (digN_succ h1)
      have a1 : (s[k].toNat : Int) < 256 := by have := s[k].toNat_lt; omega
      have OFF := Lib.hid (fun (h : digB s (k + 1) = false) => show digB s s.size = false by
        have := digB_off (s.size - (k + 1)) h
        rwa [show k + 1 + (s.size - (k + 1)) = s.size by omega] at this)
      by_cases q1 : s[k].toNat < 48
      · have f1 : decide ((s[k].toNat : Int) < 48) = true := decide_eq_true (by omega)
        have HE := Lib.hid (OFF.out (by rw [DB.out, HD.out, Bool.true_and]; exact decide_eq_false (by omega)))
        clear DB DN OFF HD q1
        go_wp2
        go_ret
        exact ⟨by rw [E.out, HE.out]; rfl, rfl⟩
      have f1 : decide ((s[k].toNat : Int) < 48) = false := decide_eq_false (by omega)
      by_cases q2 : 57 < s[k].toNat
      · have f2 : decide ((57 : Int) < (s[k].toNat : Int)) = true := decide_eq_true (by omega)
        have HE := Lib.hid (OFF.out (by rw [DB.out, HD.out, Bool.true_and]; exact decide_eq_false (by omega)))
        clear DB DN OFF HD q1 q2
        go_wp2
        go_ret
        exact ⟨by rw [E.out, HE.out]; rfl, rfl⟩
      have f2 : decide ((57 : Int) < (s[k].toNat : Int)) = false := decide_eq_false (by omega)
      have HE := Lib.hid (show digB s (k + 1) = true by rw [DB.out, HD.out, Bool.true_and]; exact decide_eq_true (by omega))
      have HV := Lib.hid (show (digN s (k + 1) : Int) = (digN s k : Int) * 10 + ((s[k].toNat : Int) - 48) by rw [DN.out]; omega)
      have g1 : 48 ≤ (s[k].toNat : Int) := by omega
      have g2 : (s[k].toNat : Int) ≤ 57 := by omega
      clear DB DN OFF HD q1 q2
      generalize digN s k = t at *
      go_wp2
      go_round
      case rel => exact ⟨k + 1, by omega, by go_num, by rw [HV.out], HE.out⟩
      case measure => simp [intOf]; omega
    · have e : k = s.size := by omega
      subst e
      clear lt
      go_wp2
      go_ret
      exact ⟨by rw [E.out, HD.out]; rfl, rfl⟩
end Go.Proofs.YtnkmlfbnfndfpaaGreatDoor

/- The document's answer of layer 9: what stands between the signs of a clock's time. -/
namespace Go.Proofs.YtnkmlfbnfndfpaaGreatDoor
open Go.RowKit

/-- what stands between the signs : from k on; cur: the bytes of the present part ahead of k -/
def partsOf (s : ByteArray) (k : Nat) (cur : ByteArray) : List ByteArray :=
  if h : k < s.size then (if s[k].toNat = 58 then cur :: partsOf s (k + 1) ⟨#[]⟩ else partsOf s (k + 1) (cur ++ s.extract k (k + 1))) else [cur]
termination_by s.size - k
theorem parts_cut {s : ByteArray} {k : Nat} {cur : ByteArray} (h : k < s.size) (e : s[k].toNat = 58) : partsOf s k cur = cur :: partsOf s (k + 1) ⟨#[]⟩ := by rw [partsOf, dif_pos h, if_pos e]
theorem parts_on {s : ByteArray} {k : Nat} {cur : ByteArray} (h : k < s.size) (e : ¬ s[k].toNat = 58) : partsOf s k cur = partsOf s (k + 1) (cur ++ s.extract k (k + 1)) := by rw [partsOf, dif_pos h, if_neg e]
theorem parts_end {s : ByteArray} {k : Nat} {cur : ByteArray} (h : ¬ k < s.size) : partsOf s k cur = [cur] := by rw [partsOf, dif_neg h]
theorem parts_pos {s : ByteArray} : ∀ (d k : Nat) (cur : ByteArray), s.size - k ≤ d → 0 < (partsOf s k cur).length := by
  intro d
  induction d with
  | zero => intro k cur h; rw [parts_end (by omega)]; simp
  | succ d ih =>
    intro k cur h
    by_cases hk : k < s.size
    · by_cases e : s[k].toNat = 58
      · rw [parts_cut hk e]; simp
      · rw [parts_on hk e]; exact ih (k + 1) _ (by omega)
    · rw [parts_end hk]; simp
theorem parts_size {s : ByteArray} : ∀ (d k : Nat) (cur : ByteArray), s.size - k ≤ d → k ≤ s.size → cur.size ≤ k → ∀ x ∈ partsOf s k cur, x.size ≤ s.size := by
  intro d
  induction d with
  | zero =>
    intro k cur h hk hc x hx
    rw [parts_end (by omega)] at hx
    rw [List.mem_singleton.1 hx]; omega
  | succ d ih =>
    intro k cur h hk hc x hx
    by_cases hlt : k < s.size
    · by_cases e : s[k].toNat = 58
      · rw [parts_cut hlt e] at hx
        rcases List.mem_cons.1 hx with rfl | hx
        · omega
        · exact ih (k + 1) _ (by omega) (by omega) (Nat.zero_le _) x hx
      · rw [parts_on hlt e] at hx
        refine ih (k + 1) _ (by omega) (by omega) ?_ x hx
        rw [ByteArray.size_append, ByteArray.size_extract]
        omega
    · rw [parts_end hlt] at hx
      rw [List.mem_singleton.1 hx]; omega
set_option maxRecDepth 100000 in
set_option maxHeartbeats 4000000 in
theorem partsR (s : ByteArray) (hs : s.size ≤ 1000) (w : World) : Calls Tryz.prog 167 #[.string s] w (RetSs w (partsOf s 0 ⟨#[]⟩)) := by
  obtain ⟨i0, hi, hz0, hz1, hz2⟩ := info_partsS str_info
  go_enter Tryz.func167, Tryz.ntmps167
  go_wp2
  go_loopw [3, 4, 5] (fun v f i wr => ∃ (out : List ByteArray) (cur : ByteArray) (k n : Nat), k ≤ s.size ∧ cur.size ≤ k ∧ wr.ownsRow w.heap.size 9 1 v n (strs out) ∧ f = .string cur ∧ i = .int .i64 k ∧ n ≤ k ∧ out ++ partsOf s k cur = partsOf s 0 ⟨#[]⟩ ∧ Below w.heap.size w wr) (fun _ _ i _ => s.size - (intOf i).toNat)
  case atStart => exact ⟨[], ⟨#[]⟩, 0, 0, by omega, Nat.le_refl _, World.ownsRow_nil w _ _ _, rfl, rfl, by omega, rfl, Below.refl _ _⟩
  case round =>
    obtain ⟨out, cur, k, n, hk, hc, hown, rfl, rfl, hn, he, hbel⟩ := hrel
    have hlt := hown.lt
    have hsz := hbel.size
    by_cases h1 : k < s.size
    · by_cases hb : s[k].toNat = 58
      · have hb' : ((s[k].toNat : Int) == 58) = true := by rw [hb]; rfl
        have HE := Lib.hid (show (out ++ [cur]) ++ partsOf s (k + 1) ⟨#[]⟩ = partsOf s 0 ⟨#[]⟩ by rw [← he, parts_cut h1 hb, List.append_assoc]; rfl)
        clear hb he
        go_wp2_with (at_builtin
                     refine wpList_append_own_at _ rfl (.tmp 16) (.tmp 18) 41 rfl w.heap.size 9 i0 _ 1 16 Tryz.underlying41 hi hz0 hz1 hz2 rfl (by decide) u3 n (strs out) rfl (hown.alloc _) ⟨wr.heap.size, 0, none⟩ 1 1 [.string cur] rfl rfl (cell_one_new _ _ _) ?_ ?_ ?_ ?_ ?_
                     · intro u hu; rw [List.mem_singleton.1 hu]; rfl
                     · unfold maxLen; omega
                     · omega
                     · simp; omega
                     intro v1 w1 hown1 hg1 _ _)
        go_roundw
        case rel =>
          refine ⟨out ++ [cur], ⟨#[]⟩, k + 1, n + 1, by omega, Nat.zero_le _, ?_, rfl, int_eqS (by omega), by omega, HE.out, ?_⟩
          · rw [strs_snoc] at hown1
            exact hown1
          · exact (hbel.alloc hsz _).grown hg1 (by simp; omega) (fun q hq => (hlt q hq).1)
        case measure => simp only [intOf]; omega
      · have hb' : ((s[k].toNat : Int) == 58) = false := by rw [beq_eq_false_iff_ne]; omega
        have HE := Lib.hid (show out ++ partsOf s (k + 1) (cur ++ s.extract k (k + 1)) = partsOf s 0 ⟨#[]⟩ by rw [← he, parts_on h1 hb])
        have HC := Lib.hid (show (cur ++ s.extract k (k + 1)).size ≤ k + 1 by rw [ByteArray.size_append, ByteArray.size_extract]; omega)
        have k1 : (k : Int) + 1 ≤ (s.size : Int) := by omega
        clear hb he
        go_wp2
        go_roundw
        case rel => exact ⟨out, cur ++ s.extract k (k + 1), k + 1, n, by omega, HC.out, hown, rfl, int_eqS (by omega), by omega, HE.out, hbel⟩
        case measure => simp only [intOf]; omega
    · rw [parts_end h1] at he
      have HE := Lib.hid he
      clear he
      go_wp2_with (at_builtin
                   refine wpList_append_own_at _ rfl (.tmp 27) (.tmp 29) 41 rfl w.heap.size 9 i0 _ 1 16 Tryz.underlying41 hi hz0 hz1 hz2 rfl (by decide) u3 n (strs out) rfl (hown.alloc _) ⟨wr.heap.size, 0, none⟩ 1 1 [.string cur] rfl rfl (cell_one_new _ _ _) ?_ ?_ ?_ ?_ ?_
                   · intro u hu; rw [List.mem_singleton.1 hu]; rfl
                   · unfold maxLen; omega
                   · omega
                   · simp; omega
                   intro v1 w1 hown1 hg1 _ _)
      rw [strs_snoc, HE.out] at hown1
      obtain ⟨A, c, rfl, hS⟩ := Ss.of_own hown1
      go_ret
      exact ⟨A, _, c, rfl, hS, (hbel.alloc hsz _).grown hg1 (by simp; omega) (fun q hq => (hlt q hq).1)⟩
end Go.Proofs.YtnkmlfbnfndfpaaGreatDoor

/- The document's answer of layer 9: a clock's time. -/
namespace Go.Proofs.YtnkmlfbnfndfpaaGreatDoor
open Go.RowKit

/-- what parts from the i-th one on make of n seconds -/
def bareGo (l : List ByteArray) (i : Nat) (n unit : Int) : Option Int :=
  if h : i < l.length then (if numRes l[i] 2 2 < 0 ∨ 59 < numRes l[i] 2 2 then none else bareGo l (i + 1) (n + numRes l[i] 2 2 * unit) 1) else some n
termination_by l.length - i
theorem bg_no {l : List ByteArray} {i : Nat} {n u : Int} (h : i < l.length) (e : numRes l[i] 2 2 < 0 ∨ 59 < numRes l[i] 2 2) : bareGo l i n u = none := by rw [bareGo, dif_pos h, if_pos e]
theorem bg_on {l : List ByteArray} {i : Nat} {n u : Int} (h : i < l.length) (e : ¬ (numRes l[i] 2 2 < 0 ∨ 59 < numRes l[i] 2 2)) : bareGo l i n u = bareGo l (i + 1) (n + numRes l[i] 2 2 * u) 1 := by rw [bareGo, dif_pos h, if_neg e]
theorem bg_end {l : List ByteArray} {i : Nat} {n u : Int} (h : ¬ i < l.length) : bareGo l i n u = some n := by rw [bareGo, dif_neg h]
def firstOf (l : List ByteArray) : ByteArray := l.getD 0 ⟨#[]⟩
/-- a clock's time without a sign, out of its parts -/
def bareOf (l : List ByteArray) : Option Int :=
  if 3 < l.length ∨ numRes (firstOf l) 1 3 < 0 ∨ 167 < numRes (firstOf l) 1 3 then none else bareGo l 1 (3600 * numRes (firstOf l) 1 3) 60
/-- a clock's time without a sign -/
def bareRes (s : ByteArray) : Option Int := bareOf (partsOf s 0 ⟨#[]⟩)
/-- What a call that answers seconds, or nothing, leaves. -/
def RetOI (w : World) (r : Option Int) (e : Ending) (w' : World) : Prop := e = .returned (.tuple #[.int .i64 (r.getD 0), .bool r.isSome]) ∧ Below w.heap.size w w'
theorem bg_range {l : List ByteArray} : ∀ (d i : Nat) (n u : Int), l.length - i ≤ d → 0 ≤ u → u ≤ 60 → 0 ≤ n → ∀ v, bareGo l i n u = some v → 0 ≤ v ∧ v ≤ n + 59 * u + 59 * (d : Int) := by
  intro d
  induction d with
  | zero => intro i n u h h0 h6 hn v hv; rw [bg_end (by omega)] at hv; cases hv; omega
  | succ d ih =>
    intro i n u h h0 h6 hn v hv
    by_cases hi : i < l.length
    · by_cases b : numRes l[i] 2 2 < 0 ∨ 59 < numRes l[i] 2 2
      · rw [bg_no hi b] at hv; cases hv
      · rw [bg_on hi b] at hv
        have q0 : 0 ≤ numRes l[i] 2 2 * u := Int.mul_nonneg (by omega) h0
        have q1 : numRes l[i] 2 2 * u ≤ 59 * u := Int.mul_le_mul_of_nonneg_right (by omega) h0
        have := ih (i + 1) _ 1 (by omega) (by omega) (by omega) (by omega) v hv
        omega
    · rw [bg_end hi] at hv; cases hv; omega
set_option maxRecDepth 100000 in
set_option maxHeartbeats 8000000 in
theorem bareSpanR (s : ByteArray) (hs : s.size ≤ 1000) (w : World) : Calls Tryz.prog 148 #[.string s] w (RetOI w (bareRes s)) := by
  have PR := Lib.hid (partsR s hs w)
  have L0 := Lib.hid (parts_pos (s := s) s.size 0 ⟨#[]⟩ (by omega))
  have LS := Lib.hid (parts_size (s := s) s.size 0 ⟨#[]⟩ (by omega) (by omega) (Nat.zero_le _))
  unfold bareRes
  generalize partsOf s 0 ⟨#[]⟩ = l at *
  go_enter Tryz.func148, Tryz.ntmps148
  go_wp2_with fail
  refine PR.out.mono ?_
  rintro e w1 ⟨A, n, c, rfl, ha, hb1⟩
  have LL := Lib.hid ha.len
  have n0 : 0 < n := by have := L0.out; have := ha.len; omega
  obtain ⟨g, o, rfl, _, ca⟩ := ha.cells n0
  have cell := ca 0 L0.out
  rw [Nat.add_zero] at cell
  have F0 : firstOf l = l[0]'(L0.out) := by
    unfold firstOf
    rw [List.getD_eq_getElem?_getD, List.getElem?_eq_getElem L0.out]
    rfl
  have s0 : (l[0]'(L0.out)).size ≤ maxLen := by have := LS.out _ (List.getElem_mem L0.out); unfold maxLen; omega
  have NR := Lib.hid (fun W => numberR (l[0]'(L0.out)) 1 3 (by decide) (by decide) s0 W)
  have BN := Lib.hid (fun (e : 3 < l.length ∨ numRes (firstOf l) 1 3 < 0 ∨ 167 < numRes (firstOf l) 1 3) => show bareOf l = none by unfold bareOf; rw [if_pos e])
  have BY := Lib.hid (fun (e : ¬ (3 < l.length ∨ numRes (firstOf l) 1 3 < 0 ∨ 167 < numRes (firstOf l) 1 3)) => show bareOf l = bareGo l 1 (3600 * numRes (firstOf l) 1 3) 60 by unfold bareOf; rw [if_neg e])
  rw [F0] at BN BY
  clear F0 ca s0
  obtain ⟨h, hh⟩ : ∃ h, numRes (l[0]'(L0.out)) 1 3 = h := ⟨_, rfl⟩
  rw [hh] at NR BN BY
  clear hh
  generalize l[0]'(L0.out) = x at *
  generalize bareOf l = r at *
  go_wp2_with fail
  refine (NR.out _).mono ?_
  rintro e w2 ⟨rfl, rfl⟩
  clear NR
  by_cases c1 : 3 < n
  · have E := Lib.hid (BN.out (.inl (by rw [LL.out]; exact c1)))
    have d1 : decide ((3 : Int) < n) = true := decide_eq_true (by omega)
    go_wp2
    exact bodyPost_ret (v := .tuple #[.int .i64 0, .bool false]) (by simp [results, Tryz.results148, go_sem]) rfl ⟨by rw [E.out]; rfl, hb1⟩
  have d1 : decide ((3 : Int) < n) = false := decide_eq_false (by omega)
  by_cases c2 : h < 0
  · have E := Lib.hid (BN.out (.inr (.inl c2)))
    have d2 : decide (h < 0) = true := decide_eq_true c2
    go_wp2
    exact bodyPost_ret (v := .tuple #[.int .i64 0, .bool false]) (by simp [results, Tryz.results148, go_sem]) rfl ⟨by rw [E.out]; rfl, hb1⟩
  have d2 : decide (h < 0) = false := decide_eq_false c2
  by_cases c3 : 167 < h
  · have E := Lib.hid (BN.out (.inr (.inr c3)))
    have d3 : decide (167 < h) = true := decide_eq_true c3
    go_wp2
    exact bodyPost_ret (v := .tuple #[.int .i64 0, .bool false]) (by simp [results, Tryz.results148, go_sem]) rfl ⟨by rw [E.out]; rfl, hb1⟩
  have d3 : decide (167 < h) = false := decide_eq_false c3
  have E := Lib.hid (BY.out (by have := LL.out; omega))
  clear BN BY cell
  go_wp2_with fail
  clear d1 d2 d3
  go_loopw [6, 7, 8] (fun v6 v7 v8 wr => ∃ (i : Nat) (v u : Int), 1 ≤ i ∧ i ≤ n ∧ v8 = .int .i64 i ∧ v6 = .int .i64 v ∧ v7 = .int .i64 u ∧ (u = 60 ∨ u = 1) ∧ 0 ≤ v ∧ v ≤ 601200 + 3600 * (i : Int) ∧ bareGo l i v u = r ∧ Below w1.heap.size w1 wr) (fun _ _ v _ => n - (intOf v).toNat)
  case atStart => exact ⟨1, 3600 * h, 60, by omega, by omega, rfl, rfl, rfl, .inl rfl, by omega, by omega, E.out.symm, Below.refl _ _⟩
  case round =>
    obtain ⟨i, v, u, hi1, hi, rfl, rfl, rfl, hu, hv0, hv1, he, hbel⟩ := hrel
    have HE := Lib.hid he
    clear he
    by_cases h1 : i < n
    · have il : i < l.length := by rw [LL.out]; exact h1
      obtain ⟨g2, o2, eA, _, ca⟩ := (ha.below hbel).cells (by omega)
      obtain ⟨rfl, rfl⟩ : g = g2 ∧ o = o2 := by simpa using eA
      have cell := ca i il
      clear ca eA
      have si : l[i].size ≤ maxLen := by have := LS.out _ (List.getElem_mem il); unfold maxLen; omega
      have NR := Lib.hid (fun W => numberR l[i] 2 2 (by decide) (by decide) si W)
      have GN := Lib.hid (fun e => bg_no (n := v) (u := u) il e)
      have GO := Lib.hid (fun e => bg_on (n := v) (u := u) il e)
      obtain ⟨k, hk⟩ : ∃ k, numRes l[i] 2 2 = k := ⟨_, rfl⟩
      rw [hk] at NR GN GO
      clear hk si
      generalize l[i] = y at *
      go_wp2_with fail
      refine (NR.out _).mono ?_
      rintro e w3 ⟨rfl, rfl⟩
      clear NR
      by_cases k1 : k < 0
      · have E2 := Lib.hid (HE.out.symm.trans (GN.out (.inl k1)))
        have e1 : decide (k < 0) = true := decide_eq_true k1
        go_wp2
        exact bodyPost_ret (v := .tuple #[.int .i64 0, .bool false]) (by simp [results, Tryz.results148, go_sem]) rfl ⟨by rw [E2.out]; rfl, below_thru hb1 hbel⟩
      have e1 : decide (k < 0) = false := decide_eq_false k1
      by_cases k2 : 59 < k
      · have E2 := Lib.hid (HE.out.symm.trans (GN.out (.inr k2)))
        have e2 : decide (59 < k) = true := decide_eq_true k2
        go_wp2
        exact bodyPost_ret (v := .tuple #[.int .i64 0, .bool false]) (by simp [results, Tryz.results148, go_sem]) rfl ⟨by rw [E2.out]; rfl, below_thru hb1 hbel⟩
      have e2 : decide (59 < k) = false := decide_eq_false k2
      have E2 := Lib.hid ((GO.out (by omega)).symm.trans HE.out)
      rcases hu with rfl | rfl
      · go_wp2
        go_roundw
        case rel => exact ⟨i + 1, v + k * 60, 1, by omega, by omega, by go_num, by go_num, rfl, .inr rfl, by omega, by omega, E2.out, hbel⟩
        case measure => simp [intOf]; omega
      · go_wp2
        go_roundw
        case rel => exact ⟨i + 1, v + k * 1, 1, by omega, by omega, by go_num, by go_num, rfl, .inr rfl, by omega, by omega, E2.out, hbel⟩
        case measure => simp [intOf]; omega
    · have E2 := Lib.hid (HE.out.symm.trans (bg_end (by have := LL.out; omega)))
      go_wp2
      exact bodyPost_ret (v := .tuple #[.int .i64 v, .bool true]) (by simp [results, Tryz.results148, go_sem]) rfl ⟨by rw [E2.out]; rfl, below_thru hb1 hbel⟩
end Go.Proofs.YtnkmlfbnfndfpaaGreatDoor

/- The document's answer of layer 9: a clock's time with its sign, and by which clock. -/
namespace Go.Proofs.YtnkmlfbnfndfpaaGreatDoor
open Go.RowKit

/-- a clock's time -/
def spanRes (s : ByteArray) : Option Int :=
  if s = ⟨#[45]⟩ then some 0 else if h : 0 < s.size then (if s[0].toNat = 45 then (bareRes (s.extract 1 s.size)).map (fun v => -v) else bareRes s) else bareRes s
theorem span_dash : spanRes ⟨#[45]⟩ = some 0 := by unfold spanRes; rw [if_pos rfl]
theorem span_neg {s : ByteArray} (h : ¬ s = ⟨#[45]⟩) (h0 : 0 < s.size) (e : s[0].toNat = 45) : spanRes s = (bareRes (s.extract 1 s.size)).map (fun v => -v) := by unfold spanRes; rw [if_neg h, dif_pos h0, if_pos e]
theorem span_pos {s : ByteArray} (h : ¬ s = ⟨#[45]⟩) (h0 : 0 < s.size) (e : ¬ s[0].toNat = 45) : spanRes s = bareRes s := by unfold spanRes; rw [if_neg h, dif_pos h0, if_neg e]
theorem span_nil {s : ByteArray} (h : ¬ s = ⟨#[45]⟩) (h0 : ¬ 0 < s.size) : spanRes s = bareRes s := by unfold spanRes; rw [if_neg h, dif_neg h0]
theorem bare_range {s : ByteArray} {v : Int} (h : bareRes s = some v) : 0 ≤ v ∧ v ≤ 604858 := by
  unfold bareRes bareOf at h
  split at h
  · cases h
  · have := bg_range 2 1 _ 60 (by omega) (by omega) (by omega) (by omega) v h
    omega
theorem dash_no {s : ByteArray} (h : ¬ s = ⟨#[45]⟩) : (s.toList == [45]) = false := by
  rw [beq_eq_false_iff_ne]
  intro e
  rw [ByteArray.toList_eq] at e
  apply h
  obtain ⟨⟨l⟩⟩ := s
  have : l = [45] := e
  rw [this]
set_option maxRecDepth 100000 in
set_option maxHeartbeats 4000000 in
theorem spanR (s : ByteArray) (hs : s.size ≤ 1000) (w : World) : Calls Tryz.prog 114 #[.string s] w (RetOI w (spanRes s)) := by
  by_cases h : s = ⟨#[45]⟩
  · subst h
    rw [span_dash]
    go_enter Tryz.func114, Tryz.ntmps114
    go_wp2
    exact bodyPost_ret (v := .tuple #[.int .i64 0, .bool true]) (by simp [results, Tryz.results114, go_sem]) rfl ⟨rfl, Below.refl _ _⟩
  have g1 := dash_no h
  by_cases h0 : 0 < s.size
  · have d0 : decide ((0 : Int) < s.size) = true := decide_eq_true (by omega)
    by_cases e : s[0].toNat = 45
    · have d1 : ((s[0].toNat : Int) == 45) = true := by rw [beq_iff_eq]; omega
      have SZ : (s.extract 1 s.size).size ≤ 1000 := by rw [ByteArray.size_extract]; omega
      have BR := Lib.hid (fun W => bareSpanR (s.extract 1 s.size) SZ W)
      have RG := Lib.hid (fun v (q : bareRes (s.extract 1 s.size) = some v) => bare_range q)
      rw [span_neg h h0 e]
      have l1 : (1 : Int) ≤ s.size := by omega
      generalize bareRes (s.extract 1 s.size) = r at *
      clear e h SZ
      go_enter Tryz.func114, Tryz.ntmps114
      go_wp2_with fail
      refine (BR.out _).mono ?_
      rintro e w1 ⟨rfl, hb⟩
      clear BR
      cases r with
      | none =>
        go_wp2
        exact bodyPost_ret (v := .tuple #[.int .i64 0, .bool false]) (by simp [results, Tryz.results114, go_sem]) rfl ⟨rfl, hb⟩
      | some v =>
        have b := RG.out v rfl
        go_wp2
        exact bodyPost_ret (v := .tuple #[.int .i64 (-v), .bool true]) (by simp [results, Tryz.results114, go_sem]) rfl ⟨rfl, hb⟩
    · have d1 : ((s[0].toNat : Int) == 45) = false := by rw [beq_eq_false_iff_ne]; omega
      have BR := Lib.hid (fun W => bareSpanR s hs W)
      rw [span_pos h h0 e]
      generalize bareRes s = r at *
      clear e h
      go_enter Tryz.func114, Tryz.ntmps114
      go_wp2_with fail
      refine (BR.out _).mono ?_
      rintro e w1 ⟨rfl, hb⟩
      go_wp2
      exact bodyPost_ret (v := .tuple #[.int .i64 (r.getD 0), .bool r.isSome]) (by simp [results, Tryz.results114, go_sem]) rfl ⟨rfl, hb⟩
  · have d0 : decide ((0 : Int) < s.size) = false := decide_eq_false (by omega)
    have BR := Lib.hid (fun W => bareSpanR s hs W)
    rw [span_nil h h0]
    generalize bareRes s = r at *
    clear h
    go_enter Tryz.func114, Tryz.ntmps114
    go_wp2_with fail
    refine (BR.out _).mono ?_
    rintro e w1 ⟨rfl, hb⟩
    go_wp2
    exact bodyPost_ret (v := .tuple #[.int .i64 (r.getD 0), .bool r.isSome]) (by simp [results, Tryz.results114, go_sem]) rfl ⟨rfl, hb⟩
end Go.Proofs.YtnkmlfbnfndfpaaGreatDoor

/- The document's answer of layer 9: names of months and of weekdays. -/
namespace Go.Proofs.YtnkmlfbnfndfpaaGreatDoor
open Go.RowKit

/-- the first k letters of s are those of word, small or great -/
def nameB (s word : ByteArray) : Nat → Bool
  | 0 => true
  | k + 1 => nameB s word k && (if h : k < s.size ∧ k < word.size then decide (s[k].toNat = word[k].toNat ∨ s[k].toNat + 32 = word[k].toNat) else true)
theorem name_succ {s word : ByteArray} {k : Nat} (h1 : k < s.size) (h2 : k < word.size) : nameB s word (k + 1) = (nameB s word k && decide (s[k].toNat = word[k].toNat ∨ s[k].toNat + 32 = word[k].toNat)) := by
  show (nameB s word k && (if h : k < s.size ∧ k < word.size then _ else true)) = _
  rw [dif_pos ⟨h1, h2⟩]
theorem name_off {s word : ByteArray} {k : Nat} : ∀ (d : Nat), nameB s word k = false → nameB s word (k + d) = false := by
  intro d
  induction d with
  | zero => intro h; exact h
  | succ d ih => intro h; show (nameB s word (k + d) && _) = false; rw [ih h]; rfl
/-- is s a name of word? -/
def isName (s word : ByteArray) : Bool := decide (3 ≤ s.size) && decide (s.size ≤ word.size) && nameB s word s.size
/-- a word of small letters -/
def lowT (word : ByteArray) : Prop := word.size ≤ 20 ∧ ∀ (j : Nat) (h : j < word.size), 97 ≤ word[j].toNat ∧ word[j].toNat ≤ 122
set_option maxRecDepth 100000 in
set_option maxHeartbeats 4000000 in
theorem nameR (s word : ByteArray) (hs : s.size ≤ maxLen) (hl : lowT word) (w : World) : Calls Tryz.prog 186 #[.string s, .string word] w (RetV w (.bool (isName s word))) := by
  have hs : s.size ≤ 9223372036854775807 := hs
  have l20 := hl.1
  by_cases h3 : s.size < 3
  · have e : isName s word = false := by unfold isName; rw [decide_eq_false (by omega : ¬ 3 ≤ s.size)]; rfl
    have d1 : decide ((s.size : Int) < 3) = true := decide_eq_true (by omega)
    rw [e]
    clear e hl
    go_enter Tryz.func186, Tryz.ntmps186
    go_wp2
    go_ret
    exact ⟨rfl, Below.refl _ _⟩
  have d1 : decide ((s.size : Int) < 3) = false := decide_eq_false (by omega)
  by_cases hw : word.size < s.size
  · have e : isName s word = false := by unfold isName; rw [decide_eq_false (by omega : ¬ s.size ≤ word.size), Bool.and_false]; rfl
    have d2 : decide ((word.size : Int) < s.size) = true := decide_eq_true (by omega)
    rw [e]
    clear e hl
    go_enter Tryz.func186, Tryz.ntmps186
    go_wp2
    go_ret
    exact ⟨rfl, Below.refl _ _⟩
  have d2 : decide ((word.size : Int) < s.size) = false := decide_eq_false (by omega)
  have E := Lib.hid (show isName s word = nameB s word s.size by unfold isName; rw [decide_eq_true (by omega : 3 ≤ s.size), decide_eq_true (by omega : s.size ≤ word.size)]; rfl)
  have LO := Lib.hid hl.2
  clear hl
  go_enter Tryz.func186, Tryz.ntmps186
  go_wp2_with fail
  clear d1 d2
  go_loopw [5] (fun v wr => ∃ k : Nat, k ≤ s.size ∧ v = .int .i64 k ∧ nameB s word k = true ∧ Below w.heap.size w wr) (fun v _ => s.size - (intOf v).toNat)
  case atStart => exact ⟨0, by omega, rfl, rfl, Below.refl _ _⟩
  case round =>
    obtain ⟨k, hk, rfl, hn, hbel⟩ := hrel
    have HN := Lib.hid hn
    clear hn
    by_cases h1 : k < s.size
    · have h2 : k < word.size := by omega
      have NS := Lib.hid (name_succ h1 h2)
      obtain ⟨b0, b1⟩ := LO.out k h2
      have a1 : (s[k].toNat : Int) < 256 := by have := s[k].toNat_lt; omega
      have OFF := Lib.hid (fun (h : nameB s word (k + 1) = false) => show nameB s word s.size = false by
        have := name_off (s.size - (k + 1)) h
        rwa [show k + 1 + (s.size - (k + 1)) = s.size by omega] at this)
      rw [HN.out, Bool.true_and] at NS
      clear LO HN
      by_cases q1 : s[k].toNat = word[k].toNat
      · have f1 : ((s[k].toNat : Int) != (word[k].toNat : Int)) = false := by rw [bne_eq_false_iff_eq]; omega
        have f3 : (!(s[k].toNat : Int) == (word[k].toNat : Int)) = false := f1
        have HE := Lib.hid (show nameB s word (k + 1) = true by rw [NS.out]; exact decide_eq_true (.inl q1))
        clear NS OFF q1
        go_wp2_with fail
        go_quiet (fail)
        go_wp2
        go_roundw
        case rel => exact ⟨k + 1, by omega, by go_num, HE.out, below_drewN hbel _⟩
        case measure => simp [intOf]; omega
      · have f1 : ((s[k].toNat : Int) != (word[k].toNat : Int)) = true := by rw [bne_iff_ne]; omega
        have f3 : (!(s[k].toNat : Int) == (word[k].toNat : Int)) = true := f1
        by_cases q2 : s[k].toNat + 32 = word[k].toNat
        · have f2 : ((s[k].toNat : Int) != (word[k].toNat : Int) - 32) = false := by rw [bne_eq_false_iff_eq]; omega
          have f4 : (!(s[k].toNat : Int) == (word[k].toNat : Int) - 32) = false := f2
          have HE := Lib.hid (show nameB s word (k + 1) = true by rw [NS.out]; exact decide_eq_true (.inr q2))
          clear NS OFF q1 q2
          go_wp2_with fail
          go_quiet (fail)
          go_wp2
          go_roundw
          case rel => exact ⟨k + 1, by omega, by go_num, HE.out, below_drewN hbel _⟩
          case measure => simp [intOf]; omega
        · have f2 : ((s[k].toNat : Int) != (word[k].toNat : Int) - 32) = true := by rw [bne_iff_ne]; omega
          have f4 : (!(s[k].toNat : Int) == (word[k].toNat : Int) - 32) = true := f2
          have HE := Lib.hid (OFF.out (by rw [NS.out]; exact decide_eq_false (by omega)))
          clear NS OFF q1 q2
          go_wp2_with fail
          go_quiet (fail)
          go_wp2
          go_ret
          exact ⟨by rw [E.out, HE.out]; rfl, below_drewN hbel _⟩
    · have e : k = s.size := by omega
      subst e
      go_wp2
      go_ret
      exact ⟨by rw [E.out, HN.out]; rfl, hbel⟩
end Go.Proofs.YtnkmlfbnfndfpaaGreatDoor

/- The document's answer of layer 9: the month and the weekday of a name. -/
namespace Go.Proofs.YtnkmlfbnfndfpaaGreatDoor
open Go.RowKit

/-- the place behind the first word from i on of which s is a name; 0: none -/
def whichAt (s : ByteArray) (l : List ByteArray) (i : Nat) : Nat := if h : i < l.length then (if isName s l[i] = true then i + 1 else whichAt s l (i + 1)) else 0
termination_by l.length - i
theorem which_here {s : ByteArray} {l : List ByteArray} {i : Nat} (h : i < l.length) (e : isName s l[i] = true) : whichAt s l i = i + 1 := by rw [whichAt, dif_pos h, if_pos e]
theorem which_on {s : ByteArray} {l : List ByteArray} {i : Nat} (h : i < l.length) (e : isName s l[i] = false) : whichAt s l i = whichAt s l (i + 1) := by rw [whichAt, dif_pos h, if_neg (by rw [e]; decide)]
theorem which_end {s : ByteArray} {l : List ByteArray} {i : Nat} (h : ¬ i < l.length) : whichAt s l i = 0 := by rw [whichAt, dif_neg h]
theorem which_le {s : ByteArray} {l : List ByteArray} : ∀ (d i : Nat), l.length - i ≤ d → i ≤ l.length → whichAt s l i ≤ l.length := by
  intro d
  induction d with
  | zero => intro i hd hi; rw [which_end (by omega)]; omega
  | succ d ih =>
    intro i hd hi
    by_cases h : i < l.length
    · cases e : isName s l[i] with
      | true => rw [which_here h e]; omega
      | false => rw [which_on h e]; exact ih (i + 1) (by omega) (by omega)
    · rw [which_end h]; omega
set_option maxRecDepth 100000 in
set_option maxHeartbeats 4000000 in
theorem whichR (s : ByteArray) (hs : s.size ≤ maxLen) (A : Option Addr) (n c : Nat) (l : List ByteArray) (w : World) (ha : Ss w A n c l) (hl : ∀ (i : Nat) (h : i < l.length), lowT l[i]) (n100 : n ≤ 100) :
    Calls Tryz.prog 169 #[.string s, .slice A n c] w (RetV w (.int .i64 (whichAt s l 0))) := by
  have LL := Lib.hid ha.len
  have HL := Lib.hid hl
  have NR := Lib.hid (fun x (h : lowT x) W => nameR s x hs h W)
  clear hl
  go_enter Tryz.func169, Tryz.ntmps169
  go_wp2_with fail
  go_loopw [5] (fun v wr => ∃ k : Nat, k ≤ n ∧ v = .int .i64 k ∧ whichAt s l k = whichAt s l 0 ∧ Below w.heap.size w wr) (fun v _ => n - (intOf v).toNat)
  case atStart => exact ⟨0, by omega, rfl, rfl, Below.refl _ _⟩
  case round =>
    obtain ⟨k, hk, rfl, he, hbel⟩ := hrel
    have HE := Lib.hid he
    clear he
    by_cases h1 : k < n
    · have kl : k < l.length := by rw [LL.out]; exact h1
      obtain ⟨g, o, rfl, _, ca⟩ := (ha.below hbel).cells (by omega)
      have cell := ca k kl
      clear ca
      have N1 := Lib.hid (NR.out l[k] (HL.out k kl))
      have WH := Lib.hid (fun e => which_here (s := s) kl e)
      have WO := Lib.hid (fun e => which_on (s := s) kl e)
      generalize l[k] = x at *
      go_wp2_with fail
      refine (N1.out _).mono ?_
      rintro e w2 ⟨rfl, hb⟩
      have sz := hbel.size
      cases hb2 : isName s x with
      | true =>
        have E := Lib.hid (HE.out.symm.trans (WH.out hb2))
        clear hb2
        go_wp2
        go_ret
        exact ⟨by rw [E.out]; exact congrArg _ (int_eqS (by omega)), hbel.trans (hb.mono sz)⟩
      | false =>
        have E := Lib.hid ((WO.out hb2).symm.trans HE.out)
        clear hb2
        go_wp2
        go_roundw
        case rel => exact ⟨k + 1, by omega, by go_num, E.out, hbel.trans (hb.mono sz)⟩
        case measure => simp [intOf]; omega
    · have E := Lib.hid (HE.out.symm.trans (which_end (by have := LL.out; omega)))
      go_wp2
      go_ret
      exact ⟨by rw [E.out]; rfl, hbel⟩
/-- a row of texts, made -/
theorem Ss.lit (w : World) (l : List ByteArray) (t : TypeId) (h0 : 0 < l.length) (h : l.length ≤ 100) : Ss (w.alloc (.cells (strs l).toArray t)) (some ⟨w.heap.size, 0, none⟩) l.length l.length l := by
  refine ⟨rfl, Nat.le_refl _, by unfold maxLen; omega, fun _ => ⟨_, _, rfl, by simp, fun j hj => ?_⟩⟩
  simp [strs, hj]
def monthL : List ByteArray := [⟨#[106, 97, 110, 117, 97, 114, 121]⟩, ⟨#[102, 101, 98, 114, 117, 97, 114, 121]⟩, ⟨#[109, 97, 114, 99, 104]⟩, ⟨#[97, 112, 114, 105, 108]⟩, ⟨#[109, 97, 121]⟩, ⟨#[106, 117, 110, 101]⟩, ⟨#[106, 117, 108, 121]⟩, ⟨#[97, 117, 103, 117, 115, 116]⟩, ⟨#[115, 101, 112, 116, 101, 109, 98, 101, 114]⟩, ⟨#[111, 99, 116, 111, 98, 101, 114]⟩, ⟨#[110, 111, 118, 101, 109, 98, 101, 114]⟩, ⟨#[100, 101, 99, 101, 109, 98, 101, 114]⟩]
def dayL : List ByteArray := [⟨#[109, 111, 110, 100, 97, 121]⟩, ⟨#[116, 117, 101, 115, 100, 97, 121]⟩, ⟨#[119, 101, 100, 110, 101, 115, 100, 97, 121]⟩, ⟨#[116, 104, 117, 114, 115, 100, 97, 121]⟩, ⟨#[102, 114, 105, 100, 97, 121]⟩, ⟨#[115, 97, 116, 117, 114, 100, 97, 121]⟩, ⟨#[115, 117, 110, 100, 97, 121]⟩]
instance (t : ByteArray) : Decidable (lowT t) := inferInstanceAs (Decidable (_ ∧ _))
theorem month_low : ∀ (i : Nat) (h : i < monthL.length), lowT monthL[i] := by decide
theorem day_low : ∀ (i : Nat) (h : i < dayL.length), lowT dayL[i] := by decide
/-- the month, the weekday of which s is a name; 0: none -/
def monthN (s : ByteArray) : Nat := whichAt s monthL 0
def dayN (s : ByteArray) : Nat := whichAt s dayL 0
theorem monthN_le (s : ByteArray) : monthN s ≤ 12 := which_le (s := s) (l := monthL) 12 0 (by decide) (by decide)
theorem dayN_le (s : ByteArray) : dayN s ≤ 7 := which_le (s := s) (l := dayL) 7 0 (by decide) (by decide)
set_option maxRecDepth 100000 in
set_option maxHeartbeats 4000000 in
theorem mnR (s : ByteArray) (hs : s.size ≤ maxLen) (w : World) : Calls Tryz.prog 149 #[.string s] w (RetV w (.int .i64 (monthN s))) := by
  have WR := Lib.hid (fun (t : TypeId) => whichR s hs _ _ _ monthL _ (Ss.lit w monthL t (by decide) (by decide)) month_low (by decide))
  have HB := Lib.hid (fun (t : TypeId) => below_box w (.cells (strs monthL).toArray t))
  clear hs
  go_enter Tryz.func149, Tryz.ntmps149
  go_wp2_with fail
  refine (WR.out _).mono ?_
  rintro e w2 ⟨rfl, hb⟩
  go_wp2
  go_ret
  exact ⟨rfl, below_thru (HB.out _) hb⟩
set_option maxRecDepth 100000 in
set_option maxHeartbeats 4000000 in
theorem wnR (s : ByteArray) (hs : s.size ≤ maxLen) (w : World) : Calls Tryz.prog 170 #[.string s] w (RetV w (.int .i64 (dayN s))) := by
  have WR := Lib.hid (fun (t : TypeId) => whichR s hs _ _ _ dayL _ (Ss.lit w dayL t (by decide) (by decide)) day_low (by decide))
  have HB := Lib.hid (fun (t : TypeId) => below_box w (.cells (strs dayL).toArray t))
  clear hs
  go_enter Tryz.func170, Tryz.ntmps170
  go_wp2_with fail
  refine (WR.out _).mono ?_
  rintro e w2 ⟨rfl, hb⟩
  go_wp2
  go_ret
  exact ⟨rfl, below_thru (HB.out _) hb⟩
end Go.Proofs.YtnkmlfbnfndfpaaGreatDoor

/- The document's answer of layer 9: a day of a month. -/
namespace Go.Proofs.YtnkmlfbnfndfpaaGreatDoor
open Go.RowKit

/-- a day's number; 0: it is none -/
def dayRes (s : ByteArray) : Int := if numRes s 1 2 < 1 ∨ 31 < numRes s 1 2 then 0 else numRes s 1 2
theorem dayRes_in (s : ByteArray) : 0 ≤ dayRes s ∧ dayRes s ≤ 31 := by unfold dayRes; split <;> omega
set_option maxRecDepth 100000 in
set_option maxHeartbeats 4000000 in
theorem dayNumR (s : ByteArray) (hs : s.size ≤ maxLen) (w : World) : Calls Tryz.prog 172 #[.string s] w (fun e w' => e = .returned (.int .i64 (dayRes s)) ∧ w = w') := by
  have NR := Lib.hid (fun W => numberR s 1 2 (by decide) (by decide) hs W)
  unfold dayRes
  generalize numRes s 1 2 = n at *
  clear hs
  by_cases c1 : n < 1
  · rw [if_pos (.inl c1)]
    have d1 : decide (n < 1) = true := decide_eq_true c1
    go_enter Tryz.func172, Tryz.ntmps172
    go_wp2_with fail
    refine (NR.out _).mono ?_
    rintro e w1 ⟨rfl, rfl⟩
    go_wp2
    go_ret
    exact ⟨rfl, rfl⟩
  have d1 : decide (n < 1) = false := decide_eq_false c1
  by_cases c2 : 31 < n
  · rw [if_pos (.inr c2)]
    have d2 : decide (31 < n) = true := decide_eq_true c2
    go_enter Tryz.func172, Tryz.ntmps172
    go_wp2_with fail
    refine (NR.out _).mono ?_
    rintro e w1 ⟨rfl, rfl⟩
    go_wp2
    go_ret
    exact ⟨rfl, rfl⟩
  rw [if_neg (by omega)]
  have d2 : decide (31 < n) = false := decide_eq_false c2
  go_enter Tryz.func172, Tryz.ntmps172
  go_wp2_with fail
  refine (NR.out _).mono ?_
  rintro e w1 ⟨rfl, rfl⟩
  go_wp2
  go_ret
  exact ⟨rfl, rfl⟩
/-- where c and = stand first, from i on -/
def signAt (s : ByteArray) (c : Nat) (i : Nat) : Option Nat := if h : i + 1 < s.size then (if s[i].toNat = c ∧ s[i + 1].toNat = 61 then some i else signAt s c (i + 1)) else none
termination_by s.size - i
theorem sg_here {s : ByteArray} {c i : Nat} (h : i + 1 < s.size) (e : s[i].toNat = c ∧ s[i + 1].toNat = 61) : signAt s c i = some i := by rw [signAt, dif_pos h, if_pos e]
theorem sg_on {s : ByteArray} {c i : Nat} (h : i + 1 < s.size) (e : ¬ (s[i].toNat = c ∧ s[i + 1].toNat = 61)) : signAt s c i = signAt s c (i + 1) := by rw [signAt, dif_pos h, if_neg e]
theorem sg_end {s : ByteArray} {c i : Nat} (h : ¬ i + 1 < s.size) : signAt s c i = none := by rw [signAt, dif_neg h]
theorem sg_in {s : ByteArray} {c : Nat} : ∀ (d i : Nat), s.size - i ≤ d → ∀ k, signAt s c i = some k → i ≤ k ∧ k + 2 ≤ s.size := by
  intro d
  induction d with
  | zero => intro i h k e; rw [sg_end (by omega)] at e; cases e
  | succ d ih =>
    intro i h k e
    by_cases hi : i + 1 < s.size
    · by_cases g : s[i].toNat = c ∧ s[i + 1].toNat = 61
      · rw [sg_here hi g] at e; cases e; omega
      · rw [sg_on hi g] at e; have := ih (i + 1) (by omega) k e; omega
    · rw [sg_end hi] at e; cases e
def signI (r : Option Nat) : Int := match r with | some k => k | none => -1
set_option maxRecDepth 100000 in
set_option maxHeartbeats 4000000 in
theorem signR (s : ByteArray) (c : Nat) (hs : s.size ≤ 1000) (w : World) : Calls Tryz.prog 171 #[.string s, .int .u8 c] w (fun e w' => e = .returned (.int .i64 (signI (signAt s c 0))) ∧ w = w') := by
  go_enter Tryz.func171, Tryz.ntmps171
  go_wp2_with fail
  go_loop [5] (fun v => ∃ k : Nat, k ≤ s.size ∧ v = .int .i64 k ∧ signAt s c k = signAt s c 0) (fun v => s.size - (intOf v).toNat)
  case atStart => exact ⟨0, by omega, rfl, rfl⟩
  case round =>
    obtain ⟨k, hk, rfl, he⟩ := hrel
    have HE := Lib.hid he
    clear he
    by_cases h1 : k + 1 < s.size
    · have h0 : k < s.size := by omega
      have SH := Lib.hid (fun e => sg_here (c := c) h1 e)
      have SO := Lib.hid (fun e => sg_on (c := c) h1 e)
      have ek : ((k : Int) + 1).toNat = k + 1 := by omega
      by_cases q1 : s[k].toNat = c
      · have f1 : ((s[k].toNat : Int) == (c : Int)) = true := by rw [beq_iff_eq]; omega
        by_cases q2 : s[k + 1].toNat = 61
        · have f2 : ((s[k + 1].toNat : Int) == 61) = true := by rw [beq_iff_eq]; omega
          have E := Lib.hid (HE.out.symm.trans (SH.out ⟨q1, q2⟩))
          clear SH SO HE q1 q2
          go_wp2
          go_ret
          exact ⟨by rw [E.out]; rfl, rfl⟩
        · have f2 : ((s[k + 1].toNat : Int) == 61) = false := by rw [beq_eq_false_iff_ne]; omega
          have E := Lib.hid ((SO.out (fun h => q2 h.2)).symm.trans HE.out)
          clear SH SO HE q1 q2
          go_wp2
          go_round
          case rel => exact ⟨k + 1, by omega, by go_num, E.out⟩
          case measure => simp [intOf]; omega
      · have f1 : ((s[k].toNat : Int) == (c : Int)) = false := by rw [beq_eq_false_iff_ne]; omega
        have E := Lib.hid ((SO.out (fun h => q1 h.1)).symm.trans HE.out)
        clear SH SO HE q1
        go_wp2
        go_round
        case rel => exact ⟨k + 1, by omega, by go_num, E.out⟩
        case measure => simp [intOf]; omega
    · have E := Lib.hid (HE.out.symm.trans (sg_end h1))
      have h2 : ¬ (k : Int) + 1 < s.size := by omega
      go_wp2
      go_ret
      exact ⟨by rw [E.out]; rfl, rfl⟩
theorem txt_no {s : ByteArray} {l : List UInt8} (h : ¬ s = ⟨l.toArray⟩) : (s.toList == l) = false := by
  rw [beq_eq_false_iff_ne]
  intro e
  rw [ByteArray.toList_eq] at e
  apply h
  obtain ⟨⟨m⟩⟩ := s
  have : m = l := e
  rw [this]
theorem txt_yes {s : ByteArray} {l : List UInt8} (h : s = ⟨l.toArray⟩) : (s.toList == l) = true := by
  rw [h, ByteArray.toList_eq]
  exact beq_self_eq_true l
end Go.Proofs.YtnkmlfbnfndfpaaGreatDoor

/- The document's answer of layer 9: the day that a text tells. -/
namespace Go.Proofs.YtnkmlfbnfndfpaaGreatDoor
open Go.RowKit

/-- the day that stands around a sign -/
def dAt (s : ByteArray) (k : Int) (i : Nat) : Int × Int × Int × Bool := (k, dayN (s.extract 0 i), dayRes (s.extract (i + 2) s.size), decide (0 < (dayN (s.extract 0 i) : Int)) && decide (0 < dayRes (s.extract (i + 2) s.size)))
/-- kind, weekday, day, whether it is one -/
def dTup (s : ByteArray) : Int × Int × Int × Bool :=
  if s.extract 0 4 = ⟨[108, 97, 115, 116].toArray⟩ then (1, dayN (s.extract 4 s.size), 0, decide (0 < (dayN (s.extract 4 s.size) : Int)))
  else match signAt s 62 0 with
    | some i => dAt s 2 i
    | none => match signAt s 60 0 with
      | some i => dAt s 3 i
      | none => (0, 0, dayRes s, decide (0 < dayRes s))
/-- What a call that answers a kind, a weekday, a day and whether it is one leaves. -/
def RetD (w : World) (t : Int × Int × Int × Bool) (e : Ending) (w' : World) : Prop := e = .returned (.tuple #[.int .i64 t.1, .int .i64 t.2.1, .int .i64 t.2.2.1, .bool t.2.2.2]) ∧ Below w.heap.size w w'
set_option maxRecDepth 100000 in
set_option maxHeartbeats 8000000 in
theorem day_last (s : ByteArray) (a : Int) (h4 : 4 ≤ s.size) (hs : s.size ≤ 1000) (g1 : ((s.extract 0 4).toList == [108, 97, 115, 116]) = true) (WD : Hid (∀ W, Calls Tryz.prog 170 #[.string (s.extract 4 s.size)] W (RetV W (.int .i64 a)))) (w : World) : Calls Tryz.prog 150 #[.string s] w (RetD w (1, a, 0, decide (0 < a))) := by
  have d4 : decide ((4 : Int) ≤ s.size) = true := decide_eq_true (by omega)
  have l4 : (4 : Int) ≤ s.size := by omega
  go_enter Tryz.func150, Tryz.ntmps150
  go_wp2_with fail
  refine (WD.out _).mono ?_
  rintro e w1 ⟨rfl, hb⟩
  go_wp2
  exact bodyPost_ret (v := .tuple #[.int .i64 (1), .int .i64 (a), .int .i64 (0), .bool (decide (0 < a))]) (by simp [results, Tryz.results150, go_sem]) rfl ⟨rfl, hb⟩
set_option maxRecDepth 100000 in
set_option maxHeartbeats 8000000 in
theorem day_s2 (s : ByteArray) (h4 : ¬ 4 ≤ s.size) (_hs : s.size ≤ 1000) (i : Nat) (hi : i + 2 ≤ s.size) (a b : Int) (S2 : Hid (∀ W, Calls Tryz.prog 171 #[.string s, .int .u8 62] W (fun e w' => e = .returned (.int .i64 i) ∧ W = w'))) (WD : Hid (∀ W, Calls Tryz.prog 170 #[.string (s.extract 0 i)] W (RetV W (.int .i64 a)))) (DY : Hid (∀ W, Calls Tryz.prog 172 #[.string (s.extract (i + 2) s.size)] W (fun e w' => e = .returned (.int .i64 b) ∧ W = w'))) (w : World) : Calls Tryz.prog 150 #[.string s] w (RetD w (2, a, b, decide (0 < a) && decide (0 < b))) := by
  have d4 : decide ((4 : Int) ≤ s.size) = false := decide_eq_false (by omega)
  go_enter Tryz.func150, Tryz.ntmps150
  go_wp2_with fail
  clear d4
  go_loop [7] (fun v7 => v7 = .int .i64 2) (fun v7 => (4 - intOf v7).toNat)
  case atStart => exact rfl
  case round =>
    subst hrel
    go_wp2_with fail
    refine (S2.out _).mono ?_
    rintro e _w ⟨rfl, rfl⟩
    have j1 : (0 : Int) ≤ i := by omega
    have j2 : (i : Int) ≤ s.size := by omega
    have j3 : (0 : Int) ≤ (i : Int) + 2 := by omega
    have j4 : (i : Int) + 2 ≤ s.size := by omega
    have j5 : ((i : Int) + 2).toNat = i + 2 := by omega
    have j6 : IntKind.i64.wrap ((i : Int) + 2) = (i : Int) + 2 := IntWalk.i64_in _ (by omega)
    go_wp2_with fail
    have HB := Below.refl w.heap.size w
    replace HB := HB.drew
    go_region_held3 (fun w' => True) (first | exact trivial | go_keep)
      (first
        | (go_at_call 170; (with_reducible refine (WD.out _).mono ?_); rintro e W9 ⟨rfl, k⟩
           replace HB := below_thru HB k
           clear k)
        | (go_at_call 172; (with_reducible refine (DY.out _).mono ?_); rintro e W9 ⟨rfl, rfl⟩))
    all_goals
      by_cases qa : 0 < a
      · have ga : decide (0 < a) = true := decide_eq_true qa
        go_wp2
        exact bodyPost_ret (v := .tuple #[.int .i64 (2), .int .i64 (a), .int .i64 (b), .bool (decide (0 < b))]) (by simp [results, Tryz.results150, go_sem]) rfl ⟨by first | rfl | (rw [ga]; rfl), HB⟩
      · have ga : decide (0 < a) = false := decide_eq_false qa
        go_wp2
        exact bodyPost_ret (v := .tuple #[.int .i64 (2), .int .i64 (a), .int .i64 (b), .bool (false)]) (by simp [results, Tryz.results150, go_sem]) rfl ⟨by first | rfl | (rw [ga]; rfl), HB⟩
set_option maxRecDepth 100000 in
set_option maxHeartbeats 8000000 in
theorem day_s3 (s : ByteArray) (h4 : ¬ 4 ≤ s.size) (_hs : s.size ≤ 1000) (i : Nat) (hi : i + 2 ≤ s.size) (a b : Int) (S2 : Hid (∀ W, Calls Tryz.prog 171 #[.string s, .int .u8 62] W (fun e w' => e = .returned (.int .i64 (-1)) ∧ W = w'))) (S3 : Hid (∀ W, Calls Tryz.prog 171 #[.string s, .int .u8 60] W (fun e w' => e = .returned (.int .i64 i) ∧ W = w'))) (WD : Hid (∀ W, Calls Tryz.prog 170 #[.string (s.extract 0 i)] W (RetV W (.int .i64 a)))) (DY : Hid (∀ W, Calls Tryz.prog 172 #[.string (s.extract (i + 2) s.size)] W (fun e w' => e = .returned (.int .i64 b) ∧ W = w'))) (w : World) : Calls Tryz.prog 150 #[.string s] w (RetD w (3, a, b, decide (0 < a) && decide (0 < b))) := by
  have d4 : decide ((4 : Int) ≤ s.size) = false := decide_eq_false (by omega)
  go_enter Tryz.func150, Tryz.ntmps150
  go_wp2_with fail
  clear d4
  go_loop [7] (fun v7 => v7 = .int .i64 2 ∨ v7 = .int .i64 3) (fun v7 => (4 - intOf v7).toNat)
  case atStart => exact .inl rfl
  case round =>
    rcases hrel with rfl | rfl
    · go_wp2_with fail
      refine (S2.out _).mono ?_
      rintro e _w ⟨rfl, rfl⟩
      go_wp2
      go_round
      case rel => exact .inr rfl
      case measure => simp [intOf]
    · go_wp2_with fail
      refine (S3.out _).mono ?_
      rintro e _w ⟨rfl, rfl⟩
      have j1 : (0 : Int) ≤ i := by omega
      have j2 : (i : Int) ≤ s.size := by omega
      have j3 : (0 : Int) ≤ (i : Int) + 2 := by omega
      have j4 : (i : Int) + 2 ≤ s.size := by omega
      have j5 : ((i : Int) + 2).toNat = i + 2 := by omega
      have j6 : IntKind.i64.wrap ((i : Int) + 2) = (i : Int) + 2 := IntWalk.i64_in _ (by omega)
      go_wp2_with fail
      have HB := Below.refl w.heap.size w
      replace HB := HB.drew
      go_region_held3 (fun w' => True) (first | exact trivial | go_keep)
        (first
          | (go_at_call 170; (with_reducible refine (WD.out _).mono ?_); rintro e W9 ⟨rfl, k⟩
             replace HB := below_thru HB k
             clear k)
          | (go_at_call 172; (with_reducible refine (DY.out _).mono ?_); rintro e W9 ⟨rfl, rfl⟩))
      all_goals
        by_cases qa : 0 < a
        · have ga : decide (0 < a) = true := decide_eq_true qa
          go_wp2
          exact bodyPost_ret (v := .tuple #[.int .i64 (3), .int .i64 (a), .int .i64 (b), .bool (decide (0 < b))]) (by simp [results, Tryz.results150, go_sem]) rfl ⟨by first | rfl | (rw [ga]; rfl), HB⟩
        · have ga : decide (0 < a) = false := decide_eq_false qa
          go_wp2
          exact bodyPost_ret (v := .tuple #[.int .i64 (3), .int .i64 (a), .int .i64 (b), .bool (false)]) (by simp [results, Tryz.results150, go_sem]) rfl ⟨by first | rfl | (rw [ga]; rfl), HB⟩
set_option maxRecDepth 100000 in
set_option maxHeartbeats 8000000 in
theorem day_s0 (s : ByteArray) (h4 : ¬ 4 ≤ s.size) (_hs : s.size ≤ 1000) (b : Int) (S2 : Hid (∀ W, Calls Tryz.prog 171 #[.string s, .int .u8 62] W (fun e w' => e = .returned (.int .i64 (-1)) ∧ W = w'))) (S3 : Hid (∀ W, Calls Tryz.prog 171 #[.string s, .int .u8 60] W (fun e w' => e = .returned (.int .i64 (-1)) ∧ W = w'))) (DY : Hid (∀ W, Calls Tryz.prog 172 #[.string s] W (fun e w' => e = .returned (.int .i64 b) ∧ W = w'))) (w : World) : Calls Tryz.prog 150 #[.string s] w (RetD w (0, 0, b, decide (0 < b))) := by
  have d4 : decide ((4 : Int) ≤ s.size) = false := decide_eq_false (by omega)
  go_enter Tryz.func150, Tryz.ntmps150
  go_wp2_with fail
  clear d4
  go_loop [7] (fun v7 => v7 = .int .i64 2 ∨ v7 = .int .i64 3 ∨ v7 = .int .i64 4) (fun v7 => (4 - intOf v7).toNat)
  case atStart => exact .inl rfl
  case round =>
    rcases hrel with rfl | rfl | rfl
    · go_wp2_with fail
      refine (S2.out _).mono ?_
      rintro e _w ⟨rfl, rfl⟩
      go_wp2
      go_round
      case rel => exact .inr (.inl rfl)
      case measure => simp [intOf]
    · go_wp2_with fail
      refine (S3.out _).mono ?_
      rintro e _w ⟨rfl, rfl⟩
      go_wp2
      go_round
      case rel => exact .inr (.inr rfl)
      case measure => simp [intOf]
    · go_wp2_with fail
      refine (DY.out _).mono ?_
      rintro e _w ⟨rfl, rfl⟩
      go_wp2
      exact bodyPost_ret (v := .tuple #[.int .i64 (0), .int .i64 (0), .int .i64 (b), .bool (decide (0 < b))]) (by simp [results, Tryz.results150, go_sem]) rfl ⟨rfl, Below.refl _ _⟩
set_option maxRecDepth 100000 in
set_option maxHeartbeats 8000000 in
theorem day_l2 (s : ByteArray) (h4 : 4 ≤ s.size) (g1 : ((s.extract 0 4).toList == [108, 97, 115, 116]) = false) (_hs : s.size ≤ 1000) (i : Nat) (hi : i + 2 ≤ s.size) (a b : Int) (S2 : Hid (∀ W, Calls Tryz.prog 171 #[.string s, .int .u8 62] W (fun e w' => e = .returned (.int .i64 i) ∧ W = w'))) (WD : Hid (∀ W, Calls Tryz.prog 170 #[.string (s.extract 0 i)] W (RetV W (.int .i64 a)))) (DY : Hid (∀ W, Calls Tryz.prog 172 #[.string (s.extract (i + 2) s.size)] W (fun e w' => e = .returned (.int .i64 b) ∧ W = w'))) (w : World) : Calls Tryz.prog 150 #[.string s] w (RetD w (2, a, b, decide (0 < a) && decide (0 < b))) := by
  have d4 : decide ((4 : Int) ≤ s.size) = true := decide_eq_true (by omega)
  have l4 : (4 : Int) ≤ s.size := by omega
  go_enter Tryz.func150, Tryz.ntmps150
  go_wp2_with fail
  clear d4
  go_loop [7] (fun v7 => v7 = .int .i64 2) (fun v7 => (4 - intOf v7).toNat)
  case atStart => exact rfl
  case round =>
    subst hrel
    go_wp2_with fail
    refine (S2.out _).mono ?_
    rintro e _w ⟨rfl, rfl⟩
    have j1 : (0 : Int) ≤ i := by omega
    have j2 : (i : Int) ≤ s.size := by omega
    have j3 : (0 : Int) ≤ (i : Int) + 2 := by omega
    have j4 : (i : Int) + 2 ≤ s.size := by omega
    have j5 : ((i : Int) + 2).toNat = i + 2 := by omega
    have j6 : IntKind.i64.wrap ((i : Int) + 2) = (i : Int) + 2 := IntWalk.i64_in _ (by omega)
    go_wp2_with fail
    have HB := Below.refl w.heap.size w
    replace HB := HB.drew
    go_region_held3 (fun w' => True) (first | exact trivial | go_keep)
      (first
        | (go_at_call 170; (with_reducible refine (WD.out _).mono ?_); rintro e W9 ⟨rfl, k⟩
           replace HB := below_thru HB k
           clear k)
        | (go_at_call 172; (with_reducible refine (DY.out _).mono ?_); rintro e W9 ⟨rfl, rfl⟩))
    all_goals
      by_cases qa : 0 < a
      · have ga : decide (0 < a) = true := decide_eq_true qa
        go_wp2
        exact bodyPost_ret (v := .tuple #[.int .i64 (2), .int .i64 (a), .int .i64 (b), .bool (decide (0 < b))]) (by simp [results, Tryz.results150, go_sem]) rfl ⟨by first | rfl | (rw [ga]; rfl), HB⟩
      · have ga : decide (0 < a) = false := decide_eq_false qa
        go_wp2
        exact bodyPost_ret (v := .tuple #[.int .i64 (2), .int .i64 (a), .int .i64 (b), .bool (false)]) (by simp [results, Tryz.results150, go_sem]) rfl ⟨by first | rfl | (rw [ga]; rfl), HB⟩
set_option maxRecDepth 100000 in
set_option maxHeartbeats 8000000 in
theorem day_l3 (s : ByteArray) (h4 : 4 ≤ s.size) (g1 : ((s.extract 0 4).toList == [108, 97, 115, 116]) = false) (_hs : s.size ≤ 1000) (i : Nat) (hi : i + 2 ≤ s.size) (a b : Int) (S2 : Hid (∀ W, Calls Tryz.prog 171 #[.string s, .int .u8 62] W (fun e w' => e = .returned (.int .i64 (-1)) ∧ W = w'))) (S3 : Hid (∀ W, Calls Tryz.prog 171 #[.string s, .int .u8 60] W (fun e w' => e = .returned (.int .i64 i) ∧ W = w'))) (WD : Hid (∀ W, Calls Tryz.prog 170 #[.string (s.extract 0 i)] W (RetV W (.int .i64 a)))) (DY : Hid (∀ W, Calls Tryz.prog 172 #[.string (s.extract (i + 2) s.size)] W (fun e w' => e = .returned (.int .i64 b) ∧ W = w'))) (w : World) : Calls Tryz.prog 150 #[.string s] w (RetD w (3, a, b, decide (0 < a) && decide (0 < b))) := by
  have d4 : decide ((4 : Int) ≤ s.size) = true := decide_eq_true (by omega)
  have l4 : (4 : Int) ≤ s.size := by omega
  go_enter Tryz.func150, Tryz.ntmps150
  go_wp2_with fail
  clear d4
  go_loop [7] (fun v7 => v7 = .int .i64 2 ∨ v7 = .int .i64 3) (fun v7 => (4 - intOf v7).toNat)
  case atStart => exact .inl rfl
  case round =>
    rcases hrel with rfl | rfl
    · go_wp2_with fail
      refine (S2.out _).mono ?_
      rintro e _w ⟨rfl, rfl⟩
      go_wp2
      go_round
      case rel => exact .inr rfl
      case measure => simp [intOf]
    · go_wp2_with fail
      refine (S3.out _).mono ?_
      rintro e _w ⟨rfl, rfl⟩
      have j1 : (0 : Int) ≤ i := by omega
      have j2 : (i : Int) ≤ s.size := by omega
      have j3 : (0 : Int) ≤ (i : Int) + 2 := by omega
      have j4 : (i : Int) + 2 ≤ s.size := by omega
      have j5 : ((i : Int) + 2).toNat = i + 2 := by omega
      have j6 : IntKind.i64.wrap ((i : Int) + 2) = (i : Int) + 2 := IntWalk.i64_in _ (by omega)
      go_wp2_with fail
      have HB := Below.refl w.heap.size w
      replace HB := HB.drew
      go_region_held3 (fun w' => True) (first | exact trivial | go_keep)
        (first
          | (go_at_call 170; (with_reducible refine (WD.out _).mono ?_); rintro e W9 ⟨rfl, k⟩
             replace HB := below_thru HB k
             clear k)
          | (go_at_call 172; (with_reducible refine (DY.out _).mono ?_); rintro e W9 ⟨rfl, rfl⟩))
      all_goals
        by_cases qa : 0 < a
        · have ga : decide (0 < a) = true := decide_eq_true qa
          go_wp2
          exact bodyPost_ret (v := .tuple #[.int .i64 (3), .int .i64 (a), .int .i64 (b), .bool (decide (0 < b))]) (by simp [results, Tryz.results150, go_sem]) rfl ⟨by first | rfl | (rw [ga]; rfl), HB⟩
        · have ga : decide (0 < a) = false := decide_eq_false qa
          go_wp2
          exact bodyPost_ret (v := .tuple #[.int .i64 (3), .int .i64 (a), .int .i64 (b), .bool (false)]) (by simp [results, Tryz.results150, go_sem]) rfl ⟨by first | rfl | (rw [ga]; rfl), HB⟩
set_option maxRecDepth 100000 in
set_option maxHeartbeats 8000000 in
theorem day_l0 (s : ByteArray) (h4 : 4 ≤ s.size) (g1 : ((s.extract 0 4).toList == [108, 97, 115, 116]) = false) (_hs : s.size ≤ 1000) (b : Int) (S2 : Hid (∀ W, Calls Tryz.prog 171 #[.string s, .int .u8 62] W (fun e w' => e = .returned (.int .i64 (-1)) ∧ W = w'))) (S3 : Hid (∀ W, Calls Tryz.prog 171 #[.string s, .int .u8 60] W (fun e w' => e = .returned (.int .i64 (-1)) ∧ W = w'))) (DY : Hid (∀ W, Calls Tryz.prog 172 #[.string s] W (fun e w' => e = .returned (.int .i64 b) ∧ W = w'))) (w : World) : Calls Tryz.prog 150 #[.string s] w (RetD w (0, 0, b, decide (0 < b))) := by
  have d4 : decide ((4 : Int) ≤ s.size) = true := decide_eq_true (by omega)
  have l4 : (4 : Int) ≤ s.size := by omega
  go_enter Tryz.func150, Tryz.ntmps150
  go_wp2_with fail
  clear d4
  go_loop [7] (fun v7 => v7 = .int .i64 2 ∨ v7 = .int .i64 3 ∨ v7 = .int .i64 4) (fun v7 => (4 - intOf v7).toNat)
  case atStart => exact .inl rfl
  case round =>
    rcases hrel with rfl | rfl | rfl
    · go_wp2_with fail
      refine (S2.out _).mono ?_
      rintro e _w ⟨rfl, rfl⟩
      go_wp2
      go_round
      case rel => exact .inr (.inl rfl)
      case measure => simp [intOf]
    · go_wp2_with fail
      refine (S3.out _).mono ?_
      rintro e _w ⟨rfl, rfl⟩
      go_wp2
      go_round
      case rel => exact .inr (.inr rfl)
      case measure => simp [intOf]
    · go_wp2_with fail
      refine (DY.out _).mono ?_
      rintro e _w ⟨rfl, rfl⟩
      go_wp2
      exact bodyPost_ret (v := .tuple #[.int .i64 (0), .int .i64 (0), .int .i64 (b), .bool (decide (0 < b))]) (by simp [results, Tryz.results150, go_sem]) rfl ⟨rfl, Below.refl _ _⟩
theorem dTupR (s : ByteArray) (hs : s.size ≤ 1000) (w : World) : Calls Tryz.prog 150 #[.string s] w (RetD w (dTup s)) := by
  have ex : ∀ a b, (s.extract a b).size ≤ maxLen := fun a b => by rw [ByteArray.size_extract]; unfold maxLen; omega
  by_cases g : s.extract 0 4 = ⟨[108, 97, 115, 116].toArray⟩
  · have h4 : 4 ≤ s.size := by
      have e := congrArg ByteArray.size g
      rw [ByteArray.size_extract] at e
      have : (⟨[108, 97, 115, 116].toArray⟩ : ByteArray).size = 4 := rfl
      omega
    rw [show dTup s = _ from if_pos g]
    exact day_last s _ h4 hs (txt_yes g) (Lib.hid fun W => wnR _ (ex _ _) W) w
  have S2 := fun W => signR s 62 hs W
  have S3 := fun W => signR s 60 hs W
  have e0 : dTup s = (match signAt s 62 0 with
    | some i => dAt s 2 i
    | none => match signAt s 60 0 with
      | some i => dAt s 3 i
      | none => (0, 0, dayRes s, decide (0 < dayRes s))) := if_neg g
  rw [e0]
  clear e0
  have g1 := txt_no g
  cases e2 : signAt s 62 0 with
  | some i =>
    rw [e2] at S2
    have hi := (sg_in s.size 0 (by omega) i e2).2
    by_cases h4 : 4 ≤ s.size
    · exact day_l2 s h4 g1 hs i hi _ _ (Lib.hid S2) (Lib.hid fun W => wnR _ (ex _ _) W) (Lib.hid fun W => dayNumR _ (ex _ _) W) w
    · exact day_s2 s h4 hs i hi _ _ (Lib.hid S2) (Lib.hid fun W => wnR _ (ex _ _) W) (Lib.hid fun W => dayNumR _ (ex _ _) W) w
  | none =>
    rw [e2] at S2
    cases e3 : signAt s 60 0 with
    | some i =>
      rw [e3] at S3
      have hi := (sg_in s.size 0 (by omega) i e3).2
      by_cases h4 : 4 ≤ s.size
      · exact day_l3 s h4 g1 hs i hi _ _ (Lib.hid S2) (Lib.hid S3) (Lib.hid fun W => wnR _ (ex _ _) W) (Lib.hid fun W => dayNumR _ (ex _ _) W) w
      · exact day_s3 s h4 hs i hi _ _ (Lib.hid S2) (Lib.hid S3) (Lib.hid fun W => wnR _ (ex _ _) W) (Lib.hid fun W => dayNumR _ (ex _ _) W) w
    | none =>
      rw [e3] at S3
      have ss : s.size ≤ maxLen := by unfold maxLen; omega
      by_cases h4 : 4 ≤ s.size
      · exact day_l0 s h4 g1 hs _ (Lib.hid S2) (Lib.hid S3) (Lib.hid fun W => dayNumR s ss W) w
      · exact day_s0 s h4 hs _ (Lib.hid S2) (Lib.hid S3) (Lib.hid fun W => dayNumR s ss W) w
end Go.Proofs.YtnkmlfbnfndfpaaGreatDoor

/- The document's answer of layer 9: a clock's time with its letter. -/
namespace Go.Proofs.YtnkmlfbnfndfpaaGreatDoor
open Go.RowKit

/-- by which clock a letter tells; -1: it is none -/
def refOf (c : Nat) : Int := if c = 119 then 0 else if c = 115 then 1 else if c = 117 then 2 else if c = 103 then 2 else if c = 122 then 2 else -1
/-- the seconds, and by which clock -/
def clockRes (s : ByteArray) : Option (Int × Int) :=
  if h : 0 < s.size then (if refOf s[s.size - 1].toNat < 0 then (spanRes s).map (fun v => (v, 0))
    else if s.extract 0 (s.size - 1) = ⟨#[45]⟩ then none else (spanRes (s.extract 0 (s.size - 1))).map (fun v => (v, refOf s[s.size - 1].toNat))) else none
/-- What a call that answers seconds, a clock and whether there are any leaves. -/
def RetCk (w : World) (r : Option (Int × Int)) (e : Ending) (w' : World) : Prop := e = .returned (.tuple #[.int .i64 ((r.map (·.1)).getD 0), .int .i64 ((r.map (·.2)).getD 0), .bool r.isSome]) ∧ Below w.heap.size w w'
theorem ck_nil {s : ByteArray} (h : ¬ 0 < s.size) : clockRes s = none := by unfold clockRes; rw [dif_neg h]
theorem ck_bare {s : ByteArray} (h : 0 < s.size) (e : refOf s[s.size - 1].toNat < 0) : clockRes s = (spanRes s).map (fun v => (v, 0)) := by unfold clockRes; rw [dif_pos h, if_pos e]
theorem ck_dash {s : ByteArray} (h : 0 < s.size) (e : ¬ refOf s[s.size - 1].toNat < 0) (d : s.extract 0 (s.size - 1) = ⟨#[45]⟩) : clockRes s = none := by unfold clockRes; rw [dif_pos h, if_neg e, if_pos d]
theorem ck_ref {s : ByteArray} (h : 0 < s.size) (e : ¬ refOf s[s.size - 1].toNat < 0) (d : ¬ s.extract 0 (s.size - 1) = ⟨#[45]⟩) : clockRes s = (spanRes (s.extract 0 (s.size - 1))).map (fun v => (v, refOf s[s.size - 1].toNat)) := by unfold clockRes; rw [dif_pos h, if_neg e, if_neg d]
set_option maxRecDepth 100000 in
set_option maxHeartbeats 4000000 in
theorem clock_nil (s : ByteArray) (h : s.size = 0) (w : World) : Calls Tryz.prog 151 #[.string s] w (RetCk w none) := by
  have d : ((s.size : Int) == 0) = true := by rw [beq_iff_eq]; omega
  go_enter Tryz.func151, Tryz.ntmps151
  go_wp2
  exact bodyPost_ret (v := .tuple #[.int .i64 0, .int .i64 0, .bool false]) (by simp [results, Tryz.results151, go_sem]) rfl ⟨rfl, Below.refl _ _⟩
set_option maxRecDepth 100000 in
set_option maxHeartbeats 4000000 in
theorem clock_plain (s : ByteArray) (c : Nat) (r : Option Int) (h : 0 < s.size) (_hs : s.size ≤ 1000) (hc : s[s.size - 1].toNat = c) (c1 : ¬ c = 119) (c2 : ¬ c = 115) (c3 : ¬ c = 117) (c4 : ¬ c = 103) (c5 : ¬ c = 122)
    (SP : Hid (∀ W, Calls Tryz.prog 114 #[.string s] W (RetOI W r))) (w : World) : Calls Tryz.prog 151 #[.string s] w (RetCk w (r.map (fun v => (v, 0)))) := by
  have d : ((s.size : Int) == 0) = false := by rw [beq_eq_false_iff_ne]; omega
  have f1 : ((c : Int) == 119) = false := by rw [beq_eq_false_iff_ne]; omega
  have f2 : ((c : Int) == 115) = false := by rw [beq_eq_false_iff_ne]; omega
  have f3 : ((c : Int) == 117) = false := by rw [beq_eq_false_iff_ne]; omega
  have f4 : ((c : Int) == 103) = false := by rw [beq_eq_false_iff_ne]; omega
  have f5 : ((c : Int) == 122) = false := by rw [beq_eq_false_iff_ne]; omega
  clear c1 c2 c3 c4 c5
  go_enter Tryz.func151, Tryz.ntmps151
  go_wp2_with fail
  refine (SP.out _).mono ?_
  rintro e w1 ⟨rfl, hb⟩
  go_wp2
  exact bodyPost_ret (v := .tuple #[.int .i64 (r.getD 0), .int .i64 0, .bool r.isSome]) (by simp [results, Tryz.results151, go_sem]) rfl ⟨by cases r <;> rfl, hb⟩
end Go.Proofs.YtnkmlfbnfndfpaaGreatDoor

/- The document's answer of layer 9: a clock's time with each of its letters. -/
namespace Go.Proofs.YtnkmlfbnfndfpaaGreatDoor
open Go.RowKit

set_option maxRecDepth 100000 in
set_option maxHeartbeats 4000000 in
theorem let119_no (s : ByteArray) (h : 0 < s.size) (_hs : s.size ≤ 1000) (hc : s[s.size - 1].toNat = 119) (SP : Hid (∀ W, Calls Tryz.prog 114 #[.string (s.extract 0 (s.size - 1))] W (RetOI W (none)))) (w : World) : Calls Tryz.prog 151 #[.string s] w (RetCk w none) := by
  have d : ((s.size : Int) == 0) = false := by rw [beq_eq_false_iff_ne]; omega
  have l1 : (0 : Int) ≤ (s.size : Int) - 1 := by omega
  have l2 : (s.size : Int) - 1 ≤ s.size := by omega
  go_enter Tryz.func151, Tryz.ntmps151
  go_wp2_with fail
  refine (SP.out _).mono ?_
  rintro e w1 ⟨rfl, hb⟩
  go_wp2
  exact bodyPost_ret (v := .tuple #[.int .i64 (0), .int .i64 (0), .bool false]) (by simp [results, Tryz.results151, go_sem]) rfl ⟨rfl, hb⟩
set_option maxRecDepth 100000 in
set_option maxHeartbeats 4000000 in
theorem let119_dash (s : ByteArray) (h : 0 < s.size) (_hs : s.size ≤ 1000) (hc : s[s.size - 1].toNat = 119) (g1 : s.extract 0 (s.size - 1) = ⟨#[45]⟩) (v : Int) (SP : Hid (∀ W, Calls Tryz.prog 114 #[.string (s.extract 0 (s.size - 1))] W (RetOI W (some v)))) (w : World) : Calls Tryz.prog 151 #[.string s] w (RetCk w none) := by
  have d : ((s.size : Int) == 0) = false := by rw [beq_eq_false_iff_ne]; omega
  have l1 : (0 : Int) ≤ (s.size : Int) - 1 := by omega
  have l2 : (s.size : Int) - 1 ≤ s.size := by omega
  have g2 : ((s.extract 0 (s.size - 1)).toList == [45]) = true := by rw [g1, ByteArray.toList_eq]; rfl
  clear g1
  go_enter Tryz.func151, Tryz.ntmps151
  go_wp2_with fail
  refine (SP.out _).mono ?_
  rintro e w1 ⟨rfl, hb⟩
  go_wp2
  exact bodyPost_ret (v := .tuple #[.int .i64 (0), .int .i64 (0), .bool false]) (by simp [results, Tryz.results151, go_sem]) rfl ⟨rfl, hb⟩
set_option maxRecDepth 100000 in
set_option maxHeartbeats 4000000 in
theorem let119_yes (s : ByteArray) (h : 0 < s.size) (_hs : s.size ≤ 1000) (hc : s[s.size - 1].toNat = 119) (g1 : ((s.extract 0 (s.size - 1)).toList == [45]) = false) (v : Int) (SP : Hid (∀ W, Calls Tryz.prog 114 #[.string (s.extract 0 (s.size - 1))] W (RetOI W (some v)))) (w : World) : Calls Tryz.prog 151 #[.string s] w (RetCk w (some (v, 0))) := by
  have d : ((s.size : Int) == 0) = false := by rw [beq_eq_false_iff_ne]; omega
  have l1 : (0 : Int) ≤ (s.size : Int) - 1 := by omega
  have l2 : (s.size : Int) - 1 ≤ s.size := by omega
  go_enter Tryz.func151, Tryz.ntmps151
  go_wp2_with fail
  refine (SP.out _).mono ?_
  rintro e w1 ⟨rfl, hb⟩
  go_wp2
  exact bodyPost_ret (v := .tuple #[.int .i64 (v), .int .i64 (0), .bool true]) (by simp [results, Tryz.results151, go_sem]) rfl ⟨rfl, hb⟩
theorem let119 (s : ByteArray) (h : 0 < s.size) (_hs : s.size ≤ 1000) (hc : s[s.size - 1].toNat = 119) (SP : ∀ W, Calls Tryz.prog 114 #[.string (s.extract 0 (s.size - 1))] W (RetOI W (spanRes (s.extract 0 (s.size - 1))))) (w : World) : Calls Tryz.prog 151 #[.string s] w (RetCk w (clockRes s)) := by
  have er : refOf s[s.size - 1].toNat = 0 := by rw [hc]; rfl
  have n0 : ¬ refOf s[s.size - 1].toNat < 0 := by rw [er]; decide
  by_cases g : s.extract 0 (s.size - 1) = ⟨#[45]⟩
  · rw [ck_dash h n0 g]
    rw [show spanRes (s.extract 0 (s.size - 1)) = some 0 by rw [g, span_dash]] at SP
    exact let119_dash s h _hs hc g 0 (Lib.hid SP) w
  · rw [ck_ref h n0 g, er]
    cases e : spanRes (s.extract 0 (s.size - 1)) with
    | none => rw [e] at SP; exact let119_no s h _hs hc (Lib.hid SP) w
    | some v => rw [e] at SP; exact let119_yes s h _hs hc (dash_no g) v (Lib.hid SP) w
set_option maxRecDepth 100000 in
set_option maxHeartbeats 4000000 in
theorem let115_no (s : ByteArray) (h : 0 < s.size) (_hs : s.size ≤ 1000) (hc : s[s.size - 1].toNat = 115) (SP : Hid (∀ W, Calls Tryz.prog 114 #[.string (s.extract 0 (s.size - 1))] W (RetOI W (none)))) (w : World) : Calls Tryz.prog 151 #[.string s] w (RetCk w none) := by
  have d : ((s.size : Int) == 0) = false := by rw [beq_eq_false_iff_ne]; omega
  have l1 : (0 : Int) ≤ (s.size : Int) - 1 := by omega
  have l2 : (s.size : Int) - 1 ≤ s.size := by omega
  go_enter Tryz.func151, Tryz.ntmps151
  go_wp2_with fail
  refine (SP.out _).mono ?_
  rintro e w1 ⟨rfl, hb⟩
  go_wp2
  exact bodyPost_ret (v := .tuple #[.int .i64 (0), .int .i64 (0), .bool false]) (by simp [results, Tryz.results151, go_sem]) rfl ⟨rfl, hb⟩
set_option maxRecDepth 100000 in
set_option maxHeartbeats 4000000 in
theorem let115_dash (s : ByteArray) (h : 0 < s.size) (_hs : s.size ≤ 1000) (hc : s[s.size - 1].toNat = 115) (g1 : s.extract 0 (s.size - 1) = ⟨#[45]⟩) (v : Int) (SP : Hid (∀ W, Calls Tryz.prog 114 #[.string (s.extract 0 (s.size - 1))] W (RetOI W (some v)))) (w : World) : Calls Tryz.prog 151 #[.string s] w (RetCk w none) := by
  have d : ((s.size : Int) == 0) = false := by rw [beq_eq_false_iff_ne]; omega
  have l1 : (0 : Int) ≤ (s.size : Int) - 1 := by omega
  have l2 : (s.size : Int) - 1 ≤ s.size := by omega
  have g2 : ((s.extract 0 (s.size - 1)).toList == [45]) = true := by rw [g1, ByteArray.toList_eq]; rfl
  clear g1
  go_enter Tryz.func151, Tryz.ntmps151
  go_wp2_with fail
  refine (SP.out _).mono ?_
  rintro e w1 ⟨rfl, hb⟩
  go_wp2
  exact bodyPost_ret (v := .tuple #[.int .i64 (0), .int .i64 (0), .bool false]) (by simp [results, Tryz.results151, go_sem]) rfl ⟨rfl, hb⟩
set_option maxRecDepth 100000 in
set_option maxHeartbeats 4000000 in
theorem let115_yes (s : ByteArray) (h : 0 < s.size) (_hs : s.size ≤ 1000) (hc : s[s.size - 1].toNat = 115) (g1 : ((s.extract 0 (s.size - 1)).toList == [45]) = false) (v : Int) (SP : Hid (∀ W, Calls Tryz.prog 114 #[.string (s.extract 0 (s.size - 1))] W (RetOI W (some v)))) (w : World) : Calls Tryz.prog 151 #[.string s] w (RetCk w (some (v, 1))) := by
  have d : ((s.size : Int) == 0) = false := by rw [beq_eq_false_iff_ne]; omega
  have l1 : (0 : Int) ≤ (s.size : Int) - 1 := by omega
  have l2 : (s.size : Int) - 1 ≤ s.size := by omega
  go_enter Tryz.func151, Tryz.ntmps151
  go_wp2_with fail
  refine (SP.out _).mono ?_
  rintro e w1 ⟨rfl, hb⟩
  go_wp2
  exact bodyPost_ret (v := .tuple #[.int .i64 (v), .int .i64 (1), .bool true]) (by simp [results, Tryz.results151, go_sem]) rfl ⟨rfl, hb⟩
theorem let115 (s : ByteArray) (h : 0 < s.size) (_hs : s.size ≤ 1000) (hc : s[s.size - 1].toNat = 115) (SP : ∀ W, Calls Tryz.prog 114 #[.string (s.extract 0 (s.size - 1))] W (RetOI W (spanRes (s.extract 0 (s.size - 1))))) (w : World) : Calls Tryz.prog 151 #[.string s] w (RetCk w (clockRes s)) := by
  have er : refOf s[s.size - 1].toNat = 1 := by rw [hc]; rfl
  have n0 : ¬ refOf s[s.size - 1].toNat < 0 := by rw [er]; decide
  by_cases g : s.extract 0 (s.size - 1) = ⟨#[45]⟩
  · rw [ck_dash h n0 g]
    rw [show spanRes (s.extract 0 (s.size - 1)) = some 0 by rw [g, span_dash]] at SP
    exact let115_dash s h _hs hc g 0 (Lib.hid SP) w
  · rw [ck_ref h n0 g, er]
    cases e : spanRes (s.extract 0 (s.size - 1)) with
    | none => rw [e] at SP; exact let115_no s h _hs hc (Lib.hid SP) w
    | some v => rw [e] at SP; exact let115_yes s h _hs hc (dash_no g) v (Lib.hid SP) w
set_option maxRecDepth 100000 in
set_option maxHeartbeats 4000000 in
theorem let117_no (s : ByteArray) (h : 0 < s.size) (_hs : s.size ≤ 1000) (hc : s[s.size - 1].toNat = 117) (SP : Hid (∀ W, Calls Tryz.prog 114 #[.string (s.extract 0 (s.size - 1))] W (RetOI W (none)))) (w : World) : Calls Tryz.prog 151 #[.string s] w (RetCk w none) := by
  have d : ((s.size : Int) == 0) = false := by rw [beq_eq_false_iff_ne]; omega
  have l1 : (0 : Int) ≤ (s.size : Int) - 1 := by omega
  have l2 : (s.size : Int) - 1 ≤ s.size := by omega
  go_enter Tryz.func151, Tryz.ntmps151
  go_wp2_with fail
  refine (SP.out _).mono ?_
  rintro e w1 ⟨rfl, hb⟩
  go_wp2
  exact bodyPost_ret (v := .tuple #[.int .i64 (0), .int .i64 (0), .bool false]) (by simp [results, Tryz.results151, go_sem]) rfl ⟨rfl, hb⟩
set_option maxRecDepth 100000 in
set_option maxHeartbeats 4000000 in
theorem let117_dash (s : ByteArray) (h : 0 < s.size) (_hs : s.size ≤ 1000) (hc : s[s.size - 1].toNat = 117) (g1 : s.extract 0 (s.size - 1) = ⟨#[45]⟩) (v : Int) (SP : Hid (∀ W, Calls Tryz.prog 114 #[.string (s.extract 0 (s.size - 1))] W (RetOI W (some v)))) (w : World) : Calls Tryz.prog 151 #[.string s] w (RetCk w none) := by
  have d : ((s.size : Int) == 0) = false := by rw [beq_eq_false_iff_ne]; omega
  have l1 : (0 : Int) ≤ (s.size : Int) - 1 := by omega
  have l2 : (s.size : Int) - 1 ≤ s.size := by omega
  have g2 : ((s.extract 0 (s.size - 1)).toList == [45]) = true := by rw [g1, ByteArray.toList_eq]; rfl
  clear g1
  go_enter Tryz.func151, Tryz.ntmps151
  go_wp2_with fail
  refine (SP.out _).mono ?_
  rintro e w1 ⟨rfl, hb⟩
  go_wp2
  exact bodyPost_ret (v := .tuple #[.int .i64 (0), .int .i64 (0), .bool false]) (by simp [results, Tryz.results151, go_sem]) rfl ⟨rfl, hb⟩
set_option maxRecDepth 100000 in
set_option maxHeartbeats 4000000 in
theorem let117_yes (s : ByteArray) (h : 0 < s.size) (_hs : s.size ≤ 1000) (hc : s[s.size - 1].toNat = 117) (g1 : ((s.extract 0 (s.size - 1)).toList == [45]) = false) (v : Int) (SP : Hid (∀ W, Calls Tryz.prog 114 #[.string (s.extract 0 (s.size - 1))] W (RetOI W (some v)))) (w : World) : Calls Tryz.prog 151 #[.string s] w (RetCk w (some (v, 2))) := by
  have d : ((s.size : Int) == 0) = false := by rw [beq_eq_false_iff_ne]; omega
  have l1 : (0 : Int) ≤ (s.size : Int) - 1 := by omega
  have l2 : (s.size : Int) - 1 ≤ s.size := by omega
  go_enter Tryz.func151, Tryz.ntmps151
  go_wp2_with fail
  refine (SP.out _).mono ?_
  rintro e w1 ⟨rfl, hb⟩
  go_wp2
  exact bodyPost_ret (v := .tuple #[.int .i64 (v), .int .i64 (2), .bool true]) (by simp [results, Tryz.results151, go_sem]) rfl ⟨rfl, hb⟩
theorem let117 (s : ByteArray) (h : 0 < s.size) (_hs : s.size ≤ 1000) (hc : s[s.size - 1].toNat = 117) (SP : ∀ W, Calls Tryz.prog 114 #[.string (s.extract 0 (s.size - 1))] W (RetOI W (spanRes (s.extract 0 (s.size - 1))))) (w : World) : Calls Tryz.prog 151 #[.string s] w (RetCk w (clockRes s)) := by
  have er : refOf s[s.size - 1].toNat = 2 := by rw [hc]; rfl
  have n0 : ¬ refOf s[s.size - 1].toNat < 0 := by rw [er]; decide
  by_cases g : s.extract 0 (s.size - 1) = ⟨#[45]⟩
  · rw [ck_dash h n0 g]
    rw [show spanRes (s.extract 0 (s.size - 1)) = some 0 by rw [g, span_dash]] at SP
    exact let117_dash s h _hs hc g 0 (Lib.hid SP) w
  · rw [ck_ref h n0 g, er]
    cases e : spanRes (s.extract 0 (s.size - 1)) with
    | none => rw [e] at SP; exact let117_no s h _hs hc (Lib.hid SP) w
    | some v => rw [e] at SP; exact let117_yes s h _hs hc (dash_no g) v (Lib.hid SP) w
set_option maxRecDepth 100000 in
set_option maxHeartbeats 4000000 in
theorem let103_no (s : ByteArray) (h : 0 < s.size) (_hs : s.size ≤ 1000) (hc : s[s.size - 1].toNat = 103) (SP : Hid (∀ W, Calls Tryz.prog 114 #[.string (s.extract 0 (s.size - 1))] W (RetOI W (none)))) (w : World) : Calls Tryz.prog 151 #[.string s] w (RetCk w none) := by
  have d : ((s.size : Int) == 0) = false := by rw [beq_eq_false_iff_ne]; omega
  have l1 : (0 : Int) ≤ (s.size : Int) - 1 := by omega
  have l2 : (s.size : Int) - 1 ≤ s.size := by omega
  go_enter Tryz.func151, Tryz.ntmps151
  go_wp2_with fail
  refine (SP.out _).mono ?_
  rintro e w1 ⟨rfl, hb⟩
  go_wp2
  exact bodyPost_ret (v := .tuple #[.int .i64 (0), .int .i64 (0), .bool false]) (by simp [results, Tryz.results151, go_sem]) rfl ⟨rfl, hb⟩
set_option maxRecDepth 100000 in
set_option maxHeartbeats 4000000 in
theorem let103_dash (s : ByteArray) (h : 0 < s.size) (_hs : s.size ≤ 1000) (hc : s[s.size - 1].toNat = 103) (g1 : s.extract 0 (s.size - 1) = ⟨#[45]⟩) (v : Int) (SP : Hid (∀ W, Calls Tryz.prog 114 #[.string (s.extract 0 (s.size - 1))] W (RetOI W (some v)))) (w : World) : Calls Tryz.prog 151 #[.string s] w (RetCk w none) := by
  have d : ((s.size : Int) == 0) = false := by rw [beq_eq_false_iff_ne]; omega
  have l1 : (0 : Int) ≤ (s.size : Int) - 1 := by omega
  have l2 : (s.size : Int) - 1 ≤ s.size := by omega
  have g2 : ((s.extract 0 (s.size - 1)).toList == [45]) = true := by rw [g1, ByteArray.toList_eq]; rfl
  clear g1
  go_enter Tryz.func151, Tryz.ntmps151
  go_wp2_with fail
  refine (SP.out _).mono ?_
  rintro e w1 ⟨rfl, hb⟩
  go_wp2
  exact bodyPost_ret (v := .tuple #[.int .i64 (0), .int .i64 (0), .bool false]) (by simp [results, Tryz.results151, go_sem]) rfl ⟨rfl, hb⟩
set_option maxRecDepth 100000 in
set_option maxHeartbeats 4000000 in
theorem let103_yes (s : ByteArray) (h : 0 < s.size) (_hs : s.size ≤ 1000) (hc : s[s.size - 1].toNat = 103) (g1 : ((s.extract 0 (s.size - 1)).toList == [45]) = false) (v : Int) (SP : Hid (∀ W, Calls Tryz.prog 114 #[.string (s.extract 0 (s.size - 1))] W (RetOI W (some v)))) (w : World) : Calls Tryz.prog 151 #[.string s] w (RetCk w (some (v, 2))) := by
  have d : ((s.size : Int) == 0) = false := by rw [beq_eq_false_iff_ne]; omega
  have l1 : (0 : Int) ≤ (s.size : Int) - 1 := by omega
  have l2 : (s.size : Int) - 1 ≤ s.size := by omega
  go_enter Tryz.func151, Tryz.ntmps151
  go_wp2_with fail
  refine (SP.out _).mono ?_
  rintro e w1 ⟨rfl, hb⟩
  go_wp2
  exact bodyPost_ret (v := .tuple #[.int .i64 (v), .int .i64 (2), .bool true]) (by simp [results, Tryz.results151, go_sem]) rfl ⟨rfl, hb⟩
theorem let103 (s : ByteArray) (h : 0 < s.size) (_hs : s.size ≤ 1000) (hc : s[s.size - 1].toNat = 103) (SP : ∀ W, Calls Tryz.prog 114 #[.string (s.extract 0 (s.size - 1))] W (RetOI W (spanRes (s.extract 0 (s.size - 1))))) (w : World) : Calls Tryz.prog 151 #[.string s] w (RetCk w (clockRes s)) := by
  have er : refOf s[s.size - 1].toNat = 2 := by rw [hc]; rfl
  have n0 : ¬ refOf s[s.size - 1].toNat < 0 := by rw [er]; decide
  by_cases g : s.extract 0 (s.size - 1) = ⟨#[45]⟩
  · rw [ck_dash h n0 g]
    rw [show spanRes (s.extract 0 (s.size - 1)) = some 0 by rw [g, span_dash]] at SP
    exact let103_dash s h _hs hc g 0 (Lib.hid SP) w
  · rw [ck_ref h n0 g, er]
    cases e : spanRes (s.extract 0 (s.size - 1)) with
    | none => rw [e] at SP; exact let103_no s h _hs hc (Lib.hid SP) w
    | some v => rw [e] at SP; exact let103_yes s h _hs hc (dash_no g) v (Lib.hid SP) w
set_option maxRecDepth 100000 in
set_option maxHeartbeats 4000000 in
theorem let122_no (s : ByteArray) (h : 0 < s.size) (_hs : s.size ≤ 1000) (hc : s[s.size - 1].toNat = 122) (SP : Hid (∀ W, Calls Tryz.prog 114 #[.string (s.extract 0 (s.size - 1))] W (RetOI W (none)))) (w : World) : Calls Tryz.prog 151 #[.string s] w (RetCk w none) := by
  have d : ((s.size : Int) == 0) = false := by rw [beq_eq_false_iff_ne]; omega
  have l1 : (0 : Int) ≤ (s.size : Int) - 1 := by omega
  have l2 : (s.size : Int) - 1 ≤ s.size := by omega
  go_enter Tryz.func151, Tryz.ntmps151
  go_wp2_with fail
  refine (SP.out _).mono ?_
  rintro e w1 ⟨rfl, hb⟩
  go_wp2
  exact bodyPost_ret (v := .tuple #[.int .i64 (0), .int .i64 (0), .bool false]) (by simp [results, Tryz.results151, go_sem]) rfl ⟨rfl, hb⟩
set_option maxRecDepth 100000 in
set_option maxHeartbeats 4000000 in
theorem let122_dash (s : ByteArray) (h : 0 < s.size) (_hs : s.size ≤ 1000) (hc : s[s.size - 1].toNat = 122) (g1 : s.extract 0 (s.size - 1) = ⟨#[45]⟩) (v : Int) (SP : Hid (∀ W, Calls Tryz.prog 114 #[.string (s.extract 0 (s.size - 1))] W (RetOI W (some v)))) (w : World) : Calls Tryz.prog 151 #[.string s] w (RetCk w none) := by
  have d : ((s.size : Int) == 0) = false := by rw [beq_eq_false_iff_ne]; omega
  have l1 : (0 : Int) ≤ (s.size : Int) - 1 := by omega
  have l2 : (s.size : Int) - 1 ≤ s.size := by omega
  have g2 : ((s.extract 0 (s.size - 1)).toList == [45]) = true := by rw [g1, ByteArray.toList_eq]; rfl
  clear g1
  go_enter Tryz.func151, Tryz.ntmps151
  go_wp2_with fail
  refine (SP.out _).mono ?_
  rintro e w1 ⟨rfl, hb⟩
  go_wp2
  exact bodyPost_ret (v := .tuple #[.int .i64 (0), .int .i64 (0), .bool false]) (by simp [results, Tryz.results151, go_sem]) rfl ⟨rfl, hb⟩
set_option maxRecDepth 100000 in
set_option maxHeartbeats 4000000 in
theorem let122_yes (s : ByteArray) (h : 0 < s.size) (_hs : s.size ≤ 1000) (hc : s[s.size - 1].toNat = 122) (g1 : ((s.extract 0 (s.size - 1)).toList == [45]) = false) (v : Int) (SP : Hid (∀ W, Calls Tryz.prog 114 #[.string (s.extract 0 (s.size - 1))] W (RetOI W (some v)))) (w : World) : Calls Tryz.prog 151 #[.string s] w (RetCk w (some (v, 2))) := by
  have d : ((s.size : Int) == 0) = false := by rw [beq_eq_false_iff_ne]; omega
  have l1 : (0 : Int) ≤ (s.size : Int) - 1 := by omega
  have l2 : (s.size : Int) - 1 ≤ s.size := by omega
  go_enter Tryz.func151, Tryz.ntmps151
  go_wp2_with fail
  refine (SP.out _).mono ?_
  rintro e w1 ⟨rfl, hb⟩
  go_wp2
  exact bodyPost_ret (v := .tuple #[.int .i64 (v), .int .i64 (2), .bool true]) (by simp [results, Tryz.results151, go_sem]) rfl ⟨rfl, hb⟩
theorem let122 (s : ByteArray) (h : 0 < s.size) (_hs : s.size ≤ 1000) (hc : s[s.size - 1].toNat = 122) (SP : ∀ W, Calls Tryz.prog 114 #[.string (s.extract 0 (s.size - 1))] W (RetOI W (spanRes (s.extract 0 (s.size - 1))))) (w : World) : Calls Tryz.prog 151 #[.string s] w (RetCk w (clockRes s)) := by
  have er : refOf s[s.size - 1].toNat = 2 := by rw [hc]; rfl
  have n0 : ¬ refOf s[s.size - 1].toNat < 0 := by rw [er]; decide
  by_cases g : s.extract 0 (s.size - 1) = ⟨#[45]⟩
  · rw [ck_dash h n0 g]
    rw [show spanRes (s.extract 0 (s.size - 1)) = some 0 by rw [g, span_dash]] at SP
    exact let122_dash s h _hs hc g 0 (Lib.hid SP) w
  · rw [ck_ref h n0 g, er]
    cases e : spanRes (s.extract 0 (s.size - 1)) with
    | none => rw [e] at SP; exact let122_no s h _hs hc (Lib.hid SP) w
    | some v => rw [e] at SP; exact let122_yes s h _hs hc (dash_no g) v (Lib.hid SP) w
theorem clockR (s : ByteArray) (hs : s.size ≤ 1000) (w : World) : Calls Tryz.prog 151 #[.string s] w (RetCk w (clockRes s)) := by
  by_cases h : 0 < s.size
  case neg => rw [ck_nil h]; exact clock_nil s (by omega) w
  have SP := fun W => spanR (s.extract 0 (s.size - 1)) (by rw [ByteArray.size_extract]; omega) W
  by_cases c119 : s[s.size - 1].toNat = 119
  · exact let119 s h hs c119 SP w
  by_cases c115 : s[s.size - 1].toNat = 115
  · exact let115 s h hs c115 SP w
  by_cases c117 : s[s.size - 1].toNat = 117
  · exact let117 s h hs c117 SP w
  by_cases c103 : s[s.size - 1].toNat = 103
  · exact let103 s h hs c103 SP w
  by_cases c122 : s[s.size - 1].toNat = 122
  · exact let122 s h hs c122 SP w
  have er : refOf s[s.size - 1].toNat = -1 := by unfold refOf; rw [if_neg c119, if_neg c115, if_neg c117, if_neg c103, if_neg c122]
  rw [ck_bare h (by rw [er]; decide)]
  exact clock_plain s _ _ h hs rfl c119 c115 c117 c103 c122 (Lib.hid fun W => spanR s hs W) w
end Go.Proofs.YtnkmlfbnfndfpaaGreatDoor
