/- Spots: what is written is read as it was. No program. -/
import Derived.Test.YtnkmlfbnfndfpaaGreatDoorYUpr
namespace Go.Proofs.YtnkmlfbnfndfpaaGreatDoor
open Go.RowKit
/-- what stands between the signs : of some bytes -/
def cutL : List UInt8 → List UInt8 → List ByteArray
  | cur, [] => [⟨cur.toArray⟩]
  | cur, c :: r => if c.toNat = 58 then ⟨cur.toArray⟩ :: cutL [] r else cutL (cur ++ [c]) r
theorem ext_one {s : ByteArray} {k : Nat} (h : k < s.size) : s.extract k (k + 1) = ⟨#[s[k]]⟩ := by
  apply ByteArray.ext
  rw [ByteArray.data_extract]
  have h' : k < s.data.size := h
  apply Array.ext
  · rw [Array.size_extract]; show min (k + 1) s.data.size - k = 1; omega
  · intro i h1 h2
    obtain rfl : i = 0 := by have : i < 1 := h2; omega
    rw [Array.getElem_extract]
    rfl
theorem parts_list (s : ByteArray) : ∀ (d k : Nat) (cur : List UInt8), s.size - k ≤ d → partsOf s k ⟨cur.toArray⟩ = cutL cur (s.data.toList.drop k) := by
  intro d
  induction d with
  | zero =>
    intro k cur h
    have hl : s.data.toList.length = s.size := Array.length_toList
    rw [parts_end (by omega), List.drop_eq_nil_of_le (by omega)]
    rfl
  | succ d ih =>
    intro k cur h
    have hl : s.data.toList.length = s.size := Array.length_toList
    by_cases hk : k < s.size
    · rw [List.drop_eq_getElem_cons (by omega)]
      have e : s.data.toList[k]'(by omega) = s[k] := by rw [Array.getElem_toList]; rfl
      rw [e]
      by_cases e : s[k].toNat = 58
      · rw [parts_cut hk e, cutL, if_pos e]
        exact congrArg _ (ih (k + 1) [] (by omega))
      · rw [parts_on hk e, cutL, if_neg e, ext_one hk, ← ih (k + 1) _ (by omega)]
        exact congrArg _ (txt_app cur [s[k]])
    · rw [parts_end hk, List.drop_eq_nil_of_le (by omega)]
      rfl
theorem cutL_app {r : List UInt8} : ∀ {a cur : List UInt8}, (∀ c ∈ a, c.toNat ≠ 58) → cutL cur (a ++ 58 :: r) = ⟨(cur ++ a).toArray⟩ :: cutL [] r
  | [], cur, _ => by rw [List.nil_append, cutL, if_pos (by decide), List.append_nil]
  | c :: a, cur, h => by
    rw [List.cons_append, cutL, if_neg (h c (List.mem_cons_self ..)), cutL_app fun x hx => h x (List.mem_cons_of_mem _ hx), List.append_assoc]
    rfl
theorem cutL_one : ∀ {a cur : List UInt8}, (∀ c ∈ a, c.toNat ≠ 58) → cutL cur a = [⟨(cur ++ a).toArray⟩]
  | [], cur, _ => by rw [cutL, List.append_nil]
  | c :: a, cur, h => by
    rw [cutL, if_neg (h c (List.mem_cons_self ..)), cutL_one fun x hx => h x (List.mem_cons_of_mem _ hx), List.append_assoc]
    rfl
def hChk (h : Nat) : Bool := decide (numRes (decB h) 1 3 = (h : Int)) && (dec h).all (fun c => c.toNat != 58 && c.toNat != 45) && decide (0 < (dec h).length)
def mChk (m : Nat) : Bool := decide (numRes (twB m) 2 2 = (m : Int)) && (twB m).data.toList.all (fun c => c.toNat != 58 && decide (refOf c.toNat < 0)) && decide ((twB m).data.toList.length = 2)
theorem h_all : (List.range 168).all hChk = true := by kernel_rfl
theorem m_all : (List.range 60).all mChk = true := by kernel_rfl
theorem h_num {h : Nat} (hh : h < 168) : numRes (decB h) 1 3 = (h : Int) ∧ (∀ c ∈ dec h, c.toNat ≠ 58) ∧ (∀ c ∈ dec h, c.toNat ≠ 45) ∧ 0 < (dec h).length := by
  have := List.all_eq_true.1 h_all h (List.mem_range.2 hh)
  unfold hChk at this
  simp only [Bool.and_eq_true, List.all_eq_true, decide_eq_true_eq, bne_iff_ne] at this
  exact ⟨this.1.1, fun c hc => (this.1.2 c hc).1, fun c hc => (this.1.2 c hc).2, this.2⟩
theorem m_num {m : Nat} (hm : m < 60) : numRes (twB m) 2 2 = (m : Int) ∧ (∀ c ∈ (twB m).data.toList, c.toNat ≠ 58) ∧ (∀ c ∈ (twB m).data.toList, refOf c.toNat < 0) ∧ (twB m).data.toList.length = 2 := by
  have := List.all_eq_true.1 m_all m (List.mem_range.2 hm)
  unfold mChk at this
  simp only [Bool.and_eq_true, List.all_eq_true, decide_eq_true_eq, bne_iff_ne] at this
  exact ⟨this.1.1, fun c hc => (this.1.2 c hc).1, fun c hc => (this.1.2 c hc).2, this.2⟩
/-- the bytes of a clock's time without its sign -/
def bodyL (H M S : Nat) : List UInt8 := dec H ++ 58 :: ((twB M).data.toList ++ if S = 0 then [] else 58 :: (twB S).data.toList)
theorem bare_body {H M S : Nat} (h : H < 168) (m : M < 60) (s : S < 60) : bareRes ⟨(bodyL H M S).toArray⟩ = some (3600 * (H : Int) + M * 60 + S) := by
  obtain ⟨h1, h2, _, _⟩ := h_num h
  obtain ⟨m1, m2, _, _⟩ := m_num m
  obtain ⟨s1, s2, _, _⟩ := m_num s
  unfold bareRes
  rw [show (⟨#[]⟩ : ByteArray) = ⟨([] : List UInt8).toArray⟩ from rfl, parts_list _ _ 0 [] (Nat.le_refl _), List.drop_zero]
  show bareOf (cutL [] (bodyL H M S)) = _
  unfold bodyL
  rw [cutL_app h2]
  by_cases hs : S = 0
  · rw [if_pos hs, List.append_nil, cutL_one m2, List.nil_append, List.nil_append, ← txt_of]
    show bareOf [decB H, twB M] = _
    unfold bareOf firstOf
    rw [if_neg (by show ¬ (3 < 2 ∨ numRes (decB H) 1 3 < 0 ∨ 167 < numRes (decB H) 1 3); omega)]
    rw [bg_on (by show 1 < 2; decide) (by show ¬ (numRes (twB M) 2 2 < 0 ∨ 59 < numRes (twB M) 2 2); omega), bg_end (by show ¬ 2 < 2; decide)]
    show some (3600 * numRes (decB H) 1 3 + numRes (twB M) 2 2 * 60) = _
    rw [h1, m1, hs]; simp
  · rw [if_neg hs, cutL_app m2, cutL_one s2, List.nil_append, List.nil_append, List.nil_append, ← txt_of, ← txt_of]
    show bareOf [decB H, twB M, twB S] = _
    unfold bareOf firstOf
    rw [if_neg (by show ¬ (3 < 3 ∨ numRes (decB H) 1 3 < 0 ∨ 167 < numRes (decB H) 1 3); omega)]
    rw [bg_on (by show 1 < 3; decide) (by show ¬ (numRes (twB M) 2 2 < 0 ∨ 59 < numRes (twB M) 2 2); omega), bg_on (by show 2 < 3; decide) (by show ¬ (numRes (twB S) 2 2 < 0 ∨ 59 < numRes (twB S) 2 2); omega), bg_end (by show ¬ 3 < 3; decide)]
    show some (3600 * numRes (decB H) 1 3 + numRes (twB M) 2 2 * 60 + numRes (twB S) 2 2 * 1) = _
    rw [h1, m1, s1, Int.mul_one]
theorem timeB_is (n : Int) : timeB n = ⟨((if n < 0 then [45] else []) ++ bodyL (n.natAbs / 3600) (n.natAbs / 60 % 60) (n.natAbs % 60)).toArray⟩ := by
  have sg : ((if n < 0 then ⟨[45].toArray⟩ else ⟨[].toArray⟩) : ByteArray) = ⟨(if n < 0 then [45] else []).toArray⟩ := by split <;> rfl
  unfold timeB bodyL
  rw [sg, txt_of (twB (n.natAbs / 60 % 60)), txt_of (twB (n.natAbs % 60))]
  unfold decB
  split
  · simp only [txt_app, List.append_assoc, List.append_nil]; rfl
  · simp only [txt_app, List.append_assoc]; rfl
theorem body_last {H M S : Nat} (m : M < 60) (s : S < 60) : ∃ p c, bodyL H M S = p ++ [c] ∧ refOf c.toNat < 0 := by
  obtain ⟨_, _, m3, m4⟩ := m_num m
  obtain ⟨_, _, s3, s4⟩ := m_num s
  unfold bodyL
  by_cases hs : S = 0
  · rw [if_pos hs, List.append_nil]
    match e : (twB M).data.toList, m4 with
    | [a, b], _ => exact ⟨dec H ++ [58, a], b, by simp, m3 b (by rw [e]; simp)⟩
  · rw [if_neg hs]
    match e : (twB S).data.toList, s4 with
    | [a, b], _ => exact ⟨dec H ++ 58 :: ((twB M).data.toList ++ [58, a]), b, by simp, s3 b (by rw [e]; simp)⟩
theorem span_time {n : Int} (h1 : -604799 ≤ n) (h2 : n ≤ 604799) : spanRes (timeB n) = some n ∧ ∃ p c, timeB n = ⟨(p ++ [c]).toArray⟩ ∧ refOf c.toNat < 0 ∧ timeB n ≠ ⟨#[45]⟩ := by
  have b := bare_body (H := n.natAbs / 3600) (M := n.natAbs / 60 % 60) (S := n.natAbs % 60) (by omega) (by omega) (by omega)
  obtain ⟨p, c, e, hc⟩ := body_last (H := n.natAbs / 3600) (M := n.natAbs / 60 % 60) (S := n.natAbs % 60) (by omega) (by omega)
  obtain ⟨_, _, h3, h4⟩ := h_num (h := n.natAbs / 3600) (by omega)
  rw [timeB_is]
  have hl : 1 < (bodyL (n.natAbs / 3600) (n.natAbs / 60 % 60) (n.natAbs % 60)).length := by
    obtain ⟨_, _, _, m4⟩ := m_num (m := n.natAbs / 60 % 60) (by omega)
    unfold bodyL
    rw [List.length_append, List.length_cons, List.length_append]
    omega
  have hv : 3600 * ((n.natAbs / 3600 : Nat) : Int) + ((n.natAbs / 60 % 60 : Nat) : Int) * 60 + ((n.natAbs % 60 : Nat) : Int) = n.natAbs := by omega
  rw [hv] at b
  have h0 : ∃ a r, bodyL (n.natAbs / 3600) (n.natAbs / 60 % 60) (n.natAbs % 60) = a :: r ∧ a.toNat ≠ 45 := by
    unfold bodyL
    match e : dec (n.natAbs / 3600), h4 with
    | a :: r, _ => exact ⟨a, _, List.cons_append, h3 a (by rw [e]; simp)⟩
  generalize bodyL (n.natAbs / 3600) (n.natAbs / 60 % 60) (n.natAbs % 60) = l at *
  by_cases hn : n < 0
  · rw [if_pos hn]
    have nd : (⟨([45] ++ l).toArray⟩ : ByteArray) ≠ ⟨#[45]⟩ := by
      intro q
      have := congrArg ByteArray.size q
      have q2 : ([45] ++ l).length = 1 := this
      rw [List.length_append] at q2
      have : ([45] : List UInt8).length = 1 := rfl
      omega
    refine ⟨?_, 45 :: p, c, by rw [e]; rfl, hc, nd⟩
    rw [span_neg nd (by show 0 < ([45] ++ l).length; simp) rfl]
    have : (⟨([45] ++ l).toArray⟩ : ByteArray).extract 1 (⟨([45] ++ l).toArray⟩ : ByteArray).size = ⟨l.toArray⟩ := by
      apply ByteArray.ext
      rw [ByteArray.data_extract]
      show ([45] ++ l).toArray.extract 1 ([45] ++ l).length = l.toArray
      rw [List.extract_toArray]
      simp
    rw [this, b]
    show some (-(n.natAbs : Int)) = some n
    exact congrArg some (by omega)
  · rw [if_neg hn, List.nil_append]
    have nd : (⟨l.toArray⟩ : ByteArray) ≠ ⟨#[45]⟩ := by
      intro q
      have := congrArg ByteArray.size q
      have q2 : l.length = 1 := this
      omega
    refine ⟨?_, p, c, by rw [e], hc, nd⟩
    obtain ⟨a, r, rfl, ha⟩ := h0
    rw [span_pos nd (by show 0 < (a :: r).length; simp) ha, b]
    exact congrArg some (by omega)
theorem clk_end (p : List UInt8) (c : UInt8) : ∃ h : 0 < (⟨(p ++ [c]).toArray⟩ : ByteArray).size, (⟨(p ++ [c]).toArray⟩ : ByteArray)[(⟨(p ++ [c]).toArray⟩ : ByteArray).size - 1]'(Nat.sub_lt h (by decide)) = c ∧ (⟨(p ++ [c]).toArray⟩ : ByteArray).extract 0 ((⟨(p ++ [c]).toArray⟩ : ByteArray).size - 1) = ⟨p.toArray⟩ := by
  have sz : (⟨(p ++ [c]).toArray⟩ : ByteArray).size = p.length + 1 := by show (p ++ [c]).length = _; simp
  refine ⟨by omega, ?_, ?_⟩
  · show (p ++ [c])[(p ++ [c]).length - 1]'_ = c
    simp
  · apply ByteArray.ext
    rw [ByteArray.data_extract, sz]
    show (p ++ [c]).toArray.extract 0 (p.length + 1 - 1) = p.toArray
    rw [List.extract_toArray]
    simp
theorem clock_time {n : Int} (h1 : -604799 ≤ n) (h2 : n ≤ 604799) : clockRes (timeB n) = some (n, 0) ∧ clockRes (timeB n ++ ⟨#[115]⟩) = some (n, 1) ∧ clockRes (timeB n ++ ⟨#[117]⟩) = some (n, 2) := by
  obtain ⟨e, p, c, et, hc, nd⟩ := span_time h1 h2
  refine ⟨?_, ?_, ?_⟩
  · rw [et] at e ⊢
    obtain ⟨q1, q2, q3⟩ := clk_end p c
    rw [ck_bare q1 (by rw [q2]; exact hc), e]
    rfl
  · rw [et] at e nd ⊢
    have : (⟨(p ++ [c]).toArray⟩ ++ ⟨#[115]⟩ : ByteArray) = ⟨((p ++ [c]) ++ [115]).toArray⟩ := txt_app _ _
    rw [this]
    obtain ⟨q1, q2, q3⟩ := clk_end (p ++ [c]) 115
    rw [ck_ref q1 (by rw [q2]; decide) (by rw [q3]; exact nd), q3, e, q2]
    rfl
  · rw [et] at e nd ⊢
    have : (⟨(p ++ [c]).toArray⟩ ++ ⟨#[117]⟩ : ByteArray) = ⟨((p ++ [c]) ++ [117]).toArray⟩ := txt_app _ _
    rw [this]
    obtain ⟨q1, q2, q3⟩ := clk_end (p ++ [c]) 117
    rw [ck_ref q1 (by rw [q2]; decide) (by rw [q3]; exact nd), q3, e, q2]
    rfl
/-- the days, one by one -/
def d0Chk (d : Nat) : Bool := decide (dTup (decB (d + 1)) = (0, 0, ((d : Int) + 1), true))
def d1Chk (j : Nat) : Bool := decide (dTup (⟨#[108, 97, 115, 116]⟩ ++ wd3.getD (j + 1) ⟨#[]⟩) = (1, ((j : Int) + 1), 0, true))
def d2Chk (j d : Nat) : Bool := decide (dTup (wd3.getD (j + 1) ⟨#[]⟩ ++ ⟨#[62, 61]⟩ ++ decB (d + 1)) = (2, ((j : Int) + 1), ((d : Int) + 1), true)) && decide (dTup (wd3.getD (j + 1) ⟨#[]⟩ ++ ⟨#[60, 61]⟩ ++ decB (d + 1)) = (3, ((j : Int) + 1), ((d : Int) + 1), true))
def moChk (k : Nat) : Bool := decide (monthN (mon3.getD k ⟨#[]⟩) = k + 1)
theorem d0_all : (List.range 31).all d0Chk = true := by kernel_rfl
theorem d1_all : (List.range 7).all d1Chk = true := by kernel_rfl
theorem d2_all : (List.range 7).all (fun j => (List.range 31).all (d2Chk j)) = true := by kernel_rfl
theorem mo_all : (List.range 12).all moChk = true := by kernel_rfl
theorem parse_print (x : Sp) (h : x.ok) : parseRes (spTexts x) = (x, 0, 0) := by
  obtain ⟨mo, ki, wd, da, ti, re⟩ := x
  unfold Sp.ok at h
  dsimp only at h
  obtain ⟨k, rfl⟩ : ∃ k : Nat, mo = (k : Int) + 1 := ⟨(mo - 1).toNat, by omega⟩
  have hm : monthN (mon3.getD k ⟨#[]⟩) = k + 1 := of_decide_eq_true (List.all_eq_true.1 mo_all k (List.mem_range.2 (by omega)))
  have hd : dTup (spDay ⟨(k : Int) + 1, ki, wd, da, ti, re⟩) = (ki, wd, da, true) := by
    unfold spDay
    dsimp only
    obtain rfl | rfl | rfl | rfl : ki = 0 ∨ ki = 1 ∨ ki = 2 ∨ ki = 3 := by omega
    · obtain rfl : wd = 0 := by omega
      obtain ⟨d, rfl⟩ : ∃ d : Nat, da = (d : Int) + 1 := ⟨(da - 1).toNat, by omega⟩
      rw [if_pos rfl, show ((d : Int) + 1).toNat = d + 1 by omega]
      exact of_decide_eq_true (List.all_eq_true.1 d0_all d (List.mem_range.2 (by omega)))
    · obtain rfl : da = 0 := by omega
      obtain ⟨j, rfl⟩ : ∃ j : Nat, wd = (j : Int) + 1 := ⟨(wd - 1).toNat, by omega⟩
      rw [if_neg (by decide), if_pos rfl, show ((j : Int) + 1).toNat = j + 1 by omega]
      exact of_decide_eq_true (List.all_eq_true.1 d1_all j (List.mem_range.2 (by omega)))
    · obtain ⟨j, rfl⟩ : ∃ j : Nat, wd = (j : Int) + 1 := ⟨(wd - 1).toNat, by omega⟩
      obtain ⟨d, rfl⟩ : ∃ d : Nat, da = (d : Int) + 1 := ⟨(da - 1).toNat, by omega⟩
      rw [if_neg (by decide), if_neg (by decide), if_pos rfl, show ((j : Int) + 1).toNat = j + 1 by omega, show ((d : Int) + 1).toNat = d + 1 by omega]
      have := List.all_eq_true.1 (List.all_eq_true.1 d2_all j (List.mem_range.2 (by omega))) d (List.mem_range.2 (by omega))
      exact of_decide_eq_true (Bool.and_eq_true_iff.1 this).1
    · obtain ⟨j, rfl⟩ : ∃ j : Nat, wd = (j : Int) + 1 := ⟨(wd - 1).toNat, by omega⟩
      obtain ⟨d, rfl⟩ : ∃ d : Nat, da = (d : Int) + 1 := ⟨(da - 1).toNat, by omega⟩
      rw [if_neg (by decide), if_neg (by decide), if_neg (by decide), show ((j : Int) + 1).toNat = j + 1 by omega, show ((d : Int) + 1).toNat = d + 1 by omega]
      have := List.all_eq_true.1 (List.all_eq_true.1 d2_all j (List.mem_range.2 (by omega))) d (List.mem_range.2 (by omega))
      exact of_decide_eq_true (Bool.and_eq_true_iff.1 this).2
  have hc : clockRes (spClk ⟨(k : Int) + 1, ki, wd, da, ti, re⟩) = some (ti, re) := by
    obtain ⟨c1, c2, c3⟩ := clock_time (n := ti) (by omega) (by omega)
    unfold spClk
    dsimp only
    obtain rfl | rfl | rfl : re = 0 ∨ re = 1 ∨ re = 2 := by omega
    · rw [if_pos rfl]; exact c1
    · rw [if_neg (by decide), if_pos rfl]; exact c2
    · rw [if_neg (by decide), if_neg (by decide)]; exact c3
  unfold spTexts parseRes
  dsimp only
  rw [if_neg (by show ¬ 3 < 3; decide), show ((k : Int) + 1 - 1).toNat = k by omega, hm, if_neg (by omega), hd, if_neg (show ¬ true = false by decide), hc]
  dsimp only
  rw [show ((k + 1 : Nat) : Int) = (k : Int) + 1 from rfl]
end Go.Proofs.YtnkmlfbnfndfpaaGreatDoor
