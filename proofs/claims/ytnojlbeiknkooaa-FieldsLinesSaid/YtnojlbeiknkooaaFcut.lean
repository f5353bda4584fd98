/- A text cut at its first newline. -/
import Derived.Test.YtnojlbeiknkooaaFbuild
import Derived.Lib.IndexLaws
import Derived.Shelf.RegionOpenPlain
namespace Go.Proofs.Ytnojlbeiknkooaa
open Go.RowKit
def noN (c : Int) : Bool := c != 10
theorem get_list (r : ByteArray) (k : Nat) : r.data.toList[k]? = if h : k < r.size then some r[k] else none := by
  split
  · rename_i h
    rw [Array.getElem?_toList, Array.getElem?_eq_some_iff.2 ⟨h, rfl⟩]
    rfl
  · rename_i h
    rw [Array.getElem?_toList]
    exact Array.getElem?_eq_none (Nat.le_of_not_lt h)
theorem noN_of {r : ByteArray} {k : Nat} (h : k < r.size) (n : ¬ r[k] = 10) : noN r[k].toNat = true := by
  unfold noN
  rw [bne_iff_ne]
  intro c
  exact n (by rw [← UInt8.toNat_inj]; show r[k].toNat = 10; omega)
theorem noN_at {r : ByteArray} {k : Nat} (h : k < r.size) (n : noN r[k].toNat = false) : r[k] = 10 := by
  unfold noN at n
  rw [bne_eq_false_iff_eq] at n
  rw [← UInt8.toNat_inj]
  show r[k].toNat = 10
  omega
theorem idx_nl (r : ByteArray) : (endOf noN r 0 < r.size → Lib.indexByte r.data.toList 10 = (endOf noN r 0 : Int)) ∧ (¬ endOf noN r 0 < r.size → Lib.indexByte r.data.toList 10 = -1) := by
  have ge := Lib.indexByte_ge r.data.toList 10
  by_cases h : Lib.indexByte r.data.toList 10 = -1
  · have all := Lib.indexByte_none h
    have e : endOf noN r 0 = r.size := endOf_eq (Nat.zero_le _) (Nat.le_refl _) (fun j g _ _ => noN_of g (fun c => all j (by rw [get_list, dif_pos g, c]))) (fun g => absurd g (by omega))
    exact ⟨fun c => by omega, fun _ => h⟩
  · obtain ⟨o, ho⟩ : ∃ o : Nat, Lib.indexByte r.data.toList 10 = (o : Int) := ⟨(Lib.indexByte r.data.toList 10).toNat, by omega⟩
    obtain ⟨h1, h2⟩ := Lib.indexByte_some ho
    have lt : o < r.size := by
      rw [get_list] at h1
      split at h1
      · assumption
      · cases h1
    have at_ : r[o] = 10 := by
      rw [get_list, dif_pos lt] at h1
      exact Option.some.inj h1
    have e : endOf noN r 0 = o := endOf_eq (Nat.zero_le _) (by omega) (fun j g _ hj => noN_of g (fun c => h2 j hj (by rw [get_list, dif_pos g, c]))) (fun _ => by simp only [at_]; rfl)
    exact ⟨fun _ => by rw [ho, e], fun c => absurd lt (by omega)⟩
def cutA (r : ByteArray) : ByteArray := if endOf noN r 0 < r.size then r.extract 0 (endOf noN r 0) else r
def cutB (r : ByteArray) : ByteArray := if endOf noN r 0 < r.size then r.extract (endOf noN r 0 + 1) r.size else ⟨#[]⟩
def cutF (r : ByteArray) : Bool := decide (endOf noN r 0 < r.size)
def RetCut (w : World) (r : ByteArray) (e : Ending) (w' : World) : Prop := e = .returned (.tuple #[.string (cutA r), .string (cutB r), .bool (cutF r)]) ∧ ∃ n, w' = w.drewN n
set_option maxRecDepth 100000 in
set_option maxHeartbeats 4000000 in
theorem cutLite (r : ByteArray) (hr : r.size ≤ 1000000) (w : World) : Calls Try.prog 41 #[.string r, .string ⟨#[10]⟩] w (RetCut w r) := by
  obtain ⟨i1, i2⟩ := idx_nl r
  have IW := Lib.hid (stringslite_Index_one r 10)
  by_cases h : endOf noN r 0 < r.size
  · rw [i1 h] at IW
    have A := Lib.hid (show cutA r = r.extract 0 (endOf noN r 0) from if_pos h)
    have B := Lib.hid (show cutB r = r.extract (endOf noN r 0 + 1) r.size from if_pos h)
    have F := Lib.hid (show cutF r = true from decide_eq_true h)
    clear i1 i2
    generalize endOf noN r 0 = k at *
    have c2 : k ≤ r.size := by omega
    have c3 : wrap64 ((k : Int) + 1) = ((k + 1 : Nat) : Int) := by unfold wrap64; omega
    have c4 : k + 1 ≤ r.size := by omega
    go_enter Try.func41, Try.ntmps41
    go_wp2_with (go_at_call 44; refine (IW.out _).mono ?_; clear IW; rintro e w' ⟨rfl, rfl⟩)
    go_region
    all_goals
      go_wp2
      go_ret3
      exact ⟨by rw [A.out, B.out, F.out]; rfl, 1, rfl⟩
  · rw [i2 h] at IW
    have A := Lib.hid (show cutA r = r from if_neg h)
    have B := Lib.hid (show cutB r = ⟨#[]⟩ from if_neg h)
    have F := Lib.hid (show cutF r = false from decide_eq_false h)
    clear i1 i2 h
    go_enter Try.func41, Try.ntmps41
    go_wp2_with (go_at_call 44; refine (IW.out _).mono ?_; clear IW; rintro e w' ⟨rfl, rfl⟩)
    go_ret3
    exact ⟨by rw [A.out, B.out, F.out]; rfl, 0, rfl⟩
set_option maxRecDepth 100000 in
theorem cutP (r : ByteArray) (hr : r.size ≤ 1000000) (w : World) : Calls Try.prog 33 #[.string r, .string ⟨#[10]⟩] w (RetCut w r) := by
  have CW := Lib.hid (cutLite r hr)
  go_enter Try.func33, Try.ntmps33
  go_wp2_with (go_at_call 41; refine (CW.out _).mono ?_; clear CW; rintro e w' ⟨rfl, n, rfl⟩)
  go_ret3
  exact ⟨rfl, n, rfl⟩
/-- the lines from a on -/
theorem lns_step {s : ByteArray} : ∀ (d a k : Nat), s.size - k ≤ d → a ≤ k → k ≤ s.size → lnsFrom s a k = (if endOf noN s k < s.size then s.extract a (endOf noN s k) :: lnsFrom s (endOf noN s k + 1) (endOf noN s k + 1) else if a < s.size then [s.extract a s.size] else []) := by
  intro d
  induction d with
  | zero => intro a k hd ha hk; rw [lns_end (by omega), endOf_end (by omega)]; exact (if_neg (Nat.lt_irrefl _)).symm
  | succ d ih =>
    intro a k hd ha hk
    by_cases h : k < s.size
    · by_cases n : s[k] = 10
      · have b : noN s[k].toNat = false := by rw [n]; rfl
        rw [lns_cut h n, endOf_here h b, if_pos h]
      · rw [lns_on h n, ih a (k + 1) (by omega) (by omega) (by omega), endOf_on h (noN_of h n)]
    · rw [lns_end h, endOf_end h]; exact (if_neg (Nat.lt_irrefl _)).symm
/-- what stands from a on, cut -/
theorem rest_end {s : ByteArray} {a : Nat} (ha : a ≤ s.size) : endOf noN (s.extract a s.size) 0 = endOf noN s a - a := by
  obtain ⟨e1, e2⟩ := endOf_le (K := noN) ha
  have sz : (s.extract a s.size).size = s.size - a := by simp
  have gt : ∀ (j : Nat) (h : j < (s.extract a s.size).size), (s.extract a s.size)[j] = s[a + j]'(by rw [sz] at h; omega) := fun j h => ByteArray.getElem_extract h
  refine endOf_eq (Nat.zero_le _) (by omega) (fun j g _ hj => ?_) (fun g => ?_)
  · rw [gt]
    exact endOf_all s.size a (by omega) (a + j) (by rw [sz] at g; omega) (by omega) (by omega)
  · rw [gt]
    have := endOf_at (K := noN) (s := s) s.size a (by omega) (by rw [sz] at g; omega)
    simp only [show a + (endOf noN s a - a) = endOf noN s a from by omega]
    exact this
theorem rest_cut {s : ByteArray} {a : Nat} (ha : a < s.size) : ∃ b, a < b ∧ b ≤ s.size ∧ lnsFrom s a a = cutA (s.extract a s.size) :: lnsFrom s b b ∧ cutB (s.extract a s.size) = s.extract b s.size ∧ (cutA (s.extract a s.size)).size ≤ s.size := by
  obtain ⟨e1, e2⟩ := endOf_le (K := noN) (s := s) (k := a) (by omega)
  have sz : (s.extract a s.size).size = s.size - a := by simp
  have re := rest_end (s := s) (a := a) (by omega)
  rw [lns_step s.size a a (by omega) (Nat.le_refl _) (by omega)]
  by_cases h : endOf noN s a < s.size
  · refine ⟨endOf noN s a + 1, by omega, by omega, ?_, ?_, ?_⟩
    · rw [if_pos h]
      unfold cutA
      rw [if_pos (by omega), re, ByteArray.extract_extract]
      congr 2
      omega
    · unfold cutB
      rw [if_pos (by omega), re, ByteArray.extract_extract, sz]
      congr 1 <;> omega
    · unfold cutA
      rw [if_pos (by omega)]
      simp only [ByteArray.size_extract]
      omega
  · have es : lnsFrom s s.size s.size = [] := by rw [lns_end (by omega), if_neg (by omega)]
    refine ⟨s.size, ha, Nat.le_refl _, ?_, ?_, ?_⟩
    · rw [if_neg h, if_pos ha, es]
      unfold cutA
      rw [if_neg (by omega)]
    · unfold cutB
      rw [if_neg (by omega)]
      exact (empty_is (by simp)).symm
    · unfold cutA
      rw [if_neg (by omega), sz]
      omega
end Go.Proofs.Ytnojlbeiknkooaa
