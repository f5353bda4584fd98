import Derived.Test.YtmhpnmlgfdomkaaGreatDoorZGq
import Derived.WalkSmall
import Derived.Laws.DeepStrings4
import Derived.Shelf.Strings.BuilderK
import Derived.Shelf.LaysM
import Derived.Shelf.Strconv.Clone
import Derived.Shelf.Strings.Search2
import Derived.Test.YtmhpnmlgfdomkaaGreatDoorProg
import Derived.Lib.FrozenHead2
import Derived.Lib.IndexLaws
import Derived.Shelf.RegionOpenPlain
import Derived.RangeFuncNested
import Derived.RangeFuncBound
import Derived.RangeFuncCalls
import Derived.RangeFuncLeaves
import Derived.RangeFuncBox
import Derived.Shelf.Abstract
import Derived.Shelf.RegionOpen
import Derived.WalkKit
import Derived.OwnWalkIn
import Derived.TacticsInMore
import Derived.LoopNIn
import Derived.LoopIn
import Derived.Maps.AppendAt
set_option maxRecDepth 100000
set_option maxHeartbeats 64000000
namespace Go.Proofs.YtmhpnmlgfdomkaaGreatDoor
open Go.RowKit
def endOf (K : Int → Bool) (s : ByteArray) (k : Nat) : Nat :=
  if h : k < s.size then (if K s[k].toNat = true then endOf K s (k + 1) else k) else s.size
termination_by s.size - k
theorem endOf_on {K : Int → Bool} {s : ByteArray} {k : Nat} (h : k < s.size) (b : K s[k].toNat = true) : endOf K s k = endOf K s (k + 1) := by rw [endOf, dif_pos h, if_pos b]
theorem endOf_here {K : Int → Bool} {s : ByteArray} {k : Nat} (h : k < s.size) (b : K s[k].toNat = false) : endOf K s k = k := by rw [endOf, dif_pos h, if_neg (by rw [b]; decide)]
theorem endOf_end {K : Int → Bool} {s : ByteArray} {k : Nat} (h : ¬ k < s.size) : endOf K s k = s.size := by rw [endOf, dif_neg h]
theorem endOf_in {K : Int → Bool} {s : ByteArray} : ∀ (d k : Nat), s.size - k ≤ d → k ≤ s.size → k ≤ endOf K s k ∧ endOf K s k ≤ s.size := by
  intro d
  induction d with
  | zero => intro k hd hk; rw [endOf_end (by omega)]; omega
  | succ d ih =>
    intro k hd hk
    by_cases h : k < s.size
    · cases b : K s[k].toNat with
      | true => rw [endOf_on h b]; have := ih (k + 1) (by omega) (by omega); omega
      | false => rw [endOf_here h b]; omega
    · rw [endOf_end h]; omega
theorem endOf_le {K : Int → Bool} {s : ByteArray} {k : Nat} (hk : k ≤ s.size) : k ≤ endOf K s k ∧ endOf K s k ≤ s.size := endOf_in s.size k (by omega) hk
theorem endOf_all {K : Int → Bool} {s : ByteArray} : ∀ (d k : Nat), s.size - k ≤ d → ∀ (j : Nat) (h : j < s.size), k ≤ j → j < endOf K s k → K s[j].toNat = true := by
  intro d
  induction d with
  | zero => intro k hd j h hk hj; omega
  | succ d ih =>
    intro k hd j h hk hj
    have h' : k < s.size := by omega
    cases b : K s[k].toNat with
    | true =>
      by_cases e : j = k
      · subst e; exact b
      · rw [endOf_on h' b] at hj; exact ih (k + 1) (by omega) j h (by omega) hj
    | false => rw [endOf_here h' b] at hj; omega
theorem endOf_at {K : Int → Bool} {s : ByteArray} : ∀ (d k : Nat), s.size - k ≤ d → ∀ (h : endOf K s k < s.size), K s[endOf K s k].toNat = false := by
  intro d
  induction d with
  | zero => intro k hd h; rw [endOf_end (by omega)] at h; omega
  | succ d ih =>
    intro k hd h
    by_cases h' : k < s.size
    · cases b : K s[k].toNat with
      | true => simp only [endOf_on h' b] at h ⊢; exact ih (k + 1) (by omega) h
      | false => simp only [endOf_here h' b] at h ⊢; exact b
    · rw [endOf_end h'] at h; omega
theorem endOf_eq {K : Int → Bool} {s : ByteArray} {k e : Nat} (hk : k ≤ e) (he : e ≤ s.size) (ha : ∀ (j : Nat) (h : j < s.size), k ≤ j → j < e → K s[j].toNat = true) (hb : ∀ (h : e < s.size), K s[e].toNat = false) : endOf K s k = e := by
  have ⟨h1, h2⟩ := endOf_le (K := K) (s := s) (k := k) (by omega)
  rcases Nat.lt_trichotomy (endOf K s k) e with h | h | h
  · have := endOf_at (K := K) (s := s) s.size k (by omega) (by omega)
    rw [ha _ (by omega) h1 h] at this
    cases this
  · exact h
  · have := endOf_all (K := K) (s := s) s.size k (by omega) e (by omega) hk h
    rw [hb (by omega)] at this
    cases this
theorem empty_is {t : ByteArray} (h : t.size = 0) : t = ⟨#[]⟩ := by
  apply ByteArray.ext
  exact Array.eq_empty_of_size_eq_zero h
theorem ne_toList {t : ByteArray} (h : ¬ t.size = 0) : ¬ t.toList = [] := by
  intro c
  apply h
  have : t.data.toList = [] := by rw [← c]; exact (ByteArray.toList_eq t).symm
  rw [show t.size = t.data.size from rfl, ← Array.length_toList, this]
  rfl
end Go.Proofs.YtmhpnmlgfdomkaaGreatDoor
namespace Go.Proofs.YtmhpnmlgfdomkaaGreatDoor
open Go.Shelf Go.RowKit
def laysM316_ren : Go.Shelf.Ren := ⟨fun | 316 => 46 | n => n, fun | 9 => 9 | 3 => 3 | 4 => 4 | 37 => 100 | 0 => 0 | 127 => 101 | 5 => 5 | n => n, fun | n => n⟩
theorem laysM316 : Go.Proofs.LaysM.n316 Tryz.prog laysM316_ren := {
  mixed := by kernel_rfl
  f316 := Tryz.func46.trans (congrArg some (by kernel_rfl))
  t0 := Tryz.underlying0
  a0 := Tryz.isAgg0
  z0 := Tryz.sizeOf0
  v0 := Tryz.zeroValue0
  t3 := Tryz.underlying3
  a3 := Tryz.isAgg3
  z3 := Tryz.sizeOf3
  v3 := Tryz.zeroValue3
  t4 := Tryz.underlying4
  a4 := Tryz.isAgg4
  z4 := Tryz.sizeOf4
  v4 := Tryz.zeroValue4
  t9 := Tryz.underlying9
  a9 := Tryz.isAgg9
  z9 := Tryz.sizeOf9
  v9 := Tryz.zeroValue9
  t37 := Tryz.underlying100
  a37 := Tryz.isAgg100
  z37 := Tryz.sizeOf100
  v37 := Tryz.zeroValue100
  t127 := Tryz.underlying101
  a127 := Tryz.isAgg101
  z127 := Tryz.sizeOf101
  v127 := Tryz.zeroValue101
  t5 := Tryz.underlying5
  a5 := Tryz.isAgg5
  z5 := Tryz.sizeOf5
  v5 := Tryz.zeroValue5
  i0 := by kernel_rfl
  i3 := by kernel_rfl
  i4 := by kernel_rfl
  i5 := by kernel_rfl
  i9 := by kernel_rfl
  i37 := by kernel_rfl
  i127 := by kernel_rfl }
theorem stringslite_Clone (s : ByteArray) (w : World) (hlim : s.size ≤ 281474976710656) :
    Calls Tryz.prog 46 #[.string s] w fun e w' => e = .returned (.string s) ∧ Below w.heap.size w w' := Any.stringslite_Clone laysM316 s w hlim
def lays219_ren : Go.Shelf.Ren := ⟨fun | 219 => 143 | 217 => 124 | 225 => 150 | 224 => 151 | 267 => 152 | 266 => 141 | 314 => 160 | n => n, fun | 9 => 9 | 3 => 3 | 4 => 4 | 5 => 5 | 46 => 84 | 146 => 174 | 51 => 111 | n => n, fun | 1 => 0 | n => n⟩
theorem lays219 : Go.Proofs.Lays.n219 Tryz.prog lays219_ren := {
  mixed := by kernel_rfl
  f217 := Tryz.func124.trans (congrArg some (by kernel_rfl))
  f219 := Tryz.func143.trans (congrArg some (by kernel_rfl))
  f224 := Tryz.func151.trans (congrArg some (by kernel_rfl))
  f225 := Tryz.func150.trans (congrArg some (by kernel_rfl))
  f266 := Tryz.func141.trans (congrArg some (by kernel_rfl))
  f267 := Tryz.func152.trans (congrArg some (by kernel_rfl))
  f314 := Tryz.func160.trans (congrArg some (by kernel_rfl))
  t3 := Tryz.underlying3
  a3 := Tryz.isAgg3
  z3 := Tryz.sizeOf3
  v3 := Tryz.zeroValue3
  t4 := Tryz.underlying4
  a4 := Tryz.isAgg4
  z4 := Tryz.sizeOf4
  v4 := Tryz.zeroValue4
  t5 := Tryz.underlying5
  a5 := Tryz.isAgg5
  z5 := Tryz.sizeOf5
  v5 := Tryz.zeroValue5
  t9 := Tryz.underlying9
  a9 := Tryz.isAgg9
  z9 := Tryz.sizeOf9
  v9 := Tryz.zeroValue9
  t46 := Tryz.underlying84
  a46 := Tryz.isAgg84
  z46 := Tryz.sizeOf84
  v46 := Tryz.zeroValue84
  t51 := Tryz.underlying111
  a51 := Tryz.isAgg111
  z51 := Tryz.sizeOf111
  v51 := Tryz.zeroValue111
  t146 := Tryz.underlying174
  a146 := Tryz.isAgg174
  z146 := Tryz.sizeOf174
  v146 := Tryz.zeroValue174
  g1 := by kernel_rfl }
theorem stringslite_Index_one (s : ByteArray) (c : UInt8) (w : World) :
    Calls Tryz.prog 143 #[.string s, .string ⟨#[c]⟩] w fun e w' => e = .returned (.int .i64 (Lib.indexByte s.data.toList c)) ∧ w' = w := Any.stringslite_Index_one lays219 s c w
end Go.Proofs.YtmhpnmlgfdomkaaGreatDoor
namespace Go.Proofs.YtmhpnmlgfdomkaaGreatDoor
open Go.RowKit
theorem cloneP (s : ByteArray) (hs : s.size ≤ 100000000) (w : World) : Calls Tryz.prog 22 #[.string s] w fun e w' => e = .returned (.string s) ∧ Below w.heap.size w w' := by
  have CW := Lib.hid (fun w => stringslite_Clone s w (by omega))
  go_enter Tryz.func22, Tryz.ntmps22
  go_wp2_with (go_at_call 46; refine (CW.out _).mono ?_; rintro e w' ⟨rfl, h⟩)
  go_ret
  exact ⟨rfl, h⟩
theorem get_list (r : ByteArray) (k : Nat) : r.data.toList[k]? = if h : k < r.size then some r[k] else none := by
  split
  · rename_i h
    rw [Array.getElem?_toList, Array.getElem?_eq_some_iff.2 ⟨h, rfl⟩]
    rfl
  · rename_i h
    rw [Array.getElem?_toList]
    exact Array.getElem?_eq_none (Nat.le_of_not_lt h)
end Go.Proofs.YtmhpnmlgfdomkaaGreatDoor
namespace Go.Proofs.YtmhpnmlgfdomkaaGreatDoor
open Go.RowKit Go.Shelf
attribute [local go_sem] Oper.semAt_some
abbrev Line : Type := { t : ByteArray // t.size ≤ 1000000 }
def bytesOf (l : List Line) : List ByteArray := l.map (·.1)
theorem bytes_snoc (l : List Line) (x : Line) : bytesOf (l ++ [x]) = bytesOf l ++ [x.1] := by simp [bytesOf]
end Go.Proofs.YtmhpnmlgfdomkaaGreatDoor
