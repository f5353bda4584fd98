/- The document's answer of layer 9: spots, and the spot that texts tell. -/
import Derived.Test.YtnkmlfbnfndfpaaGreatDoorUparse
import Derived.Test.YtnkmlfbnfndfpaaGreatDoorHdata
namespace Go.Proofs.YtnkmlfbnfndfpaaGreatDoor
open Go.RowKit

/-- the spot that texts tell, the place of the first that is wrong, the error -/
def parseRes (l : List ByteArray) : Sp × Int × Int :=
  if 3 < l.length then (.zero, 3, 12) else match l with
    | [] => (⟨1, 0, 0, 1, 0, 0⟩, 0, 0)
    | a :: l => if monthN a = 0 then (.zero, 0, 6) else match l with
      | [] => (⟨monthN a, 0, 0, 1, 0, 0⟩, 0, 0)
      | b :: l => if (dTup b).2.2.2 = false then (.zero, 1, 6) else match l with
        | [] => (⟨monthN a, (dTup b).1, (dTup b).2.1, (dTup b).2.2.1, 0, 0⟩, 0, 0)
        | d :: _ => match clockRes d with
          | none => (.zero, 2, 6)
          | some x => (⟨monthN a, (dTup b).1, (dTup b).2.1, (dTup b).2.2.1, x.1, x.2⟩, 0, 0)
/-- What a call that answers a spot, a place and an error's number leaves. -/
def RetSp (w : World) (r : Sp × Int × Int) (e : Ending) (w' : World) : Prop := e = .returned (.tuple #[r.1.val, .int .i64 r.2.1, .int .i64 r.2.2]) ∧ Below w.heap.size w w'
theorem Ss.cell {w : World} {A : Option Addr} {n c : Nat} {l : List ByteArray} (ha : Ss w A n c l) (h : 0 < n) : ∃ g o, A = some ⟨g, o, none⟩ ∧ ∀ (j : Nat) (hj : j < l.length) (W : World), Below w.heap.size w W → W.cell? ⟨g, o + j, none⟩ = some (.string l[j]) := by
  obtain ⟨g, o, e, hg, cs⟩ := ha.cells h
  exact ⟨g, o, e, fun j hj W hb => (hb.cell (p := ⟨g, o + j, none⟩) hg).trans (cs j hj)⟩
theorem parseR (A : Option Addr) (n c : Nat) (l : List ByteArray) (w : World) (ha : Ss w A n c l) (hz : ∀ (i : Nat) (h : i < l.length), i < 3 → l[i].size ≤ 1000) : Calls Tryz.prog 115 #[.slice A n c] w (RetSp w (parseRes l)) := by
  have ml : ∀ x : ByteArray, x.size ≤ 1000 → x.size ≤ maxLen := fun x h => by unfold maxLen; omega
  have hn := ha.len
  unfold parseRes
  by_cases h3 : 3 < l.length
  · rw [if_pos h3]
    exact parse_many A n c (by omega) w
  rw [if_neg h3]
  match l, hn with
  | [], hn =>
    obtain rfl : n = 0 := hn.symm
    exact parse_0 A c w
  | a :: l, hn =>
    have n0 : 0 < n := by simp at hn; omega
    have n3 : n ≤ 3 := by omega
    obtain ⟨g, o, rfl, cs⟩ := ha.cell n0
    have za := hz 0 (by simp) (by omega)
    have CA := Lib.hid (cs 0 (by simp))
    have MR := fun W => mnR a (ml a za) W
    show Calls Tryz.prog _ _ w (RetSp w (if monthN a = 0 then (.zero, 0, 6) else _))
    by_cases hm : monthN a = 0
    · rw [if_pos hm]
      rw [hm] at MR
      exact parse_m g o n c n3 n0 a (Lib.hid MR) w CA
    rw [if_neg hm]
    have hm' : ¬ (monthN a : Int) = 0 := by omega
    match l, hn with
    | [], hn => exact parse_1 g o n c n3 (by simp at hn; omega) a _ hm' (Lib.hid MR) w CA
    | b :: l, hn =>
      have n1 : 1 < n := by simp at hn; omega
      have zb := hz 1 (by simp) (by omega)
      have CB := Lib.hid (cs 1 (by simp))
      have DR := fun W => dTupR b zb W
      show Calls Tryz.prog _ _ w (RetSp w (if (dTup b).2.2.2 = false then (.zero, 1, 6) else _))
      unfold RetD at DR
      by_cases hd : (dTup b).2.2.2 = false
      · rw [if_pos hd]
        rw [hd] at DR
        exact parse_d g o n c n3 n1 a _ hm' (Lib.hid MR) b _ _ _ (Lib.hid DR) w CA CB
      rw [if_neg hd]
      have hd' : (dTup b).2.2.2 = true := by simpa using hd
      rw [hd'] at DR
      match l, hn with
      | [], hn => exact parse_2 g o n c n3 (by simp at hn; omega) a _ hm' (Lib.hid MR) b _ _ _ (Lib.hid DR) w CA CB
      | d :: l, hn =>
        have n2 : n = 3 := by simp at hn; omega
        have zc := hz 2 (by simp) (by omega)
        have CC := Lib.hid (cs 2 (by simp))
        have CR := fun W => clockR d zc W
        unfold RetCk at CR
        show Calls Tryz.prog _ _ w (RetSp w (match clockRes d with
          | none => (.zero, 2, 6)
          | some x => (⟨monthN a, (dTup b).1, (dTup b).2.1, (dTup b).2.2.1, x.1, x.2⟩, 0, 0)))
        cases e : clockRes d with
        | none =>
          rw [e] at CR
          exact parse_c g o n c n3 n2 a _ hm' (Lib.hid MR) b _ _ _ (Lib.hid DR) d _ _ (Lib.hid CR) w CA CB CC
        | some x =>
          rw [e] at CR
          exact parse_3 g o n c n3 n2 a _ hm' (Lib.hid MR) b _ _ _ (Lib.hid DR) d _ _ (Lib.hid CR) w CA CB CC
end Go.Proofs.YtnkmlfbnfndfpaaGreatDoor
