/- Layer 12: a name's set, when an era ends, its phase, what a zone tells, as data. No program here. -/
import Derived.Test.YtmhpnmlgfdomkaaGreatDoorZGea
set_option maxRecDepth 100000
set_option maxHeartbeats 64000000
namespace Go.Proofs.YtmhpnmlgfdomkaaGreatDoor
open Go.RowKit
def setL (L : List Rl) (n : ByteArray) : List Rl := L.filter (fun x => decide (x.name = n))
theorem setL_mem {L : List Rl} {n : ByteArray} {x : Rl} : x ∈ setL L n ↔ x ∈ L ∧ x.name = n := by
  unfold setL
  rw [List.mem_filter, decide_eq_true_eq]
theorem setL_fit {L : List Rl} (h : fitL L) (n : ByteArray) : fitL (setL L n) := fun x hx => h x (setL_mem.1 hx).1
theorem setL_len (L : List Rl) (n : ByteArray) : (setL L n).length ≤ L.length := List.length_filter_le _ _
theorem setL_take {L : List Rl} {n : ByteArray} {i : Nat} {x : Rl} (h : L[i]? = some x) : setL (L.take (i + 1)) n = if x.name = n then setL (L.take i) n ++ [x] else setL (L.take i) n := by
  unfold setL
  rw [List.take_add_one, h, List.filter_append]
  by_cases c : x.name = n
  · rw [if_pos c]; simp [c]
  · rw [if_neg c]; simp [c]
noncomputable def aheadE (L : List Rl) (x : Er) : Int := if x.kind = 2 then aheadSave (setL L x.rules) (loN x.sp x.year) else x.save
noncomputable def endE (L : List Rl) (x : Er) : Int :=
  if x.sp.re = 2 then loN x.sp x.year else if x.sp.re = 1 then loN x.sp x.year - x.off else loN x.sp x.year - x.off - aheadE L x
structure Ph where
  off : Int
  save : Int
  abbr : ByteArray
def Ph.zero : Ph := ⟨0, 0, ⟨#[]⟩⟩
def Ph.val (p : Ph) : Value := .agg #[.int .i64 p.off, .int .i64 p.save, .string p.abbr]
end Go.Proofs.YtmhpnmlgfdomkaaGreatDoor
