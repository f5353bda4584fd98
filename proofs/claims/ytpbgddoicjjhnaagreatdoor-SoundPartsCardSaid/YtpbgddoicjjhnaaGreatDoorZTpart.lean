/- The rules of the sets that a zone's eras name. No program here. -/
import Derived.Test.YtpbgddoicjjhnaaGreatDoorZTdef
import Derived.Test.YtpbgddoicjjhnaaGreatDoorZGj
set_option maxRecDepth 100000
set_option maxHeartbeats 64000000
namespace Go.Proofs.YtpbgddoicjjhnaaGreatDoor
open Go.RowKit
def usedB (es : List Er) (nm : ByteArray) : Bool := es.any (fun e => decide (e.rules = nm))
theorem used_step {es : List Er} {k : Nat} {e : Er} (h : es[k]? = some e) (nm : ByteArray) : usedB (es.take (k + 1)) nm = (usedB (es.take k) nm || decide (e.rules = nm)) := by
  unfold usedB
  rw [List.take_add_one, h, List.any_append]
  simp
def partL (L : List Rl) (es : List Er) : List Rl := L.filter (fun x => usedB es x.name)
theorem part_step {L : List Rl} {es : List Er} {i : Nat} {x : Rl} (h : L[i]? = some x) : partL (L.take (i + 1)) es = if usedB es x.name = true then partL (L.take i) es ++ [x] else partL (L.take i) es := by
  unfold partL
  rw [List.take_add_one, h, List.filter_append]
  by_cases c : usedB es x.name = true
  · rw [if_pos c]; simp [c]
  · rw [if_neg c]; simp [c]
theorem used_mem {es : List Er} {e : Er} (h : e ∈ es) {nm : ByteArray} (k : nm = e.rules) : usedB es nm = true := by
  unfold usedB
  exact List.any_eq_true.2 ⟨e, h, decide_eq_true k.symm⟩
theorem part_ok {S : Sr} (h : S.ok) {zn : Zn} (hz : zn ∈ S.zones) (es : List Er) : (Sr.mk (partL S.rules es) [zn] []).ok := by
  refine ⟨Nat.le_trans (List.length_filter_le _ _) h.1, by show 1 ≤ 50; decide, by show 0 ≤ 100; decide, fun x hx => h.2.2.2.1 x (List.mem_filter.1 hx).1, fun z hz' => ?_, fun x hx => absurd hx (by simp)⟩
  have hz' : z ∈ [zn] := hz'
  rw [List.mem_singleton] at hz'
  subst hz'
  exact h.2.2.2.2.1 _ hz
theorem part_in {S : Sr} (h : S.in64) {zn : Zn} (hz : zn ∈ S.zones) (es : List Er) : (Sr.mk (partL S.rules es) [zn] []).in64 := by
  refine ⟨fun x hx => h.1 x (List.mem_filter.1 hx).1, fun z hz' => ?_, fun x hx => absurd hx (by simp)⟩
  have hz' : z ∈ [zn] := hz'
  rw [List.mem_singleton] at hz'
  subst hz'
  exact h.2.1 _ hz
end Go.Proofs.YtpbgddoicjjhnaaGreatDoor
