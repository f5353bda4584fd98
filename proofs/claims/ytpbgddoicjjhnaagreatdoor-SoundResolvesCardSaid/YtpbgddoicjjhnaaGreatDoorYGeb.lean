import Derived.Test.YtpbgddoicjjhnaaGreatDoorYGea
import Derived.Test.YtpbgddoicjjhnaaGreatDoorYMem
import Derived.Deep.RegionHeld3
import Derived.Test.YtpbgddoicjjhnaaGreatDoorYGc
import Derived.BigQuiet
import Derived.Lib.SlicesS
import Derived.Laws.AppendOwnNone
set_option maxRecDepth 100000
set_option maxHeartbeats 64000000
namespace Go.Proofs.YtpbgddoicjjhnaaGreatDoor
open Go.RowKit
def turnO (x : Rl) (y : Int) : Option Tn := if turnIn x y then some (turnT x y) else none
theorem turnO_none {x : Rl} {y : Int} (h : ¬ turnIn x y) : turnO x y = none := if_neg h
theorem turnO_some {x : Rl} {y : Int} (h : turnIn x y) : turnO x y = some (turnT x y) := if_pos h
theorem tdiv_neg_day {T : Int} (h : T < 0) : T.tdiv 86400 = -((-T) / 86400) ∧ T.tmod 86400 = -((-T) % 86400) := by
  have a := Int.neg_tdiv (a := -T) (b := 86400)
  have b := Int.neg_tmod (-T) 86400
  rw [Int.neg_neg] at a b
  rw [Int.tdiv_eq_ediv_of_nonneg (show 0 ≤ -T by omega)] at a
  rw [Int.tmod_eq_emod_of_nonneg (show 0 ≤ -T by omega)] at b
  exact ⟨a, b⟩
theorem fit_no {L : List Rl} {k : Nat} {x : Rl} (h : L[k]? = some x) (b : ¬ x.fit) : fitB L = false := by
  rw [← Bool.not_eq_true, fit_yes]
  exact fun c => b (c x (List.mem_of_getElem? h))
def nextO (x : Rl) (b : Option Tn) : Option Int → Option Tn
  | none => b
  | some y => match b with
    | none => some (turnT x y)
    | some t => if t.at_ ≤ (turnT x y).at_ then some (turnT x y) else some t
theorem nextO_up {x : Rl} {b : Tn} {y : Int} (h : b.at_ ≤ (turnT x y).at_) : nextO x (some b) (some y) = some (turnT x y) := if_pos h
theorem nextO_old {x : Rl} {b : Tn} {y : Int} (h : ¬ b.at_ ≤ (turnT x y).at_) : nextO x (some b) (some y) = some b := if_neg h
theorem latest_next {L : List Rl} {P : Tn → Prop} {k : Nat} {x : Rl} (hx : L[k]? = some x) {b : Option Tn} (h : Latest (L.take k) P b) (r : Option Int) (hr : LatestOf x P r) : Latest (L.take (k + 1)) P (nextO x b r) := by
  have := h.next hx hr
  cases r <;> cases b <;> exact this
structure AhW (w : World) (b : List Value) (X : World) : Prop where
  hb : Below w.heap.size w X
  k0 : Blk X w.heap.size Tn.zero.vals
  k1 : Blk X (w.heap.size + 1) b
theorem AhW.below {w : World} {b : List Value} {X X' : World} (h : AhW w b X) (k : Below X.heap.size X X') : AhW w b X' := ⟨below_thru h.hb k, h.k0.below k, h.k1.below k⟩
theorem AhW.alloc {w : World} {b : List Value} {X : World} (h : AhW w b X) (o : Obj) : AhW w b (X.alloc o) := h.below (below_box X o)
theorem AhW.store {w : World} {u v x y : Value} {X : World} (h : AhW w [u, v, x, y] X) (u' v' x' y' : Value) : AhW w [u', v', x', y'] ((((X.setCell ⟨w.heap.size + 1, 0, none⟩ u').setCell ⟨w.heap.size + 1, 1, none⟩ v').setCell ⟨w.heap.size + 1, 2, none⟩ x').setCell ⟨w.heap.size + 1, 3, none⟩ y') :=
  ⟨(((h.hb.setCell (p := ⟨w.heap.size + 1, 0, none⟩) (by show _ ≤ w.heap.size + 1; omega) u').setCell (p := ⟨w.heap.size + 1, 1, none⟩) (by show _ ≤ w.heap.size + 1; omega) v').setCell (p := ⟨w.heap.size + 1, 2, none⟩) (by show _ ≤ w.heap.size + 1; omega) x').setCell (p := ⟨w.heap.size + 1, 3, none⟩) (by show _ ≤ w.heap.size + 1; omega) y',
    (((h.k0.far (by omega) 0 u').far (by omega) 1 v').far (by omega) 2 x').far (by omega) 3 y', h.k1.self4 u' v' x' y'⟩
theorem aheadSave_is (L : List Rl) (a : Int) : aheadSave L a = ((aheadO L a).getD Tn.zero).save := by
  unfold aheadSave
  cases aheadO L a <;> rfl
instance : DecidableEq Tn := fun a b => if h : a.at_ = b.at_ ∧ a.re = b.re ∧ a.save = b.save ∧ a.letter = b.letter then isTrue (Tn.ext' h.1 h.2.1 h.2.2.1 h.2.2.2) else isFalse (fun c => h (by subst c; exact ⟨rfl, rfl, rfl, rfl⟩))
end Go.Proofs.YtpbgddoicjjhnaaGreatDoor
