/- The document's answer of layer 9: spots, and the spot that texts tell. -/
import Derived.Test.YtnkmlfbnfndfpaaGreatDoorZUparse
import Derived.Test.YtnkmlfbnfndfpaaGreatDoorZHdata
namespace Go.Proofs.YtnkmlfbnfndfpaaGreatDoor
open Go.RowKit
/-- the spot that texts tell, the place of the first that is wrong, the error -/
def parseRes (l : List ByteArray) : Sp × Int × Int :=
  if 3 < l.length then (.zero, 3, 12) else match l with
    | [] => (⟨1, 0, 0, 1, 0, 0⟩, 0, 0)
    | a :: l => if monthN a = 0 then (.zero, 0, 6) else match l with
      | [] => (⟨monthN a, 0, 0, 1, 0, 0⟩, 0, 0)
      | b :: l => if (dTup b).2.2.2 = false then (.zero, 1, 6) else match l with
        | [] => (⟨monthN a, (dTup b).1, (dTup b).2.1, (dTup b).2.2.1, 0, 0⟩, 0, 0)
        | d :: _ => match clockRes d with
          | none => (.zero, 2, 6)
          | some x => (⟨monthN a, (dTup b).1, (dTup b).2.1, (dTup b).2.2.1, x.1, x.2⟩, 0, 0)
/-- What a call that answers a spot, a place and an error's number leaves. -/
def RetSp (w : World) (r : Sp × Int × Int) (e : Ending) (w' : World) : Prop := e = .returned (.tuple #[r.1.val, .int .i64 r.2.1, .int .i64 r.2.2]) ∧ Below w.heap.size w w'
theorem Ss.cell {w : World} {A : Option Addr} {n c : Nat} {l : List ByteArray} (ha : Ss w A n c l) (h : 0 < n) : ∃ g o, A = some ⟨g, o, none⟩ ∧ ∀ (j : Nat) (hj : j < l.length) (W : World), Below w.heap.size w W → W.cell? ⟨g, o + j, none⟩ = some (.string l[j]) := by
  obtain ⟨g, o, e, hg, cs⟩ := ha.cells h
  exact ⟨g, o, e, fun j hj W hb => (hb.cell (p := ⟨g, o + j, none⟩) hg).trans (cs j hj)⟩
end Go.Proofs.YtnkmlfbnfndfpaaGreatDoor
