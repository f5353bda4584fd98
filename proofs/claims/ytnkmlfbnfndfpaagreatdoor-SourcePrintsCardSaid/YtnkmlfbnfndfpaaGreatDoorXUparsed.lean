/- The document's answer of layer 9: spots, and the spot that texts tell. -/
import Derived.Test.YtnkmlfbnfndfpaaGreatDoorXUparse
import Derived.Test.YtnkmlfbnfndfpaaGreatDoorXHdata
set_option maxRecDepth 100000
set_option maxHeartbeats 64000000
namespace Go.Proofs.YtnkmlfbnfndfpaaGreatDoor
open Go.RowKit
def parseRes (l : List ByteArray) : Sp × Int × Int :=
  if 3 < l.length then (.zero, 3, 12) else match l with
    | [] => (⟨1, 0, 0, 1, 0, 0⟩, 0, 0)
    | a :: l => if monthN a = 0 then (.zero, 0, 6) else match l with
      | [] => (⟨monthN a, 0, 0, 1, 0, 0⟩, 0, 0)
      | b :: l => if (dTup b).2.2.2 = false then (.zero, 1, 6) else match l with
        | [] => (⟨monthN a, (dTup b).1, (dTup b).2.1, (dTup b).2.2.1, 0, 0⟩, 0, 0)
        | d :: _ => match clockRes d with
          | none => (.zero, 2, 6)
          | some x => (⟨monthN a, (dTup b).1, (dTup b).2.1, (dTup b).2.2.1, x.1, x.2⟩, 0, 0)
def RetSp (w : World) (r : Sp × Int × Int) (e : Ending) (w' : World) : Prop := e = .returned (.tuple #[r.1.val, .int .i64 r.2.1, .int .i64 r.2.2]) ∧ Below w.heap.size w w'
end Go.Proofs.YtnkmlfbnfndfpaaGreatDoor
