import Derived.Test.YtallclimljiplaaGreatDoorZGa
import Derived.Test.YtallclimljiplaaGreatDoorZGw
import Derived.IntWalk
import Derived.Lib.Hide
import Derived.LoopTactic
import Derived.Outline
import Derived.OwnWalk
import Derived.Maps.AppendAt
import Derived.Laws.OwnMore
set_option maxRecDepth 100000
set_option maxHeartbeats 64000000
namespace Go.Proofs.YtallclimljiplaaGreatDoor
open Go.RowKit
theorem int_eqS {k : IntKind} {a b : Int} (h : a = b) : Value.int k a = Value.int k b := by rw [h]
def bareB (b : Int) : Bool := decide (32 < b ∧ b < 127 ∧ ¬ b = 34 ∧ ¬ b = 35)
def quoAt (s : ByteArray) (k : Nat) : Option Nat :=
  if h : k < s.size then (if s[k] = 34 then some k else quoAt s (k + 1)) else none
termination_by s.size - k
section
variable {s : ByteArray} {f i : Nat} {out : List (ByteArray × Int)}
end
end Go.Proofs.YtallclimljiplaaGreatDoor
namespace Go.Proofs.YtallclimljiplaaGreatDoor
open Go.RowKit
def lone (s : ByteArray) (k : Nat) : Bool := if h : k < s.size then decide (s[k] = 34) && (quoAt s (k + 1)).isNone else false
def okB (c : Int) : Bool := decide (32 ≤ c ∧ c ≤ 126 ∧ ¬ c = 34)
def okPre (t : ByteArray) (k : Nat) : Prop := ∀ (j : Nat) (h : j < t.size), j < k → okB t[j].toNat = true
def okText (t : ByteArray) : Prop := okPre t t.size
def barePre (t : ByteArray) : Nat → Bool
  | 0 => decide (0 < t.size)
  | k + 1 => if h : k < t.size then barePre t k && bareB t[k].toNat else barePre t k
def plainT (t : ByteArray) : Bool := barePre t t.size
def allOk (l : List ByteArray) : Prop := ∀ (i : Nat) (h : i < l.length), okText l[i]
instance (t : ByteArray) (k : Nat) : Decidable (okPre t k) := Nat.decidableBallLT t.size (fun j h => j < k → okB t[j].toNat = true)
instance (t : ByteArray) : Decidable (okText t) := inferInstanceAs (Decidable (okPre t t.size))
instance (l : List ByteArray) : Decidable (allOk l) := Nat.decidableBallLT l.length (fun i h => okText l[i])
def enc (t : ByteArray) : ByteArray := if plainT t = true then t else ⟨#[34]⟩ ++ t ++ ⟨#[34]⟩
end Go.Proofs.YtallclimljiplaaGreatDoor
