/- The document's answer of layer 9: numbers' digits, two digits. -/
import Derived.Test.YtnkmlfbnfndfpaaGreatDoorYGq
import Derived.Test.YtnkmlfbnfndfpaaGreatDoorYDec
import Derived.Test.YtnkmlfbnfndfpaaGreatDoorYGu
import Derived.Laws.IdiomStrings
namespace Go.Proofs.YtnkmlfbnfndfpaaGreatDoor
open Go.RowKit
/-- a number's digits -/
def decB (n : Nat) : ByteArray := ⟨(dec n).toArray⟩
theorem decB_size (n : Nat) : (decB n).size = (dec n).length := rfl
theorem txt_app (a b : List UInt8) : (⟨a.toArray⟩ ++ ⟨b.toArray⟩ : ByteArray) = ⟨(a ++ b).toArray⟩ := by
  apply ByteArray.ext
  rw [ByteArray.data_append]
  simp
theorem txt_of (s : ByteArray) : s = ⟨s.data.toList.toArray⟩ := by cases s; simp
/-- two digits -/
def twB (n : Nat) : ByteArray := if n < 10 then ⟨[48].toArray⟩ ++ decB n else decB n
theorem twB_size {n : Nat} (h : n < 100) : (twB n).size = 2 := by
  unfold twB
  by_cases h1 : n < 10
  · rw [if_pos h1, ByteArray.size_append]; show 1 + (dec n).length = 2; rw [dec_small h1]; rfl
  · rw [if_neg h1]; show (dec n).length = 2; rw [dec_big h1, dec_small (by omega)]; rfl
theorem decB_le {n : Nat} (h : n < 10000000000000000000) : (decB n).size ≤ 19 := dec_len (k := 18) (by omega)
/-- a clock's time: of numbers below 0, too -/
def timeB (n : Int) : ByteArray :=
  if n.natAbs % 60 = 0 then (if n < 0 then ⟨[45].toArray⟩ else ⟨[].toArray⟩) ++ decB (n.natAbs / 3600) ++ ⟨[58].toArray⟩ ++ twB (n.natAbs / 60 % 60)
  else (if n < 0 then ⟨[45].toArray⟩ else ⟨[].toArray⟩) ++ decB (n.natAbs / 3600) ++ ⟨[58].toArray⟩ ++ twB (n.natAbs / 60 % 60) ++ ⟨[58].toArray⟩ ++ twB (n.natAbs % 60)
end Go.Proofs.YtnkmlfbnfndfpaaGreatDoor
