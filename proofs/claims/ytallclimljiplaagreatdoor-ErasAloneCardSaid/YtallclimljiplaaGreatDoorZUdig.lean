/- The document's answer of layer 9: numbers' digits, two digits. -/
import Derived.Test.YtallclimljiplaaGreatDoorZGq
import Derived.Test.YtallclimljiplaaGreatDoorZDec
import Derived.Test.YtallclimljiplaaGreatDoorZGu
import Derived.Laws.IdiomStrings
set_option maxRecDepth 100000
set_option maxHeartbeats 64000000
namespace Go.Proofs.YtallclimljiplaaGreatDoor
open Go.RowKit
theorem byte_text (W : World) (x : Int) (d : UInt8) (h : x = d.toNat) :
    (convert 90 9 (.slice (some ⟨W.heap.size, 0, none⟩) 1 1)).run Tryz.prog (W.alloc (.cells #[.int .u8 x] 5)) = .ok (.string ⟨[d].toArray⟩) (W.alloc (.cells #[.int .u8 x] 5)) := by
  refine run_convert_bytes_back (W.alloc (.cells #[.int .u8 x] 5)) 90 9 5 ⟨W.heap.size, 0, none⟩ 1 [d] Tryz.underlying90 Tryz.underlying5 Tryz.underlying9 ?_
  intro j hj
  obtain rfl : j = 0 := by simp at hj; omega
  have ea : ((⟨W.heap.size, 0, none⟩ : Addr).add 0) = ⟨W.heap.size, 0, none⟩ := by unfold Addr.add; split <;> simp_all
  rw [ea]
  simp [h]
def decB (n : Nat) : ByteArray := ⟨(dec n).toArray⟩
def dOf (k : Nat) (s : ByteArray) : ByteArray := if k = 0 ∧ 0 < s.size then s else decB k ++ s
theorem txt_app (a b : List UInt8) : (⟨a.toArray⟩ ++ ⟨b.toArray⟩ : ByteArray) = ⟨(a ++ b).toArray⟩ := by
  apply ByteArray.ext
  rw [ByteArray.data_append]
  simp
theorem txt_of (s : ByteArray) : s = ⟨s.data.toList.toArray⟩ := by cases s; simp
theorem dOf_step (k : Nat) (s : ByteArray) (h : 0 < k ∨ s.size = 0) (b : UInt8) (hb : b = UInt8.ofNat (48 + k % 10)) : dOf (k / 10) (⟨[b].toArray⟩ ++ s) = dOf k s := by
  have e1 : dOf k s = decB k ++ s := by unfold dOf; rw [if_neg (by omega)]
  rw [e1, txt_of s]
  unfold dOf decB
  simp only [txt_app]
  by_cases h1 : k / 10 = 0
  · rw [if_pos ⟨h1, by show 0 < ([b] ++ s.data.toList).toArray.size; simp⟩, dec_small (n := k) (by omega), hb, Nat.mod_eq_of_lt (by omega)]
  · rw [if_neg (by omega), dec_big (n := k) (by omega), hb, List.append_assoc]
def twB (n : Nat) : ByteArray := if n < 10 then ⟨[48].toArray⟩ ++ decB n else decB n
theorem decB_le {n : Nat} (h : n < 10000000000000000000) : (decB n).size ≤ 19 := dec_len (k := 18) (by omega)
end Go.Proofs.YtallclimljiplaaGreatDoor
