import Derived.Test.YtmhpnmlgfdomkaaGreatDoorZGa
import Derived.Test.YtmhpnmlgfdomkaaGreatDoorZGw
import Derived.IntWalk
import Derived.Lib.Hide
import Derived.LoopTactic
import Derived.Outline
import Derived.OwnWalk
import Derived.Maps.AppendAt
import Derived.Laws.OwnMore
set_option maxRecDepth 100000
set_option maxHeartbeats 64000000
namespace Go.Proofs.YtmhpnmlgfdomkaaGreatDoor
open Go.RowKit
def strs (l : List ByteArray) : List Value := l.map fun s => Value.string s
theorem strs_length (l : List ByteArray) : (strs l).length = l.length := by simp [strs]
theorem int_eqS {k : IntKind} {a b : Int} (h : a = b) : Value.int k a = Value.int k b := by rw [h]
theorem str_info : (Tryz.prog.info? 9).map (fun i => (i.zero, i.size, i.bytes)) = some (some (.string ⟨#[]⟩), 1, 16) := by kernel_rfl
theorem info_partsS {T : TypeId} {z : Value} {s b : Nat} (h : (Tryz.prog.info? T).map (fun i => (i.zero, i.size, i.bytes)) = some (some z, s, b)) : ∃ i, Tryz.prog.info? T = some i ∧ i.zero = some z ∧ i.size = s ∧ i.bytes = b := by
  cases hi : Tryz.prog.info? T with
  | none => simp [hi] at h
  | some i => simp [hi] at h; exact ⟨i, rfl, h.1, h.2.1, h.2.2⟩
structure Ss (w : World) (A : Option Addr) (n c : Nat) (l : List ByteArray) : Prop where
  len : l.length = n
  cap : n ≤ c
  max : c ≤ maxLen
  cells : 0 < n → ∃ g o, A = some ⟨g, o, none⟩ ∧ g < w.heap.size ∧ ∀ (j : Nat) (h : j < l.length), w.cell? ⟨g, o + j, none⟩ = some (.string l[j])
theorem Ss.nil (w : World) : Ss w none 0 0 [] := ⟨rfl, Nat.le_refl _, by simp [maxLen], fun h => absurd h (by omega)⟩
theorem Ss.of_own {w : World} {base : Nat} {e : TypeId} {v : Value} {n : Nat} {l : List ByteArray} (h : w.ownsRow base e 1 v n (strs l)) : ∃ A c, v = .slice A n c ∧ Ss w A n c l := by
  have hl : l.length = n := by have := h.1; rw [strs_length, Nat.mul_one] at this; exact this
  rcases h.2 with ⟨rfl, rfl⟩ | ⟨g, cap, cur, rfl, _, hh, hnc, hm, _, _⟩
  · obtain rfl : l = [] := List.eq_nil_of_length_eq_zero hl
    exact ⟨none, 0, rfl, Ss.nil w⟩
  · refine ⟨_, _, rfl, ⟨hl, hnc, hm, fun _ => ⟨g, 0, rfl, (h.lt g rfl).2, fun j hj => ?_⟩⟩⟩
    have := h.cells (g := g) rfl j (.string l[j]) (by simp [strs, hj])
    have ea : ((⟨g, 0, none⟩ : Addr).add j) = ⟨g, 0 + j, none⟩ := by unfold Addr.add; split <;> simp_all
    rw [ea] at this
    exact this
def RetSs (w : World) (l : List ByteArray) (e : Ending) (w' : World) : Prop := ∃ A n c, e = .returned (.slice A n c) ∧ Ss w' A n c l ∧ Below w.heap.size w w'
def bareB (b : Int) : Bool := decide (32 < b ∧ b < 127 ∧ ¬ b = 34 ∧ ¬ b = 35)
def quoAt (s : ByteArray) (k : Nat) : Option Nat :=
  if h : k < s.size then (if s[k] = 34 then some k else quoAt s (k + 1)) else none
termination_by s.size - k
section
variable {s : ByteArray} {f i : Nat} {out : List (ByteArray × Int)}
end
end Go.Proofs.YtmhpnmlgfdomkaaGreatDoor
namespace Go.Proofs.YtmhpnmlgfdomkaaGreatDoor
open Go.RowKit
def lone (s : ByteArray) (k : Nat) : Bool := if h : k < s.size then decide (s[k] = 34) && (quoAt s (k + 1)).isNone else false
def okB (c : Int) : Bool := decide (32 ≤ c ∧ c ≤ 126 ∧ ¬ c = 34)
def okPre (t : ByteArray) (k : Nat) : Prop := ∀ (j : Nat) (h : j < t.size), j < k → okB t[j].toNat = true
def okText (t : ByteArray) : Prop := okPre t t.size
def barePre (t : ByteArray) : Nat → Bool
  | 0 => decide (0 < t.size)
  | k + 1 => if h : k < t.size then barePre t k && bareB t[k].toNat else barePre t k
def plainT (t : ByteArray) : Bool := barePre t t.size
def allOk (l : List ByteArray) : Prop := ∀ (i : Nat) (h : i < l.length), okText l[i]
instance (t : ByteArray) (k : Nat) : Decidable (okPre t k) := Nat.decidableBallLT t.size (fun j h => j < k → okB t[j].toNat = true)
instance (t : ByteArray) : Decidable (okText t) := inferInstanceAs (Decidable (okPre t t.size))
instance (l : List ByteArray) : Decidable (allOk l) := Nat.decidableBallLT l.length (fun i h => okText l[i])
def enc (t : ByteArray) : ByteArray := if plainT t = true then t else ⟨#[34]⟩ ++ t ++ ⟨#[34]⟩
end Go.Proofs.YtmhpnmlgfdomkaaGreatDoor
