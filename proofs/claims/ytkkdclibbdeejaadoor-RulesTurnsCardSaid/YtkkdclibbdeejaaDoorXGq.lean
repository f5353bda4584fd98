import Derived.Test.YtkkdclibbdeejaaDoorXGa
import Derived.Test.YtkkdclibbdeejaaDoorXGw
import Derived.IntWalk
import Derived.Lib.Hide
import Derived.LoopTactic
import Derived.Outline
import Derived.OwnWalk
import Derived.Maps.AppendAt
import Derived.Laws.OwnMore
set_option maxRecDepth 100000
set_option maxHeartbeats 64000000
namespace Go.Proofs.YtkkdclibbdeejaaDoor
open Go.RowKit
def strs (l : List ByteArray) : List Value := l.map fun s => Value.string s
theorem int_eqS {k : IntKind} {a b : Int} (h : a = b) : Value.int k a = Value.int k b := by rw [h]
structure Ss (w : World) (A : Option Addr) (n c : Nat) (l : List ByteArray) : Prop where
  len : l.length = n
  cap : n ≤ c
  max : c ≤ maxLen
  cells : 0 < n → ∃ g o, A = some ⟨g, o, none⟩ ∧ g < w.heap.size ∧ ∀ (j : Nat) (h : j < l.length), w.cell? ⟨g, o + j, none⟩ = some (.string l[j])
theorem Ss.nil (w : World) : Ss w none 0 0 [] := ⟨rfl, Nat.le_refl _, by simp [maxLen], fun h => absurd h (by omega)⟩
theorem Ss.below {w w' : World} {A : Option Addr} {n c : Nat} {l : List ByteArray} (h : Ss w A n c l) (hb : Below w.heap.size w w') : Ss w' A n c l :=
  ⟨h.len, h.cap, h.max, fun hn => by
    obtain ⟨g, o, e, hg, hc⟩ := h.cells hn
    exact ⟨g, o, e, Nat.lt_of_lt_of_le hg hb.size, fun j hj => (hb.cell (p := ⟨g, o + j, none⟩) hg).trans (hc j hj)⟩⟩
def bareB (b : Int) : Bool := decide (32 < b ∧ b < 127 ∧ ¬ b = 34 ∧ ¬ b = 35)
structure Fs (w : World) (A : Option Addr) (n c : Nat) (l : List (ByteArray × Int)) : Prop where
  len : l.length = n
  cap : n ≤ c
  max : c ≤ maxLen
  cells : 0 < n → ∃ g o, A = some ⟨g, o, none⟩ ∧ g < w.heap.size ∧ ∀ (j : Nat) (h : j < l.length), w.cell? ⟨g, o + 2 * j, none⟩ = some (.string l[j].1) ∧ w.cell? ⟨g, o + 2 * j + 1, none⟩ = some (.int .i64 l[j].2)
theorem Fs.nil (w : World) : Fs w none 0 0 [] := ⟨rfl, Nat.le_refl _, by simp [maxLen], fun h => absurd h (by omega)⟩
theorem Fs.below {w w' : World} {A : Option Addr} {n c : Nat} {l : List (ByteArray × Int)} (h : Fs w A n c l) (hb : Below w.heap.size w w') : Fs w' A n c l :=
  ⟨h.len, h.cap, h.max, fun hn => by
    obtain ⟨g, o, e, hg, hc⟩ := h.cells hn
    exact ⟨g, o, e, Nat.lt_of_lt_of_le hg hb.size, fun j hj => ⟨(hb.cell (p := ⟨g, o + 2 * j, none⟩) hg).trans (hc j hj).1, (hb.cell (p := ⟨g, o + 2 * j + 1, none⟩) hg).trans (hc j hj).2⟩⟩⟩
section
variable {s : ByteArray} {f i : Nat} {out : List (ByteArray × Int)}
end
end Go.Proofs.YtkkdclibbdeejaaDoor
namespace Go.Proofs.YtkkdclibbdeejaaDoor
open Go.RowKit
def okB (c : Int) : Bool := decide (32 ≤ c ∧ c ≤ 126 ∧ ¬ c = 34)
def okPre (t : ByteArray) (k : Nat) : Prop := ∀ (j : Nat) (h : j < t.size), j < k → okB t[j].toNat = true
def okText (t : ByteArray) : Prop := okPre t t.size
def barePre (t : ByteArray) : Nat → Bool
  | 0 => decide (0 < t.size)
  | k + 1 => if h : k < t.size then barePre t k && bareB t[k].toNat else barePre t k
def plainT (t : ByteArray) : Bool := barePre t t.size
def allOk (l : List ByteArray) : Prop := ∀ (i : Nat) (h : i < l.length), okText l[i]
instance (t : ByteArray) (k : Nat) : Decidable (okPre t k) := Nat.decidableBallLT t.size (fun j h => j < k → okB t[j].toNat = true)
instance (t : ByteArray) : Decidable (okText t) := inferInstanceAs (Decidable (okPre t t.size))
instance (l : List ByteArray) : Decidable (allOk l) := Nat.decidableBallLT l.length (fun i h => okText l[i])
def enc (t : ByteArray) : ByteArray := if plainT t = true then t else ⟨#[34]⟩ ++ t ++ ⟨#[34]⟩
theorem Ss.two (w : World) (a b : ByteArray) (t : TypeId) : Ss (w.alloc (.cells #[.string a, .string b] t)) (some ⟨w.heap.size, 0, none⟩) 2 2 [a, b] := by
  refine ⟨rfl, Nat.le_refl _, by simp [maxLen], fun _ => ⟨_, _, rfl, by simp, fun j hj => ?_⟩⟩
  have hj2 : j < 2 := hj
  match j, hj2 with
  | 0, _ => simp
  | 1, _ => simp
end Go.Proofs.YtkkdclibbdeejaaDoor
