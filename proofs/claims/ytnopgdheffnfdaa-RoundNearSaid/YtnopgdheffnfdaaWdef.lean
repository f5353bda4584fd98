/- Wide numbers: what they are, their halves, and what calls leave that answer one; a block of two cells in memory. No walk here. -/
import Derived.Test.YtnopgdheffnfdaaIn
import Derived.Below
import Derived.IntWalk
import Derived.Lib.Hide
namespace Go.Proofs.Ytnopgdheffnfdaa
open Go.RowKit

/-- a block of two cells -/
structure Pair (w : World) (b : Nat) (u v : Value) : Prop where
  lt : b < w.heap.size
  c0 : w.cell? ⟨b, 0, none⟩ = some u
  c1 : w.cell? ⟨b, 1, none⟩ = some v
  f0 : w.frozen? ⟨b, 0, none⟩ = false
  f1 : w.frozen? ⟨b, 1, none⟩ = false
theorem Pair.below {w w' : World} {b : Nat} {u v : Value} (h : Pair w b u v) (hb : Below w.heap.size w w') : Pair w' b u v :=
  ⟨Nat.lt_of_lt_of_le h.lt hb.size, (hb.cell (p := ⟨b, 0, none⟩) h.lt).trans h.c0, (hb.cell (p := ⟨b, 1, none⟩) h.lt).trans h.c1, (hb.frozen (p := ⟨b, 0, none⟩) h.lt).trans h.f0, (hb.frozen (p := ⟨b, 1, none⟩) h.lt).trans h.f1⟩
theorem Pair.new (w : World) (u v : Value) (t : TypeId) : Pair (w.alloc (.cells #[u, v] t)) w.heap.size u v := ⟨by simp, by simp, by simp, by simp, by simp⟩
theorem Pair.far {w : World} {b : Nat} {u v : Value} (h : Pair w b u v) {b' : Nat} (hne : b' ≠ b) (o : Nat) (x : Value) : Pair (w.setCell ⟨b', o, none⟩ x) b u v :=
  have hb : (w.setCell ⟨b', o, none⟩ x).heap[b]? = w.heap[b]? := Below.heap_setCell w ⟨b', o, none⟩ x b (fun e => hne e.symm)
  ⟨by simpa [World.setCell] using h.lt, (World.cell?_of_block (w := w) (a := ⟨b, 0, none⟩) hb).trans h.c0, (World.cell?_of_block (w := w) (a := ⟨b, 1, none⟩) hb).trans h.c1, (World.frozen?_of_block (w := w) (a := ⟨b, 0, none⟩) hb).trans h.f0, (World.frozen?_of_block (w := w) (a := ⟨b, 1, none⟩) hb).trans h.f1⟩
theorem Pair.far2 {w : World} {b : Nat} {u v : Value} (h : Pair w b u v) {b' : Nat} (hne : b' ≠ b) (x x' : Value) : Pair ((w.setCell ⟨b', 0, none⟩ x).setCell ⟨b', 1, none⟩ x') b u v := (h.far hne 0 x).far hne 1 x'
theorem Pair.drew {w : World} {b : Nat} {u v : Value} (h : Pair w b u v) : Pair w.drew b u v := h.below (Below.refl _ _).drew
def two127 : Int := 170141183460469231731687303715884105728
/-- a wide number -/
def InW (z : Int) : Prop := -two127 ≤ z ∧ z < two127
instance (z : Int) : Decidable (InW z) := by unfold InW; infer_instance
/-- its halves -/
def hiW (z : Int) : Int := z / 18446744073709551616
def loW (z : Int) : Int := z % 18446744073709551616

/-- What a call that answers a wide number and a bool leaves. -/
def RetWB (w : World) (hi lo : Int) (ok : Bool) (e : Ending) (w' : World) : Prop := e = .returned (.tuple #[.agg #[.int .i64 hi, .int .u64 lo], .bool ok]) ∧ Below w.heap.size w w'

theorem Pair.self2 {w : World} {b : Nat} {u v : Value} (h : Pair w b u v) (x y : Value) : Pair ((w.setCell ⟨b, 0, none⟩ x).setCell ⟨b, 1, none⟩ y) b x y := by
  refine ⟨by simpa [World.setCell] using h.lt, ?_, ?_, ?_, ?_⟩
  · rw [World.cell?_setCell_other _ _ _ _ (by simp)]
    exact World.cell?_setCell_same _ _ _ h.c0
  · refine World.cell?_setCell_same _ _ _ (u := v) ?_
    rw [World.cell?_setCell_other _ _ _ _ (by simp)]
    exact h.c1
  · simp [h.f0]
  · simp [h.f1]

/-- what is told: the halves and the error's number -/
def hv (z : Int) : Int := if InW z then hiW z else 0
def lv (z : Int) : Int := if InW z then loW z else 0
def ev (z : Int) : Int := if InW z then 0 else 2
/-- What a call that answers a wide number and an error's number leaves. -/
def RetWE (w : World) (z : Int) (e : Ending) (w' : World) : Prop := e = .returned (.tuple #[.agg #[.int .i64 (hv z), .int .u64 (lv z)], .int .i64 (ev z)]) ∧ Below w.heap.size w w'

/-- What a call that answers a text leaves. -/
def RetS (w : World) (l : List UInt8) (e : Ending) (w' : World) : Prop := e = .returned (.string ⟨l.toArray⟩) ∧ Below w.heap.size w w'

theorem bytes_append (l m : List UInt8) : (⟨l.toArray⟩ : ByteArray) ++ ⟨m.toArray⟩ = ⟨(l ++ m).toArray⟩ := by
  apply ByteArray.ext
  simp [ByteArray.data_append]

/-- What a call that answers one value leaves. -/
def RetV (w : World) (v : Value) (e : Ending) (w' : World) : Prop := e = .returned v ∧ Below w.heap.size w w'
/-- What a call that answers a wide number leaves. -/
def RetW (w : World) (z : Int) (e : Ending) (w' : World) : Prop := e = .returned (.agg #[.int .i64 (hiW z), .int .u64 (loW z)]) ∧ Below w.heap.size w w'
theorem below_thru {a b c : World} (h : Below a.heap.size a b) (k : Below b.heap.size b c) : Below a.heap.size a c := h.trans (k.mono h.size)
theorem below_box (W : World) (o : Obj) : Below W.heap.size W (W.alloc o) := (Below.refl _ _).alloc (Nat.le_refl _) o

/-- the halves of a wide number, and the number of its halves -/
theorem halves {z : Int} (h : InW z) : In64 (hiW z) ∧ 0 ≤ loW z ∧ loW z ≤ 18446744073709551615 ∧ z = hiW z * 18446744073709551616 + loW z := by
  unfold InW two127 at h
  unfold hiW loW In64
  omega
theorem of_halves {hi lo : Int} (h1 : In64 hi) (h2 : 0 ≤ lo) (h3 : lo ≤ 18446744073709551615) :
    InW (hi * 18446744073709551616 + lo) ∧ hiW (hi * 18446744073709551616 + lo) = hi ∧ loW (hi * 18446744073709551616 + lo) = lo := by
  unfold In64 at h1
  unfold InW two127 hiW loW
  omega
theorem inW_of_64 {n : Int} (h : In64 n) : InW n := by unfold In64 at h; unfold InW two127; omega
theorem hi_of_64 {n : Int} (h : In64 n) : hiW n = if n < 0 then -1 else 0 := by
  unfold In64 at h; unfold hiW; split <;> omega
theorem wide_eq {a b : Int} : hiW a = hiW b → loW a = loW b → a = b := by
  unfold hiW loW; omega
end Go.Proofs.Ytnopgdheffnfdaa
