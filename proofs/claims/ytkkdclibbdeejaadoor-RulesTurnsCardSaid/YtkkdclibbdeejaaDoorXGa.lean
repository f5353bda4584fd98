import Derived.Test.YtkkdclibbdeejaaDoorRows
import Derived.WalkKit
import Derived.ProofKit
import Derived.OpenShut
import Derived.Below
import Derived.ChangeSame
import Derived.Deep.Draws
import Derived.IntWalk
import Derived.Lib.Hide
import Derived.LoopTactic
import Derived.Outline
import Derived.OwnWalk
import Derived.Maps.AppendAt
import Derived.Laws.OwnMore
import Derived.Deep.QuietTactic
import Derived.BigQuiet
import Derived.Deep.RegionHeld3
set_option maxRecDepth 100000
set_option maxHeartbeats 64000000
namespace Go.Proofs.YtkkdclibbdeejaaDoor
open Go.RowKit
def In64 (x : Int) : Prop := -9223372036854775808 ≤ x ∧ x ≤ 9223372036854775807
instance (x : Int) : Decidable (In64 x) := by unfold In64; infer_instance
theorem in64 {x : Int} (h : (Lit.int .i64 x).wf = true) : In64 x := by
  exact bounds_i64 h
end Go.Proofs.YtkkdclibbdeejaaDoor
namespace Go.Proofs.YtkkdclibbdeejaaDoor
def val : List Nat → Nat
  | [] => 0
  | d :: r => d + 65536 * val r
def Dig (l : List Nat) : Prop := ∀ d ∈ l, d < 65536
def digs (n : Nat) : List Nat := if n = 0 then [] else n % 65536 :: digs (n / 65536)
termination_by n
decreasing_by omega
theorem digs_zero : digs 0 = [] := by rw [digs]; rfl
theorem Dig.nil : Dig [] := by intro d h; cases h
theorem Dig.tail {d : Nat} {l : List Nat} (h : Dig (d :: l)) : Dig l := fun x hx => h x (List.mem_cons_of_mem _ hx)
theorem Dig.head {d : Nat} {l : List Nat} (h : Dig (d :: l)) : d < 65536 := h d (List.mem_cons_self ..)
theorem Dig.take {l : List Nat} (h : Dig l) (k : Nat) : Dig (l.take k) := fun x hx => h x (List.mem_of_mem_take hx)
theorem Dig.drop {l : List Nat} (h : Dig l) (k : Nat) : Dig (l.drop k) := fun x hx => h x (List.mem_of_mem_drop hx)
theorem Dig.set {l : List Nat} (h : Dig l) {i d : Nat} (hd : d < 65536) : Dig (l.set i d) := by
  intro x hx
  rcases List.mem_or_eq_of_mem_set hx with hx | rfl
  · exact h x hx
  · exact hd
theorem Dig.getD {l : List Nat} (h : Dig l) (i : Nat) : l.getD i 0 < 65536 := by
  rw [List.getD_eq_getElem?_getD]
  rcases hi : l[i]? with _ | x
  · simp
  · exact h x (List.mem_of_getElem? hi)
end Go.Proofs.YtkkdclibbdeejaaDoor
namespace Go.Proofs.YtkkdclibbdeejaaDoor
open Go.RowKit Go.WideShapes Go.ChangeShapes
theorem own : ownKnob Tryd.prog.godebug = none := by kernel_rfl
theorem below_drewN {B : Nat} {a w : World} (h : Below B a w) (n : Nat) : Below B a (w.drewN n) := ⟨h.os, h.tape, h.output, h.size, h.block⟩
theorem post_below {H : Type} {enc : TypeId × Value → H} {P : Program} {f : Func} {s : ChangeSpec} {apart fresh handsOn again : Bool} {W W' : World} {args : Array Value} {v : Value} {ds gs : List (DataW H)} {before pa pv : List MemPlace}
    (hW : DataW.Whole enc P f.params.toList s.vars apart W args.toList ds gs before)
    (hres : ∀ (b : Nat) (sp : Nat → Bool) (hd : Bool), DataW.TrodAll enc P W' b sp hd f.resultTypes.toList (v.resultList f.resultTypes.size) (s.fn H (ds ++ gs)).results [])
    (hargs : ∀ sp : Nat → Bool, (∀ p ∈ before, sp p.block = true) → DataW.TrodAll enc P W' 0 sp true f.params.toList args.toList (s.fn H (ds ++ gs)).args pa)
    (hvars : ∀ sp : Nat → Bool, (∀ p ∈ before, sp p.block = true) → DataW.TrodVars enc P W' sp s.vars (s.fn H (ds ++ gs)).vars pv)
    (hps : before = pa ++ pv) (hb : Below W.heap.size W W')
    (hok : ∀ (j : Nat) (t : TypeId) (r : Value), f.resultTypes[j]? = some t → (v.resultList f.resultTypes.size)[j]? = some r → Value.okWide P W' .any 0 t r) :
    s.post enc P f apart fresh handsOn again W args v W' := by
  have old : ∀ p ∈ before, p.block < W.heap.size := fun p hp => hW.lt p hp
  have oldB : ∀ p ∈ before, (fun b => decide (b < W.heap.size)) p.block = true := fun p hp => by simpa using old p hp
  refine ⟨ds, gs, before, [], pa, pv, hW, hres _ _ _, hargs _ oldB, hvars _ oldB, World.keptBut_mono (fun p hp => ⟨hp, ?_⟩) (hb.frame (· ∈ before)), fun _ => ?_⟩
  · rw [hps, List.mem_append] at hp
    exact .inr hp
  · obtain ⟨_, _, _, _, _, hz, hn⟩ := hW
    refine ⟨hok, _, _, ([] ++ pa) ++ pv, ⟨[] ++ pa, pv, trodAll_append (hargs _ (fun _ _ => rfl)) (hres _ _ _), hvars _ (fun _ _ => rfl), rfl, ?_, ?_⟩, ?_⟩
    · intro b off hp
      have hin : MemPlace.cell b off ∈ before := by rw [hps]; simpa using hp
      rw [hb.frozen (old _ hin)]
      exact hz b off hin
    · intro ha
      have := hn ha
      rw [hps] at this
      simpa using this
    · intro p hp _
      rw [hps]
      simpa using hp
end Go.Proofs.YtkkdclibbdeejaaDoor
namespace Go.Proofs.YtkkdclibbdeejaaDoor
open Go.RowKit
structure Ds (w : World) (A : Option Addr) (n c : Nat) (l : List Nat) : Prop where
  len : l.length = n
  cap : n ≤ c
  max : c ≤ maxLen
  dig : Dig l
  cells : 0 < n → ∃ g, A = some ⟨g, 0, none⟩ ∧ g < w.heap.size ∧ ∀ j, j < n → w.cell? ⟨g, j, none⟩ = some (.int .i64 (l.getD j 0 : Nat))
theorem Ds.nil (w : World) : Ds w none 0 0 [] := ⟨rfl, Nat.le_refl _, by simp [maxLen], Dig.nil, fun h => absurd h (by omega)⟩
theorem Ds.below {w w' : World} {A : Option Addr} {n c : Nat} {l : List Nat} (h : Ds w A n c l) (hb : Below w.heap.size w w') : Ds w' A n c l :=
  ⟨h.len, h.cap, h.max, h.dig, fun hn => by
    obtain ⟨g, e, hg, hc⟩ := h.cells hn
    exact ⟨g, e, Nat.lt_of_lt_of_le hg hb.size, fun j hj => (hb.cell (p := ⟨g, j, none⟩) hg).trans (hc j hj)⟩⟩
theorem Ds.alloc {w : World} {A : Option Addr} {n c : Nat} {l : List Nat} (h : Ds w A n c l) (o : Obj) : Ds (w.alloc o) A n c l := h.below ((Below.refl _ _).alloc (Nat.le_refl _) o)
theorem Ds.take {w : World} {A : Option Addr} {n c : Nat} {l : List Nat} (h : Ds w A n c l) {k : Nat} (hk : k ≤ n) : Ds w A k c (l.take k) :=
  ⟨by rw [List.length_take_of_le (by rw [h.len]; exact hk)], Nat.le_trans hk h.cap, h.max, h.dig.take k, fun h0 => by
    obtain ⟨g, e, hg, hc⟩ := h.cells (by omega)
    refine ⟨g, e, hg, fun j hj => ?_⟩
    rw [hc j (by omega)]
    simp [List.getD_eq_getElem?_getD, hj]⟩
structure Zs (w : World) (p : Bool) (A : Option Addr) (n c : Nat) (z : Int) : Prop where
  sign : p = decide (z < 0)
  ds : Ds w A n c (digs z.natAbs)
theorem Zs.below {w w' : World} {p : Bool} {A : Option Addr} {n c : Nat} {z : Int} (h : Zs w p A n c z) (hb : Below w.heap.size w w') : Zs w' p A n c z := ⟨h.sign, h.ds.below hb⟩
def RetZ (w : World) (z : Int) (e : Ending) (w' : World) : Prop :=
  ∃ p A n c, e = .returned (.agg #[.bool p, .slice A n c]) ∧ Zs w' p A n c z ∧ Below w.heap.size w w'
def sgn (p : Bool) (v : Nat) : Int := if p = true then -(v : Int) else v
theorem RetZ.from {w w0 : World} {z : Int} {e : Ending} {w' : World} (h : RetZ w z e w') (hb : Below w0.heap.size w0 w) : RetZ w0 z e w' := by
  obtain ⟨p, A, n, c, he, hz, hb'⟩ := h
  exact ⟨p, A, n, c, he, hz, hb.trans (hb'.mono hb.size)⟩
theorem Zs.val {w : World} {p : Bool} {A : Option Addr} {n c : Nat} {z : Int} (h : Zs w p A n c z) : sgn p z.natAbs = z := by
  unfold sgn
  rw [h.sign]
  by_cases hz : z < 0
  · simp [hz]; omega
  · simp [hz]; omega
theorem Ds.set {w : World} {A : Option Addr} {n c : Nat} {l : List Nat} (h : Ds w A n c l) {b : Nat} {x : Bool} (hb : w.cell? ⟨b, 0, none⟩ = some (.bool x)) (o : Nat) (u : Value) : Ds (w.setCell ⟨b, o, none⟩ u) A n c l :=
  ⟨h.len, h.cap, h.max, h.dig, fun hn => by
    obtain ⟨g, e, hg, hc⟩ := h.cells hn
    have hne : g ≠ b := by
      rintro rfl
      have := hc 0 hn
      rw [hb] at this
      cases this
    refine ⟨g, e, by simpa [World.setCell] using hg, fun j hj => ?_⟩
    rw [World.cell?_setCell_other w _ _ _ (fun e => hne (congrArg Addr.block e).symm)]
    exact hc j hj⟩
theorem Zs.set {w : World} {p : Bool} {A : Option Addr} {n c : Nat} {z : Int} (h : Zs w p A n c z) {b : Nat} {x : Bool} (hb : w.cell? ⟨b, 0, none⟩ = some (.bool x)) (o : Nat) (u : Value) : Zs (w.setCell ⟨b, o, none⟩ u) p A n c z := ⟨h.sign, h.ds.set hb o u⟩
theorem Zs.set2 {w : World} {p : Bool} {A : Option Addr} {n c : Nat} {z : Int} (h : Zs w p A n c z) {b : Nat} {x : Bool} (hb : w.cell? ⟨b, 0, none⟩ = some (.bool x)) (r : Bool) (u : Value) :
    Zs ((w.setCell ⟨b, 0, none⟩ (.bool r)).setCell ⟨b, 1, none⟩ u) p A n c z :=
  (h.set hb 0 (.bool r)).set (x := r) (World.cell?_setCell_same _ _ _ hb) 1 u
theorem retZ_mk {w w1 : World} {z : Int} {q : Bool} {B : Option Addr} {m d b : Nat} {x : Bool} (hz : Zs w1 q B m d z) (hw : Below w.heap.size w w1) (hbl : w.heap.size ≤ b) (hx : w1.cell? ⟨b, 0, none⟩ = some (.bool x)) :
    RetZ w z (.returned (.agg #[.bool q, .slice B m d])) ((w1.setCell ⟨b, 0, none⟩ (.bool q)).setCell ⟨b, 1, none⟩ (.slice B m d)) :=
  ⟨q, B, m, d, rfl, hz.set2 hx q _, (hw.setCell (p := ⟨b, 0, none⟩) hbl _).setCell (p := ⟨b, 1, none⟩) hbl _⟩
theorem Ds.drew {w : World} {A : Option Addr} {n c : Nat} {l : List Nat} (h : Ds w A n c l) : Ds w.drew A n c l := h.below (Below.refl _ _).drew
theorem Zs.drew {w : World} {p : Bool} {A : Option Addr} {n c : Nat} {z : Int} (h : Zs w p A n c z) : Zs w.drew p A n c z := ⟨h.sign, h.ds.drew⟩
structure Box (w : World) (b : Nat) (p : Bool) (v : Value) : Prop where
  lt : b < w.heap.size
  c0 : w.cell? ⟨b, 0, none⟩ = some (.bool p)
  c1 : w.cell? ⟨b, 1, none⟩ = some v
  f0 : w.frozen? ⟨b, 0, none⟩ = false
  f1 : w.frozen? ⟨b, 1, none⟩ = false
theorem Box.below {w w' : World} {b : Nat} {p : Bool} {v : Value} (h : Box w b p v) {B : Nat} (hb : Below B w w') (hB : b < B) : Box w' b p v :=
  ⟨Nat.lt_of_lt_of_le h.lt hb.size, (hb.cell (p := ⟨b, 0, none⟩) hB).trans h.c0, (hb.cell (p := ⟨b, 1, none⟩) hB).trans h.c1, (hb.frozen (p := ⟨b, 0, none⟩) hB).trans h.f0, (hb.frozen (p := ⟨b, 1, none⟩) hB).trans h.f1⟩
theorem Box.below' {w w' : World} {b : Nat} {p : Bool} {v : Value} (h : Box w b p v) (hb : Below w.heap.size w w') : Box w' b p v := h.below hb h.lt
theorem Box.new (w : World) (p : Bool) (v : Value) (t : TypeId) : Box (w.alloc (.cells #[.bool p, v] t)) w.heap.size p v :=
  ⟨by simp, by simp, by simp, by simp, by simp⟩
theorem Box.alloc {w : World} {b : Nat} {p : Bool} {v : Value} (h : Box w b p v) (o : Obj) : Box (w.alloc o) b p v := h.below' ((Below.refl _ _).alloc (Nat.le_refl _) o)
theorem Box.far {w : World} {b : Nat} {p : Bool} {v : Value} (h : Box w b p v) {b' : Nat} (hne : b' ≠ b) (o : Nat) (u : Value) : Box (w.setCell ⟨b', o, none⟩ u) b p v :=
  have hb : (w.setCell ⟨b', o, none⟩ u).heap[b]? = w.heap[b]? := Below.heap_setCell w ⟨b', o, none⟩ u b (fun e => hne e.symm)
  ⟨by simpa [World.setCell] using h.lt, (World.cell?_of_block (w := w) (a := ⟨b, 0, none⟩) hb).trans h.c0, (World.cell?_of_block (w := w) (a := ⟨b, 1, none⟩) hb).trans h.c1, (World.frozen?_of_block (w := w) (a := ⟨b, 0, none⟩) hb).trans h.f0, (World.frozen?_of_block (w := w) (a := ⟨b, 1, none⟩) hb).trans h.f1⟩
theorem Box.far2 {w : World} {b : Nat} {p : Bool} {v : Value} (h : Box w b p v) {b' : Nat} (hne : b' ≠ b) (u u' : Value) : Box ((w.setCell ⟨b', 0, none⟩ u).setCell ⟨b', 1, none⟩ u') b p v := (h.far hne 0 u).far hne 1 u'
theorem Box.drew {w : World} {b : Nat} {p : Bool} {v : Value} (h : Box w b p v) : Box w.drew b p v := h.below' (Below.refl _ _).drew
theorem Box.ret {w w1 : World} {z : Int} {q : Bool} {B : Option Addr} {m d b : Nat} {x : Bool} {v : Value} (h : Box w1 b x v) (hz : Zs w1 q B m d z) (hw : Below w.heap.size w w1) (hbl : w.heap.size ≤ b) :
    RetZ w z (.returned (.agg #[.bool q, .slice B m d])) ((w1.setCell ⟨b, 0, none⟩ (.bool q)).setCell ⟨b, 1, none⟩ (.slice B m d)) := retZ_mk hz hw hbl h.c0
theorem below_next {a b c : World} (h : Below a.heap.size a b) (k : Below b.heap.size b c) : Below a.heap.size a c := h.trans (k.mono h.size)
theorem Zs.len {w : World} {p : Bool} {A : Option Addr} {n c : Nat} {z : Int} (h : Zs w p A n c z) : (digs z.natAbs).length = n := h.ds.len
def RetN (w : World) (x : Int) (e : Ending) (w' : World) : Prop := e = .returned (.int .i64 x) ∧ Below w.heap.size w w'
theorem Zs.zero (w : World) : Zs w false none 0 0 0 := ⟨rfl, by rw [show (0 : Int).natAbs = 0 from rfl, digs_zero]; exact Ds.nil w⟩
theorem Box.self2 {w : World} {b : Nat} {p : Bool} {v : Value} (h : Box w b p v) (q : Bool) (u : Value) : Box ((w.setCell ⟨b, 0, none⟩ (.bool q)).setCell ⟨b, 1, none⟩ u) b q u := by
  refine ⟨by simpa [World.setCell] using h.lt, ?_, ?_, ?_, ?_⟩
  · rw [World.cell?_setCell_other _ _ _ _ (by simp)]
    exact World.cell?_setCell_same _ _ _ h.c0
  · refine World.cell?_setCell_same _ _ _ (u := v) ?_
    rw [World.cell?_setCell_other _ _ _ _ (by simp)]
    exact h.c1
  · simp [h.f0]
  · simp [h.f1]
end Go.Proofs.YtkkdclibbdeejaaDoor
