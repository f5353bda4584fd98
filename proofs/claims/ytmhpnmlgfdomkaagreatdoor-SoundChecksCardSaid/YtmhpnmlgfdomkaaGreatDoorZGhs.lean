import Derived.Test.YtmhpnmlgfdomkaaGreatDoorZGa
import Derived.Deep.Slices
import Derived.ChangeOld
import Derived.DataReads
import Derived.ProofKit
import Derived.Test.YtmhpnmlgfdomkaaGreatDoorZGw
import Derived.IntWalk
import Derived.Lib.Hide
import Derived.LoopTactic
import Derived.Outline
import Derived.OwnWalk
import Derived.BigQuiet
import Derived.Deep.QuietTactic
import Derived.Deep.RegionHeld3
set_option maxRecDepth 100000
set_option maxHeartbeats 64000000
namespace Go.Proofs.YtmhpnmlgfdomkaaGreatDoor
open Go.RowKit
structure Sp where
  mo : Int
  ki : Int
  wd : Int
  da : Int
  ti : Int
  re : Int
  deriving DecidableEq
def Sp.zero : Sp := ⟨0, 0, 0, 0, 0, 0⟩
def Sp.val (x : Sp) : Value := .agg #[.int .i64 x.mo, .int .i64 x.ki, .int .i64 x.wd, .int .i64 x.da, .int .i64 x.ti, .int .i64 x.re]
def Sp.in64 (x : Sp) : Prop := In64 x.mo ∧ In64 x.ki ∧ In64 x.wd ∧ In64 x.da ∧ In64 x.ti ∧ In64 x.re
structure Rl where
  name : ByteArray
  fr : Int
  last : Int
  sp : Sp
  save : Int
  letter : ByteArray
structure Er where
  off : Int
  kind : Int
  save : Int
  rules : ByteArray
  fmt : ByteArray
  til : Bool
  year : Int
  sp : Sp
structure Zn where
  name : ByteArray
  eras : List Er
structure Lk where
  target : ByteArray
  name : ByteArray
structure Sr where
  rules : List Rl
  zones : List Zn
  links : List Lk
def Sr.none : Sr := ⟨[], [], []⟩
def Rl.vals (x : Rl) : List Value := [.string x.name, .int .i64 x.fr, .int .i64 x.last, .int .i64 x.sp.mo, .int .i64 x.sp.ki, .int .i64 x.sp.wd, .int .i64 x.sp.da, .int .i64 x.sp.ti, .int .i64 x.sp.re, .int .i64 x.save, .string x.letter]
def Rl.val (x : Rl) : Value := .agg x.vals.toArray
def Er.vals (x : Er) : List Value := [.int .i64 x.off, .int .i64 x.kind, .int .i64 x.save, .string x.rules, .string x.fmt, .bool x.til, .int .i64 x.year, .int .i64 x.sp.mo, .int .i64 x.sp.ki, .int .i64 x.sp.wd, .int .i64 x.sp.da, .int .i64 x.sp.ti, .int .i64 x.sp.re]
def Er.val (x : Er) : Value := .agg x.vals.toArray
def Lk.vals (x : Lk) : List Value := [.string x.target, .string x.name]
def Zn.vals (z : Zn) (v : Value) : List Value := [.string z.name, v]
end Go.Proofs.YtmhpnmlgfdomkaaGreatDoor
namespace Go.Proofs.YtmhpnmlgfdomkaaGreatDoor
open Go.ChangeShapes Go.WideShapes Go.RowKit Go.Deep
structure Rs (k : Nat) (w : World) (A : Option Addr) (n c : Nat) (l : List (List Value)) : Prop where
  len : l.length = n
  cap : n ≤ c
  max : c ≤ maxLen
  cells : 0 < n → ∃ g o, A = some ⟨g, o, none⟩ ∧ g < w.heap.size ∧ ∀ (i : Nat) (h : i < l.length) (j : Nat) (u : Value), l[i][j]? = some u → w.cell? ⟨g, o + i * k + j, none⟩ = some u
theorem Rs.nil (k : Nat) (w : World) : Rs k w none 0 0 [] := ⟨rfl, Nat.le_refl _, by simp [maxLen], fun h => absurd h (by omega)⟩
theorem Rs.below {k : Nat} {w w' : World} {A : Option Addr} {n c : Nat} {l : List (List Value)} (h : Rs k w A n c l) (hb : Below w.heap.size w w') : Rs k w' A n c l :=
  ⟨h.len, h.cap, h.max, fun hn => by
    obtain ⟨g, o, e, hg, hc⟩ := h.cells hn
    exact ⟨g, o, e, Nat.lt_of_lt_of_le hg hb.size, fun i hi j u hu => (hb.cell (p := ⟨g, o + i * k + j, none⟩) hg).trans (hc i hi j u hu)⟩⟩
theorem addr_add (g o i : Nat) : ((⟨g, o, none⟩ : Addr).add i) = ⟨g, o + i, none⟩ := by
  unfold Addr.add
  split
  · rename_i h; rw [h]; rfl
  · rfl
section
variable {H : Type} {enc : TypeId × Value → H} {W : World} {spare : Nat → Bool} {held : Bool}
theorem open_rows {α : Type} {t e : TypeId} {k fuel : Nat} {cs : List Value} {x : DataW H × List MemPlace} (val : α → List Value) (good : α → Prop)
    (ht : Tryz.prog.underlying t = some (.slice e)) (hk : Tryz.prog.cellsOf e = k) (k0 : 0 < k)
    (dec : ∀ (f : Nat) (ds : List Value) (y : DataW H × List MemPlace), DataW.trod enc Tryz.prog W 0 spare held f e ds = some y → ∃ x : α, ds = val x ∧ good x)
    (h : DataW.trod enc Tryz.prog W 0 spare held fuel t cs = some x) :
    ∃ (A : Option Addr) (n c : Nat) (l : List α), cs = [.slice A n c] ∧ Rs k W A n c (l.map val) ∧ n ≤ maxLen ∧ ∀ x ∈ l, good x := by
  rcases open_slice ht h with ⟨hc, _⟩ | ⟨a, len, cap, m, q, D, Pl, hc, _, hl, hm, hmm, _, hel⟩
  · exact ⟨none, 0, 0, [], hc, Rs.nil k W, by simp [maxLen], fun x hx => absurd hx (by simp)⟩
  · have main : ∀ L, L ≤ len → ∃ l : List α, l.length = L ∧ (∀ x ∈ l, good x) ∧ ∀ (i : Nat) (hi : i < l.length), W.cells? 0 (a.add (i * k)) k = some (val l[i]) := by
      intro L
      induction L with
      | zero => intro _; exact ⟨[], rfl, fun x hx => absurd hx (by simp), fun i hi => absurd hi (by simp)⟩
      | succ L ih =>
        intro hL
        obtain ⟨l, l1, l2, l3⟩ := ih (by omega)
        obtain ⟨ds, h1, h2⟩ := hel L (by rw [hmm]; split <;> omega)
        obtain ⟨y, rfl, hy⟩ := dec _ _ _ h2
        refine ⟨l ++ [y], by simp [l1], fun x hx => ?_, fun i hi => ?_⟩
        · rcases List.mem_append.1 hx with hx | hx
          · exact l2 x hx
          · rw [List.mem_singleton.1 hx]; exact hy
        · by_cases e : i < l.length
          · rw [List.getElem_append_left e]; exact l3 i e
          · have e2 : i = L := by simp at hi; omega
            subst e2
            rw [List.getElem_append_right (by omega)]
            simp only [l1, Nat.sub_self, List.getElem_cons_zero]
            rw [hk] at h1
            exact h1
    obtain ⟨l, l1, l2, l3⟩ := main len (Nat.le_refl _)
    refine ⟨some a, len, cap, l, hc, ⟨by simp [l1], hl, hm, fun h0 => ?_⟩, by omega, l2⟩
    obtain ⟨g, o, sp⟩ := a
    have c0 := l3 0 (by omega)
    have b0 := World.cells?_block c0 k0
    obtain ⟨_, z0, z1⟩ := World.cells?_some c0
    obtain rfl : sp = none := by
      cases sp with
      | none => rfl
      | some q =>
        have := z1 0 k0
        rw [List.getElem?_eq_getElem (by omega), Nat.zero_mul, show ((⟨g, o, some q⟩ : Addr).add 0) = ⟨g, o, some q⟩ from rfl, show ((⟨g, o, some q⟩ : Addr).add 0) = ⟨g, o, some q⟩ from rfl] at this
        unfold World.cell? at this
        split at this <;> simp_all
    have b1 : g < W.heap.size := by
      rw [addr_add] at b0
      exact b0
    refine ⟨g, o, rfl, b1, fun i hi j u hu => ?_⟩
    have hi' : i < l.length := by simpa using hi
    obtain ⟨_, y0, y1⟩ := World.cells?_some (l3 i hi')
    rw [List.getElem_map] at hu
    have hj : j < k := by
      have := (List.getElem?_eq_some_iff.1 hu).1
      omega
    have := y1 j hj
    rw [addr_add, addr_add, hu] at this
    exact this
theorem str_cell {e : TypeId} {n : Nat} {cs : List Value} {x : DataW H × List MemPlace} (he : Tryz.prog.underlying e = some .string) (h : DataW.trod enc Tryz.prog W 0 spare held n e cs = some x) : ∃ s : ByteArray, cs = [.string s] ∧ s.size ≤ maxLen := by
  obtain ⟨s, e1, _, e3⟩ := DataW.trod_string he h
  exact ⟨s, e1, e3⟩
theorem num_cell {e : TypeId} {n : Nat} {cs : List Value} {x : DataW H × List MemPlace} (he : Tryz.prog.underlying e = some (.int .i64)) (h : DataW.trod enc Tryz.prog W 0 spare held n e cs = some x) : ∃ k : Int, cs = [.int .i64 k] ∧ In64 k := by
  obtain ⟨k, e1, _, e3⟩ := DataW.trod_int he h
  exact ⟨k, e1, in64 e3⟩
theorem bool_cell {e : TypeId} {n : Nat} {cs : List Value} {x : DataW H × List MemPlace} (he : Tryz.prog.underlying e = some .bool) (h : DataW.trod enc Tryz.prog W 0 spare held n e cs = some x) : ∃ b : Bool, cs = [.bool b] := by
  obtain ⟨b, e1, _⟩ := DataW.trod_bool he h
  exact ⟨b, e1⟩
end
end Go.Proofs.YtmhpnmlgfdomkaaGreatDoor
namespace Go.Proofs.YtmhpnmlgfdomkaaGreatDoor
open Go.ChangeShapes Go.WideShapes Go.RowKit Go.Deep
set_option linter.unusedSimpArgs false
def Rl.in64 (x : Rl) : Prop := x.name.size ≤ maxLen ∧ In64 x.fr ∧ In64 x.last ∧ x.sp.in64 ∧ In64 x.save ∧ x.letter.size ≤ maxLen
def Er.in64 (x : Er) : Prop := In64 x.off ∧ In64 x.kind ∧ In64 x.save ∧ x.rules.size ≤ maxLen ∧ x.fmt.size ≤ maxLen ∧ In64 x.year ∧ x.sp.in64
def Lk.in64 (x : Lk) : Prop := x.target.size ≤ maxLen ∧ x.name.size ≤ maxLen
theorem list2 {α : Type} {l : List α} (h : l.length = 2) : ∃ c0 c1, l = [c0, c1] := by
  match l, h with
  | [c0, c1], _ => exact ⟨c0, c1, rfl⟩
theorem list3 {α : Type} {l : List α} (h : l.length = 3) : ∃ c0 c1 c2, l = [c0, c1, c2] := by
  match l, h with
  | [c0, c1, c2], _ => exact ⟨c0, c1, c2, rfl⟩
theorem list6 {α : Type} {l : List α} (h : l.length = 6) : ∃ c0 c1 c2 c3 c4 c5, l = [c0, c1, c2, c3, c4, c5] := by
  match l, h with
  | [c0, c1, c2, c3, c4, c5], _ => exact ⟨c0, c1, c2, c3, c4, c5, rfl⟩
theorem list8 {α : Type} {l : List α} (h : l.length = 8) : ∃ c0 c1 c2 c3 c4 c5 c6 c7, l = [c0, c1, c2, c3, c4, c5, c6, c7] := by
  match l, h with
  | [c0, c1, c2, c3, c4, c5, c6, c7], _ => exact ⟨c0, c1, c2, c3, c4, c5, c6, c7, rfl⟩
theorem list11 {α : Type} {l : List α} (h : l.length = 11) : ∃ c0 c1 c2 c3 c4 c5 c6 c7 c8 c9 c10, l = [c0, c1, c2, c3, c4, c5, c6, c7, c8, c9, c10] := by
  match l, h with
  | [c0, c1, c2, c3, c4, c5, c6, c7, c8, c9, c10], _ => exact ⟨c0, c1, c2, c3, c4, c5, c6, c7, c8, c9, c10, rfl⟩
theorem list13 {α : Type} {l : List α} (h : l.length = 13) : ∃ c0 c1 c2 c3 c4 c5 c6 c7 c8 c9 c10 c11 c12, l = [c0, c1, c2, c3, c4, c5, c6, c7, c8, c9, c10, c11, c12] := by
  match l, h with
  | [c0, c1, c2, c3, c4, c5, c6, c7, c8, c9, c10, c11, c12], _ => exact ⟨c0, c1, c2, c3, c4, c5, c6, c7, c8, c9, c10, c11, c12, rfl⟩
theorem cells_s : Tryz.prog.cellsOf 9 = 1 := by kernel_rfl
theorem cells_i : Tryz.prog.cellsOf 3 = 1 := by kernel_rfl
theorem cells_b : Tryz.prog.cellsOf 4 = 1 := by kernel_rfl
theorem cells_p : Tryz.prog.cellsOf 34 = 6 := by kernel_rfl
section
variable {H : Type} {enc : TypeId × Value → H} {W : World} {spare : Nat → Bool} {held : Bool}
theorem dec_spot {f : Nat} {cs : List Value} {y : DataW H × List MemPlace} (h : DataW.trod enc Tryz.prog W 0 spare held f 34 cs = some y) : ∃ x : Sp, cs = [.int .i64 x.mo, .int .i64 x.ki, .int .i64 x.wd, .int .i64 x.da, .int .i64 x.ti, .int .i64 x.re] ∧ x.in64 := by
  obtain ⟨xs, n, _, _, hlen, hl, hel⟩ := DataW.trod_struct Tryz.underlying34 h
  rw [show Tryz.prog.cellsOf 34 = 6 from by kernel_rfl] at hlen
  obtain ⟨c0, c1, c2, c3, c4, c5, rfl⟩ := list6 hlen
  obtain ⟨y0, y1, y2, y3, y4, y5, rfl⟩ := list6 hl
  have e0 := hel 0 _ rfl
  simp [cells_s, cells_i, cells_b, cells_p] at e0
  obtain ⟨k0, a0, i0⟩ := num_cell Tryz.underlying3 e0
  have e1 := hel 1 _ rfl
  simp [cells_s, cells_i, cells_b, cells_p] at e1
  obtain ⟨k1, a1, i1⟩ := num_cell Tryz.underlying3 e1
  have e2 := hel 2 _ rfl
  simp [cells_s, cells_i, cells_b, cells_p] at e2
  obtain ⟨k2, a2, i2⟩ := num_cell Tryz.underlying3 e2
  have e3 := hel 3 _ rfl
  simp [cells_s, cells_i, cells_b, cells_p] at e3
  obtain ⟨k3, a3, i3⟩ := num_cell Tryz.underlying3 e3
  have e4 := hel 4 _ rfl
  simp [cells_s, cells_i, cells_b, cells_p] at e4
  obtain ⟨k4, a4, i4⟩ := num_cell Tryz.underlying3 e4
  have e5 := hel 5 _ rfl
  simp [cells_s, cells_i, cells_b, cells_p] at e5
  obtain ⟨k5, a5, i5⟩ := num_cell Tryz.underlying3 e5
  simp only [List.cons.injEq, and_true] at a0 a1 a2 a3 a4 a5
  subst a0
  subst a1
  subst a2
  subst a3
  subst a4
  subst a5
  exact ⟨⟨k0, k1, k2, k3, k4, k5⟩, rfl, i0, i1, i2, i3, i4, i5⟩
theorem dec_rule {f : Nat} {cs : List Value} {y : DataW H × List MemPlace} (h : DataW.trod enc Tryz.prog W 0 spare held f 36 cs = some y) : ∃ x : Rl, cs = x.vals ∧ x.in64 := by
  obtain ⟨xs, n, _, _, hlen, hl, hel⟩ := DataW.trod_struct Tryz.underlying36 h
  rw [show Tryz.prog.cellsOf 36 = 11 from by kernel_rfl] at hlen
  obtain ⟨c0, c1, c2, c3, c4, c5, c6, c7, c8, c9, c10, rfl⟩ := list11 hlen
  obtain ⟨y0, y1, y2, y3, y4, y5, rfl⟩ := list6 hl
  have e0 := hel 0 _ rfl
  simp [cells_s, cells_i, cells_b, cells_p] at e0
  obtain ⟨k0, a0, i0⟩ := str_cell Tryz.underlying9 e0
  have e1 := hel 1 _ rfl
  simp [cells_s, cells_i, cells_b, cells_p] at e1
  obtain ⟨k1, a1, i1⟩ := num_cell Tryz.underlying3 e1
  have e2 := hel 2 _ rfl
  simp [cells_s, cells_i, cells_b, cells_p] at e2
  obtain ⟨k2, a2, i2⟩ := num_cell Tryz.underlying3 e2
  have e3 := hel 3 _ rfl
  simp [cells_s, cells_i, cells_b, cells_p] at e3
  obtain ⟨k3, a3, i3⟩ := dec_spot e3
  have e4 := hel 4 _ rfl
  simp [cells_s, cells_i, cells_b, cells_p] at e4
  obtain ⟨k4, a4, i4⟩ := num_cell Tryz.underlying3 e4
  have e5 := hel 5 _ rfl
  simp [cells_s, cells_i, cells_b, cells_p] at e5
  obtain ⟨k5, a5, i5⟩ := str_cell Tryz.underlying9 e5
  simp only [List.cons.injEq, and_true] at a0 a1 a2 a3 a4 a5
  subst a0
  subst a1
  subst a2
  obtain ⟨rfl, rfl, rfl, rfl, rfl, rfl⟩ := a3
  subst a4
  subst a5
  exact ⟨⟨k0, k1, k2, k3, k4, k5⟩, rfl, i0, i1, i2, i3, i4, i5⟩
theorem dec_era {f : Nat} {cs : List Value} {y : DataW H × List MemPlace} (h : DataW.trod enc Tryz.prog W 0 spare held f 41 cs = some y) : ∃ x : Er, cs = x.vals ∧ x.in64 := by
  obtain ⟨xs, n, _, _, hlen, hl, hel⟩ := DataW.trod_struct Tryz.underlying41 h
  rw [show Tryz.prog.cellsOf 41 = 13 from by kernel_rfl] at hlen
  obtain ⟨c0, c1, c2, c3, c4, c5, c6, c7, c8, c9, c10, c11, c12, rfl⟩ := list13 hlen
  obtain ⟨y0, y1, y2, y3, y4, y5, y6, y7, rfl⟩ := list8 hl
  have e0 := hel 0 _ rfl
  simp [cells_s, cells_i, cells_b, cells_p] at e0
  obtain ⟨k0, a0, i0⟩ := num_cell Tryz.underlying3 e0
  have e1 := hel 1 _ rfl
  simp [cells_s, cells_i, cells_b, cells_p] at e1
  obtain ⟨k1, a1, i1⟩ := num_cell Tryz.underlying3 e1
  have e2 := hel 2 _ rfl
  simp [cells_s, cells_i, cells_b, cells_p] at e2
  obtain ⟨k2, a2, i2⟩ := num_cell Tryz.underlying3 e2
  have e3 := hel 3 _ rfl
  simp [cells_s, cells_i, cells_b, cells_p] at e3
  obtain ⟨k3, a3, i3⟩ := str_cell Tryz.underlying9 e3
  have e4 := hel 4 _ rfl
  simp [cells_s, cells_i, cells_b, cells_p] at e4
  obtain ⟨k4, a4, i4⟩ := str_cell Tryz.underlying9 e4
  have e5 := hel 5 _ rfl
  simp [cells_s, cells_i, cells_b, cells_p] at e5
  obtain ⟨k5, a5⟩ := bool_cell Tryz.underlying4 e5
  have e6 := hel 6 _ rfl
  simp [cells_s, cells_i, cells_b, cells_p] at e6
  obtain ⟨k6, a6, i6⟩ := num_cell Tryz.underlying3 e6
  have e7 := hel 7 _ rfl
  simp [cells_s, cells_i, cells_b, cells_p] at e7
  obtain ⟨k7, a7, i7⟩ := dec_spot e7
  simp only [List.cons.injEq, and_true] at a0 a1 a2 a3 a4 a5 a6 a7
  subst a0
  subst a1
  subst a2
  subst a3
  subst a4
  subst a5
  subst a6
  obtain ⟨rfl, rfl, rfl, rfl, rfl, rfl⟩ := a7
  exact ⟨⟨k0, k1, k2, k3, k4, k5, k6, k7⟩, rfl, i0, i1, i2, i3, i4, i6, i7⟩
theorem dec_link {f : Nat} {cs : List Value} {y : DataW H × List MemPlace} (h : DataW.trod enc Tryz.prog W 0 spare held f 43 cs = some y) : ∃ x : Lk, cs = x.vals ∧ x.in64 := by
  obtain ⟨xs, n, _, _, hlen, hl, hel⟩ := DataW.trod_struct Tryz.underlying43 h
  rw [show Tryz.prog.cellsOf 43 = 2 from by kernel_rfl] at hlen
  obtain ⟨c0, c1, rfl⟩ := list2 hlen
  obtain ⟨y0, y1, rfl⟩ := list2 hl
  have e0 := hel 0 _ rfl
  simp [cells_s, cells_i, cells_b, cells_p] at e0
  obtain ⟨k0, a0, i0⟩ := str_cell Tryz.underlying9 e0
  have e1 := hel 1 _ rfl
  simp [cells_s, cells_i, cells_b, cells_p] at e1
  obtain ⟨k1, a1, i1⟩ := str_cell Tryz.underlying9 e1
  simp only [List.cons.injEq, and_true] at a0 a1
  subst a0
  subst a1
  exact ⟨⟨k0, k1⟩, rfl, i0, i1⟩
structure Hd where
  a : Option Addr
  n : Nat
  c : Nat
def Hd.val (h : Hd) : Value := .slice h.a h.n h.c
abbrev Ze : Type := Zn × Hd
def Ze.vals (p : Ze) : List Value := [.string p.1.name, p.2.val]
def eraRows (w : World) (p : Ze) : Prop := Rs 13 w p.2.a p.2.n p.2.c (p.1.eras.map Er.vals)
def Zn.in64 (z : Zn) : Prop := z.name.size ≤ maxLen ∧ z.eras.length ≤ maxLen ∧ ∀ x ∈ z.eras, x.in64
theorem dec_zone {f : Nat} {cs : List Value} {y : DataW H × List MemPlace} (h : DataW.trod enc Tryz.prog W 0 spare held f 39 cs = some y) : ∃ p : Ze, cs = p.vals ∧ eraRows W p ∧ p.1.in64 := by
  obtain ⟨xs, n, _, _, hlen, hl, hel⟩ := DataW.trod_struct Tryz.underlying39 h
  rw [show Tryz.prog.cellsOf 39 = 2 from by kernel_rfl] at hlen
  obtain ⟨c0, c1, rfl⟩ := list2 hlen
  obtain ⟨y0, y1, rfl⟩ := list2 hl
  have e0 := hel 0 _ rfl
  have e1 := hel 1 _ rfl
  simp [cells_s, show Tryz.prog.cellsOf 37 = 1 from by kernel_rfl] at e0 e1
  obtain ⟨k0, a0, i0⟩ := str_cell Tryz.underlying9 e0
  obtain ⟨A, m, c, l, a1, r1, l1, g1⟩ := open_rows (k := 13) Er.vals Er.in64 Tryz.underlying37 (by kernel_rfl) (by decide) (fun _ _ _ h => dec_era h) e1
  simp only [List.cons.injEq, and_true] at a0 a1
  subst a0
  subst a1
  exact ⟨(⟨k0, l⟩, ⟨A, m, c⟩), rfl, r1, i0, by have := r1.len; simp at this; show l.length ≤ maxLen; omega, g1⟩
structure SrcV (w : World) (S : Sr) (r z l : Hd) (ze : List Ze) : Prop where
  rules : Rs 11 w r.a r.n r.c (S.rules.map Rl.vals)
  zones : Rs 2 w z.a z.n z.c (ze.map Ze.vals)
  links : Rs 2 w l.a l.n l.c (S.links.map Lk.vals)
  eras : ∀ p ∈ ze, eraRows w p
  all : ze.map (·.1) = S.zones
theorem SrcV.below {w w' : World} {S : Sr} {r z l : Hd} {ze : List Ze} (h : SrcV w S r z l ze) (hb : Below w.heap.size w w') : SrcV w' S r z l ze :=
  ⟨h.rules.below hb, h.zones.below hb, h.links.below hb, fun p hp => (h.eras p hp).below hb, h.all⟩
def Sr.in64 (S : Sr) : Prop := (∀ x ∈ S.rules, x.in64) ∧ (∀ z ∈ S.zones, z.in64) ∧ (∀ x ∈ S.links, x.in64)
theorem open_source {base : Nat} {r : Reach} {v : Value} {d : DataW H} {p : List MemPlace} (hval : Value.okWide Tryz.prog W r base 26 v) (h : DataW.Trod enc Tryz.prog W 0 spare held 26 v d p) :
    ∃ (S : Sr) (hr hz hl : Hd) (ze : List Ze), v = .agg #[hr.val, hz.val, hl.val] ∧ SrcV W S hr hz hl ze ∧ S.in64 := by
  obtain ⟨cs, rfl, hsz⟩ := okWide_struct Tryz.underlying26 hval
  obtain ⟨fuel, hf⟩ := h
  obtain ⟨xs, n, _, _, hlen, hl, hel⟩ := DataW.trod_struct Tryz.underlying26 hf
  rw [show Tryz.prog.cellsOf 26 = 3 from by kernel_rfl] at hsz
  obtain ⟨c0, c1, c2, hcs⟩ := list3 (l := cs.toList) (by simpa using hsz)
  obtain rfl : cs = #[c0, c1, c2] := by rw [← hcs]
  obtain ⟨y0, y1, y2, rfl⟩ := list3 hl
  have e0 := hel 0 _ rfl
  have e1 := hel 1 _ rfl
  have e2 := hel 2 _ rfl
  simp [Value.cells, show Tryz.prog.cellsOf 22 = 1 from by kernel_rfl, show Tryz.prog.cellsOf 23 = 1 from by kernel_rfl, show Tryz.prog.cellsOf 24 = 1 from by kernel_rfl] at e0 e1 e2
  obtain ⟨A0, n0, k0, l0, a0, r0, _, g0⟩ := open_rows (k := 11) Rl.vals Rl.in64 Tryz.underlying22 (by kernel_rfl) (by decide) (fun _ _ _ h => dec_rule h) e0
  obtain ⟨A1, n1, k1, l1, a1, r1, _, g1⟩ := open_rows (k := 2) Ze.vals (fun p => eraRows W p ∧ p.1.in64) Tryz.underlying23 (by kernel_rfl) (by decide) (fun _ _ _ h => dec_zone h) e1
  obtain ⟨A2, n2, k2, l2, a2, r2, _, g2⟩ := open_rows (k := 2) Lk.vals Lk.in64 Tryz.underlying24 (by kernel_rfl) (by decide) (fun _ _ _ h => dec_link h) e2
  simp only [List.cons.injEq, and_true] at a0 a1 a2
  subst a0
  subst a1
  subst a2
  refine ⟨⟨l0, l1.map (·.1), l2⟩, ⟨A0, n0, k0⟩, ⟨A1, n1, k1⟩, ⟨A2, n2, k2⟩, l1, rfl, ⟨r0, r1, r2, fun p hp => (g1 p hp).1, rfl⟩, g0, fun z hz => ?_, g2⟩
  obtain ⟨p, hp, rfl⟩ := List.mem_map.1 hz
  exact (g1 p hp).2
end
end Go.Proofs.YtmhpnmlgfdomkaaGreatDoor
namespace Go.Proofs.YtmhpnmlgfdomkaaGreatDoor
open Go.RowKit
theorem row_at {k : Nat} {w : World} {g o : Nat} {l : List (List Value)} (h : ∀ (i : Nat) (h : i < l.length) (j : Nat) (u : Value), l[i][j]? = some u → w.cell? ⟨g, o + i * k + j, none⟩ = some u) {i : Nat} {r : List Value} (hi : l[i]? = some r) (j : Nat) (u : Value) (hj : r[j]? = some u) : w.cell? ⟨g, o + i * k + j, none⟩ = some u := by
  obtain ⟨hl, e⟩ := List.getElem?_eq_some_iff.1 hi
  exact h i hl j u (by rw [e]; exact hj)
theorem int_is {k : IntKind} {a b : Int} (h : a = b) : Value.int k a = Value.int k b := by rw [h]
end Go.Proofs.YtmhpnmlgfdomkaaGreatDoor
