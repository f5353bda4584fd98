/- Arguments opened: spots, rules, eras, links, zones, a source. -/
import Derived.Test.YtkkdclibbdeejaaDoorXHdata
import Derived.Test.YtkkdclibbdeejaaDoorXHrow
set_option maxRecDepth 100000
set_option maxHeartbeats 64000000
namespace Go.Proofs.YtkkdclibbdeejaaDoor
open Go.ChangeShapes Go.WideShapes Go.RowKit Go.Deep
set_option linter.unusedSimpArgs false
def Rl.in64 (x : Rl) : Prop := x.name.size ≤ maxLen ∧ In64 x.fr ∧ In64 x.last ∧ x.sp.in64 ∧ In64 x.save ∧ x.letter.size ≤ maxLen
def Er.in64 (x : Er) : Prop := In64 x.off ∧ In64 x.kind ∧ In64 x.save ∧ x.rules.size ≤ maxLen ∧ x.fmt.size ≤ maxLen ∧ In64 x.year ∧ x.sp.in64
def Lk.in64 (x : Lk) : Prop := x.target.size ≤ maxLen ∧ x.name.size ≤ maxLen
theorem list6 {α : Type} {l : List α} (h : l.length = 6) : ∃ c0 c1 c2 c3 c4 c5, l = [c0, c1, c2, c3, c4, c5] := by
  match l, h with
  | [c0, c1, c2, c3, c4, c5], _ => exact ⟨c0, c1, c2, c3, c4, c5, rfl⟩
theorem list11 {α : Type} {l : List α} (h : l.length = 11) : ∃ c0 c1 c2 c3 c4 c5 c6 c7 c8 c9 c10, l = [c0, c1, c2, c3, c4, c5, c6, c7, c8, c9, c10] := by
  match l, h with
  | [c0, c1, c2, c3, c4, c5, c6, c7, c8, c9, c10], _ => exact ⟨c0, c1, c2, c3, c4, c5, c6, c7, c8, c9, c10, rfl⟩
theorem cells_s : Tryd.prog.cellsOf 9 = 1 := by kernel_rfl
theorem cells_i : Tryd.prog.cellsOf 3 = 1 := by kernel_rfl
theorem cells_b : Tryd.prog.cellsOf 4 = 1 := by kernel_rfl
theorem cells_p : Tryd.prog.cellsOf 31 = 6 := by kernel_rfl
section
variable {H : Type} {enc : TypeId × Value → H} {W : World} {spare : Nat → Bool} {held : Bool}
theorem dec_spot {f : Nat} {cs : List Value} {y : DataW H × List MemPlace} (h : DataW.trod enc Tryd.prog W 0 spare held f 31 cs = some y) : ∃ x : Sp, cs = [.int .i64 x.mo, .int .i64 x.ki, .int .i64 x.wd, .int .i64 x.da, .int .i64 x.ti, .int .i64 x.re] ∧ x.in64 := by
  obtain ⟨xs, n, _, _, hlen, hl, hel⟩ := DataW.trod_struct Tryd.underlying31 h
  rw [show Tryd.prog.cellsOf 31 = 6 from by kernel_rfl] at hlen
  obtain ⟨c0, c1, c2, c3, c4, c5, rfl⟩ := list6 hlen
  obtain ⟨y0, y1, y2, y3, y4, y5, rfl⟩ := list6 hl
  have e0 := hel 0 _ rfl
  simp [cells_s, cells_i, cells_b, cells_p] at e0
  obtain ⟨k0, a0, i0⟩ := num_cell Tryd.underlying3 e0
  have e1 := hel 1 _ rfl
  simp [cells_s, cells_i, cells_b, cells_p] at e1
  obtain ⟨k1, a1, i1⟩ := num_cell Tryd.underlying3 e1
  have e2 := hel 2 _ rfl
  simp [cells_s, cells_i, cells_b, cells_p] at e2
  obtain ⟨k2, a2, i2⟩ := num_cell Tryd.underlying3 e2
  have e3 := hel 3 _ rfl
  simp [cells_s, cells_i, cells_b, cells_p] at e3
  obtain ⟨k3, a3, i3⟩ := num_cell Tryd.underlying3 e3
  have e4 := hel 4 _ rfl
  simp [cells_s, cells_i, cells_b, cells_p] at e4
  obtain ⟨k4, a4, i4⟩ := num_cell Tryd.underlying3 e4
  have e5 := hel 5 _ rfl
  simp [cells_s, cells_i, cells_b, cells_p] at e5
  obtain ⟨k5, a5, i5⟩ := num_cell Tryd.underlying3 e5
  simp only [List.cons.injEq, and_true] at a0 a1 a2 a3 a4 a5
  subst a0
  subst a1
  subst a2
  subst a3
  subst a4
  subst a5
  exact ⟨⟨k0, k1, k2, k3, k4, k5⟩, rfl, i0, i1, i2, i3, i4, i5⟩
theorem dec_rule {f : Nat} {cs : List Value} {y : DataW H × List MemPlace} (h : DataW.trod enc Tryd.prog W 0 spare held f 33 cs = some y) : ∃ x : Rl, cs = x.vals ∧ x.in64 := by
  obtain ⟨xs, n, _, _, hlen, hl, hel⟩ := DataW.trod_struct Tryd.underlying33 h
  rw [show Tryd.prog.cellsOf 33 = 11 from by kernel_rfl] at hlen
  obtain ⟨c0, c1, c2, c3, c4, c5, c6, c7, c8, c9, c10, rfl⟩ := list11 hlen
  obtain ⟨y0, y1, y2, y3, y4, y5, rfl⟩ := list6 hl
  have e0 := hel 0 _ rfl
  simp [cells_s, cells_i, cells_b, cells_p] at e0
  obtain ⟨k0, a0, i0⟩ := str_cell Tryd.underlying9 e0
  have e1 := hel 1 _ rfl
  simp [cells_s, cells_i, cells_b, cells_p] at e1
  obtain ⟨k1, a1, i1⟩ := num_cell Tryd.underlying3 e1
  have e2 := hel 2 _ rfl
  simp [cells_s, cells_i, cells_b, cells_p] at e2
  obtain ⟨k2, a2, i2⟩ := num_cell Tryd.underlying3 e2
  have e3 := hel 3 _ rfl
  simp [cells_s, cells_i, cells_b, cells_p] at e3
  obtain ⟨k3, a3, i3⟩ := dec_spot e3
  have e4 := hel 4 _ rfl
  simp [cells_s, cells_i, cells_b, cells_p] at e4
  obtain ⟨k4, a4, i4⟩ := num_cell Tryd.underlying3 e4
  have e5 := hel 5 _ rfl
  simp [cells_s, cells_i, cells_b, cells_p] at e5
  obtain ⟨k5, a5, i5⟩ := str_cell Tryd.underlying9 e5
  simp only [List.cons.injEq, and_true] at a0 a1 a2 a3 a4 a5
  subst a0
  subst a1
  subst a2
  obtain ⟨rfl, rfl, rfl, rfl, rfl, rfl⟩ := a3
  subst a4
  subst a5
  exact ⟨⟨k0, k1, k2, k3, k4, k5⟩, rfl, i0, i1, i2, i3, i4, i5⟩
structure Hd where
  a : Option Addr
  n : Nat
  c : Nat
def Hd.val (h : Hd) : Value := .slice h.a h.n h.c
abbrev Ze : Type := Zn × Hd
def Ze.vals (p : Ze) : List Value := [.string p.1.name, p.2.val]
def eraRows (w : World) (p : Ze) : Prop := Rs 13 w p.2.a p.2.n p.2.c (p.1.eras.map Er.vals)
def Zn.in64 (z : Zn) : Prop := z.name.size ≤ maxLen ∧ z.eras.length ≤ maxLen ∧ ∀ x ∈ z.eras, x.in64
structure SrcV (w : World) (S : Sr) (r z l : Hd) (ze : List Ze) : Prop where
  rules : Rs 11 w r.a r.n r.c (S.rules.map Rl.vals)
  zones : Rs 2 w z.a z.n z.c (ze.map Ze.vals)
  links : Rs 2 w l.a l.n l.c (S.links.map Lk.vals)
  eras : ∀ p ∈ ze, eraRows w p
  all : ze.map (·.1) = S.zones
theorem SrcV.below {w w' : World} {S : Sr} {r z l : Hd} {ze : List Ze} (h : SrcV w S r z l ze) (hb : Below w.heap.size w w') : SrcV w' S r z l ze :=
  ⟨h.rules.below hb, h.zones.below hb, h.links.below hb, fun p hp => (h.eras p hp).below hb, h.all⟩
def Sr.in64 (S : Sr) : Prop := (∀ x ∈ S.rules, x.in64) ∧ (∀ z ∈ S.zones, z.in64) ∧ (∀ x ∈ S.links, x.in64)
end
end Go.Proofs.YtkkdclibbdeejaaDoor
