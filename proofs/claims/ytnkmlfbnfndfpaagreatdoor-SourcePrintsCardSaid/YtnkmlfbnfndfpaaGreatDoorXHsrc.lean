/- Arguments opened: spots, rules, eras, links, zones, a source. -/
import Derived.Test.YtnkmlfbnfndfpaaGreatDoorXHdata
import Derived.Test.YtnkmlfbnfndfpaaGreatDoorXHrow
set_option maxRecDepth 100000
set_option maxHeartbeats 64000000
namespace Go.Proofs.YtnkmlfbnfndfpaaGreatDoor
open Go.ChangeShapes Go.WideShapes Go.RowKit Go.Deep
set_option linter.unusedSimpArgs false
def Rl.in64 (x : Rl) : Prop := x.name.size ≤ maxLen ∧ In64 x.fr ∧ In64 x.last ∧ x.sp.in64 ∧ In64 x.save ∧ x.letter.size ≤ maxLen
def Er.in64 (x : Er) : Prop := In64 x.off ∧ In64 x.kind ∧ In64 x.save ∧ x.rules.size ≤ maxLen ∧ x.fmt.size ≤ maxLen ∧ In64 x.year ∧ x.sp.in64
def Lk.in64 (x : Lk) : Prop := x.target.size ≤ maxLen ∧ x.name.size ≤ maxLen
theorem list2 {α : Type} {l : List α} (h : l.length = 2) : ∃ c0 c1, l = [c0, c1] := by
  match l, h with
  | [c0, c1], _ => exact ⟨c0, c1, rfl⟩
theorem list3 {α : Type} {l : List α} (h : l.length = 3) : ∃ c0 c1 c2, l = [c0, c1, c2] := by
  match l, h with
  | [c0, c1, c2], _ => exact ⟨c0, c1, c2, rfl⟩
theorem list6 {α : Type} {l : List α} (h : l.length = 6) : ∃ c0 c1 c2 c3 c4 c5, l = [c0, c1, c2, c3, c4, c5] := by
  match l, h with
  | [c0, c1, c2, c3, c4, c5], _ => exact ⟨c0, c1, c2, c3, c4, c5, rfl⟩
theorem list8 {α : Type} {l : List α} (h : l.length = 8) : ∃ c0 c1 c2 c3 c4 c5 c6 c7, l = [c0, c1, c2, c3, c4, c5, c6, c7] := by
  match l, h with
  | [c0, c1, c2, c3, c4, c5, c6, c7], _ => exact ⟨c0, c1, c2, c3, c4, c5, c6, c7, rfl⟩
theorem list11 {α : Type} {l : List α} (h : l.length = 11) : ∃ c0 c1 c2 c3 c4 c5 c6 c7 c8 c9 c10, l = [c0, c1, c2, c3, c4, c5, c6, c7, c8, c9, c10] := by
  match l, h with
  | [c0, c1, c2, c3, c4, c5, c6, c7, c8, c9, c10], _ => exact ⟨c0, c1, c2, c3, c4, c5, c6, c7, c8, c9, c10, rfl⟩
theorem list13 {α : Type} {l : List α} (h : l.length = 13) : ∃ c0 c1 c2 c3 c4 c5 c6 c7 c8 c9 c10 c11 c12, l = [c0, c1, c2, c3, c4, c5, c6, c7, c8, c9, c10, c11, c12] := by
  match l, h with
  | [c0, c1, c2, c3, c4, c5, c6, c7, c8, c9, c10, c11, c12], _ => exact ⟨c0, c1, c2, c3, c4, c5, c6, c7, c8, c9, c10, c11, c12, rfl⟩
theorem cells_s : Tryz.prog.cellsOf 9 = 1 := by kernel_rfl
theorem cells_i : Tryz.prog.cellsOf 3 = 1 := by kernel_rfl
theorem cells_b : Tryz.prog.cellsOf 4 = 1 := by kernel_rfl
theorem cells_p : Tryz.prog.cellsOf 50 = 6 := by kernel_rfl
section
variable {H : Type} {enc : TypeId × Value → H} {W : World} {spare : Nat → Bool} {held : Bool}
theorem dec_spot {f : Nat} {cs : List Value} {y : DataW H × List MemPlace} (h : DataW.trod enc Tryz.prog W 0 spare held f 50 cs = some y) : ∃ x : Sp, cs = [.int .i64 x.mo, .int .i64 x.ki, .int .i64 x.wd, .int .i64 x.da, .int .i64 x.ti, .int .i64 x.re] ∧ x.in64 := by
  obtain ⟨xs, n, _, _, hlen, hl, hel⟩ := DataW.trod_struct Tryz.underlying50 h
  rw [show Tryz.prog.cellsOf 50 = 6 from by kernel_rfl] at hlen
  obtain ⟨c0, c1, c2, c3, c4, c5, rfl⟩ := list6 hlen
  obtain ⟨y0, y1, y2, y3, y4, y5, rfl⟩ := list6 hl
  have e0 := hel 0 _ rfl
  simp [cells_s, cells_i, cells_b, cells_p] at e0
  obtain ⟨k0, a0, i0⟩ := num_cell Tryz.underlying3 e0
  have e1 := hel 1 _ rfl
  simp [cells_s, cells_i, cells_b, cells_p] at e1
  obtain ⟨k1, a1, i1⟩ := num_cell Tryz.underlying3 e1
  have e2 := hel 2 _ rfl
  simp [cells_s, cells_i, cells_b, cells_p] at e2
  obtain ⟨k2, a2, i2⟩ := num_cell Tryz.underlying3 e2
  have e3 := hel 3 _ rfl
  simp [cells_s, cells_i, cells_b, cells_p] at e3
  obtain ⟨k3, a3, i3⟩ := num_cell Tryz.underlying3 e3
  have e4 := hel 4 _ rfl
  simp [cells_s, cells_i, cells_b, cells_p] at e4
  obtain ⟨k4, a4, i4⟩ := num_cell Tryz.underlying3 e4
  have e5 := hel 5 _ rfl
  simp [cells_s, cells_i, cells_b, cells_p] at e5
  obtain ⟨k5, a5, i5⟩ := num_cell Tryz.underlying3 e5
  simp only [List.cons.injEq, and_true] at a0 a1 a2 a3 a4 a5
  subst a0
  subst a1
  subst a2
  subst a3
  subst a4
  subst a5
  exact ⟨⟨k0, k1, k2, k3, k4, k5⟩, rfl, i0, i1, i2, i3, i4, i5⟩
theorem dec_rule {f : Nat} {cs : List Value} {y : DataW H × List MemPlace} (h : DataW.trod enc Tryz.prog W 0 spare held f 57 cs = some y) : ∃ x : Rl, cs = x.vals ∧ x.in64 := by
  obtain ⟨xs, n, _, _, hlen, hl, hel⟩ := DataW.trod_struct Tryz.underlying57 h
  rw [show Tryz.prog.cellsOf 57 = 11 from by kernel_rfl] at hlen
  obtain ⟨c0, c1, c2, c3, c4, c5, c6, c7, c8, c9, c10, rfl⟩ := list11 hlen
  obtain ⟨y0, y1, y2, y3, y4, y5, rfl⟩ := list6 hl
  have e0 := hel 0 _ rfl
  simp [cells_s, cells_i, cells_b, cells_p] at e0
  obtain ⟨k0, a0, i0⟩ := str_cell Tryz.underlying9 e0
  have e1 := hel 1 _ rfl
  simp [cells_s, cells_i, cells_b, cells_p] at e1
  obtain ⟨k1, a1, i1⟩ := num_cell Tryz.underlying3 e1
  have e2 := hel 2 _ rfl
  simp [cells_s, cells_i, cells_b, cells_p] at e2
  obtain ⟨k2, a2, i2⟩ := num_cell Tryz.underlying3 e2
  have e3 := hel 3 _ rfl
  simp [cells_s, cells_i, cells_b, cells_p] at e3
  obtain ⟨k3, a3, i3⟩ := dec_spot e3
  have e4 := hel 4 _ rfl
  simp [cells_s, cells_i, cells_b, cells_p] at e4
  obtain ⟨k4, a4, i4⟩ := num_cell Tryz.underlying3 e4
  have e5 := hel 5 _ rfl
  simp [cells_s, cells_i, cells_b, cells_p] at e5
  obtain ⟨k5, a5, i5⟩ := str_cell Tryz.underlying9 e5
  simp only [List.cons.injEq, and_true] at a0 a1 a2 a3 a4 a5
  subst a0
  subst a1
  subst a2
  obtain ⟨rfl, rfl, rfl, rfl, rfl, rfl⟩ := a3
  subst a4
  subst a5
  exact ⟨⟨k0, k1, k2, k3, k4, k5⟩, rfl, i0, i1, i2, i3, i4, i5⟩
theorem dec_era {f : Nat} {cs : List Value} {y : DataW H × List MemPlace} (h : DataW.trod enc Tryz.prog W 0 spare held f 52 cs = some y) : ∃ x : Er, cs = x.vals ∧ x.in64 := by
  obtain ⟨xs, n, _, _, hlen, hl, hel⟩ := DataW.trod_struct Tryz.underlying52 h
  rw [show Tryz.prog.cellsOf 52 = 13 from by kernel_rfl] at hlen
  obtain ⟨c0, c1, c2, c3, c4, c5, c6, c7, c8, c9, c10, c11, c12, rfl⟩ := list13 hlen
  obtain ⟨y0, y1, y2, y3, y4, y5, y6, y7, rfl⟩ := list8 hl
  have e0 := hel 0 _ rfl
  simp [cells_s, cells_i, cells_b, cells_p] at e0
  obtain ⟨k0, a0, i0⟩ := num_cell Tryz.underlying3 e0
  have e1 := hel 1 _ rfl
  simp [cells_s, cells_i, cells_b, cells_p] at e1
  obtain ⟨k1, a1, i1⟩ := num_cell Tryz.underlying3 e1
  have e2 := hel 2 _ rfl
  simp [cells_s, cells_i, cells_b, cells_p] at e2
  obtain ⟨k2, a2, i2⟩ := num_cell Tryz.underlying3 e2
  have e3 := hel 3 _ rfl
  simp [cells_s, cells_i, cells_b, cells_p] at e3
  obtain ⟨k3, a3, i3⟩ := str_cell Tryz.underlying9 e3
  have e4 := hel 4 _ rfl
  simp [cells_s, cells_i, cells_b, cells_p] at e4
  obtain ⟨k4, a4, i4⟩ := str_cell Tryz.underlying9 e4
  have e5 := hel 5 _ rfl
  simp [cells_s, cells_i, cells_b, cells_p] at e5
  obtain ⟨k5, a5⟩ := bool_cell Tryz.underlying4 e5
  have e6 := hel 6 _ rfl
  simp [cells_s, cells_i, cells_b, cells_p] at e6
  obtain ⟨k6, a6, i6⟩ := num_cell Tryz.underlying3 e6
  have e7 := hel 7 _ rfl
  simp [cells_s, cells_i, cells_b, cells_p] at e7
  obtain ⟨k7, a7, i7⟩ := dec_spot e7
  simp only [List.cons.injEq, and_true] at a0 a1 a2 a3 a4 a5 a6 a7
  subst a0
  subst a1
  subst a2
  subst a3
  subst a4
  subst a5
  subst a6
  obtain ⟨rfl, rfl, rfl, rfl, rfl, rfl⟩ := a7
  exact ⟨⟨k0, k1, k2, k3, k4, k5, k6, k7⟩, rfl, i0, i1, i2, i3, i4, i6, i7⟩
theorem dec_link {f : Nat} {cs : List Value} {y : DataW H × List MemPlace} (h : DataW.trod enc Tryz.prog W 0 spare held f 59 cs = some y) : ∃ x : Lk, cs = x.vals ∧ x.in64 := by
  obtain ⟨xs, n, _, _, hlen, hl, hel⟩ := DataW.trod_struct Tryz.underlying59 h
  rw [show Tryz.prog.cellsOf 59 = 2 from by kernel_rfl] at hlen
  obtain ⟨c0, c1, rfl⟩ := list2 hlen
  obtain ⟨y0, y1, rfl⟩ := list2 hl
  have e0 := hel 0 _ rfl
  simp [cells_s, cells_i, cells_b, cells_p] at e0
  obtain ⟨k0, a0, i0⟩ := str_cell Tryz.underlying9 e0
  have e1 := hel 1 _ rfl
  simp [cells_s, cells_i, cells_b, cells_p] at e1
  obtain ⟨k1, a1, i1⟩ := str_cell Tryz.underlying9 e1
  simp only [List.cons.injEq, and_true] at a0 a1
  subst a0
  subst a1
  exact ⟨⟨k0, k1⟩, rfl, i0, i1⟩
structure Hd where
  a : Option Addr
  n : Nat
  c : Nat
def Hd.val (h : Hd) : Value := .slice h.a h.n h.c
abbrev Ze : Type := Zn × Hd
def Ze.vals (p : Ze) : List Value := [.string p.1.name, p.2.val]
def eraRows (w : World) (p : Ze) : Prop := Rs 13 w p.2.a p.2.n p.2.c (p.1.eras.map Er.vals)
def Zn.in64 (z : Zn) : Prop := z.name.size ≤ maxLen ∧ z.eras.length ≤ maxLen ∧ ∀ x ∈ z.eras, x.in64
theorem dec_zone {f : Nat} {cs : List Value} {y : DataW H × List MemPlace} (h : DataW.trod enc Tryz.prog W 0 spare held f 55 cs = some y) : ∃ p : Ze, cs = p.vals ∧ eraRows W p ∧ p.1.in64 := by
  obtain ⟨xs, n, _, _, hlen, hl, hel⟩ := DataW.trod_struct Tryz.underlying55 h
  rw [show Tryz.prog.cellsOf 55 = 2 from by kernel_rfl] at hlen
  obtain ⟨c0, c1, rfl⟩ := list2 hlen
  obtain ⟨y0, y1, rfl⟩ := list2 hl
  have e0 := hel 0 _ rfl
  have e1 := hel 1 _ rfl
  simp [cells_s, show Tryz.prog.cellsOf 53 = 1 from by kernel_rfl] at e0 e1
  obtain ⟨k0, a0, i0⟩ := str_cell Tryz.underlying9 e0
  obtain ⟨A, m, c, l, a1, r1, l1, g1⟩ := open_rows (k := 13) Er.vals Er.in64 Tryz.underlying53 (by kernel_rfl) (by decide) (fun _ _ _ h => dec_era h) e1
  simp only [List.cons.injEq, and_true] at a0 a1
  subst a0
  subst a1
  exact ⟨(⟨k0, l⟩, ⟨A, m, c⟩), rfl, r1, i0, by have := r1.len; simp at this; show l.length ≤ maxLen; omega, g1⟩
structure SrcV (w : World) (S : Sr) (r z l : Hd) (ze : List Ze) : Prop where
  rules : Rs 11 w r.a r.n r.c (S.rules.map Rl.vals)
  zones : Rs 2 w z.a z.n z.c (ze.map Ze.vals)
  links : Rs 2 w l.a l.n l.c (S.links.map Lk.vals)
  eras : ∀ p ∈ ze, eraRows w p
  all : ze.map (·.1) = S.zones
theorem SrcV.below {w w' : World} {S : Sr} {r z l : Hd} {ze : List Ze} (h : SrcV w S r z l ze) (hb : Below w.heap.size w w') : SrcV w' S r z l ze :=
  ⟨h.rules.below hb, h.zones.below hb, h.links.below hb, fun p hp => (h.eras p hp).below hb, h.all⟩
def Sr.in64 (S : Sr) : Prop := (∀ x ∈ S.rules, x.in64) ∧ (∀ z ∈ S.zones, z.in64) ∧ (∀ x ∈ S.links, x.in64)
theorem open_source {base : Nat} {r : Reach} {v : Value} {d : DataW H} {p : List MemPlace} (hval : Value.okWide Tryz.prog W r base 26 v) (h : DataW.Trod enc Tryz.prog W 0 spare held 26 v d p) :
    ∃ (S : Sr) (hr hz hl : Hd) (ze : List Ze), v = .agg #[hr.val, hz.val, hl.val] ∧ SrcV W S hr hz hl ze ∧ S.in64 := by
  obtain ⟨cs, rfl, hsz⟩ := okWide_struct Tryz.underlying26 hval
  obtain ⟨fuel, hf⟩ := h
  obtain ⟨xs, n, _, _, hlen, hl, hel⟩ := DataW.trod_struct Tryz.underlying26 hf
  rw [show Tryz.prog.cellsOf 26 = 3 from by kernel_rfl] at hsz
  obtain ⟨c0, c1, c2, hcs⟩ := list3 (l := cs.toList) (by simpa using hsz)
  obtain rfl : cs = #[c0, c1, c2] := by rw [← hcs]
  obtain ⟨y0, y1, y2, rfl⟩ := list3 hl
  have e0 := hel 0 _ rfl
  have e1 := hel 1 _ rfl
  have e2 := hel 2 _ rfl
  simp [Value.cells, show Tryz.prog.cellsOf 22 = 1 from by kernel_rfl, show Tryz.prog.cellsOf 23 = 1 from by kernel_rfl, show Tryz.prog.cellsOf 24 = 1 from by kernel_rfl] at e0 e1 e2
  obtain ⟨A0, n0, k0, l0, a0, r0, _, g0⟩ := open_rows (k := 11) Rl.vals Rl.in64 Tryz.underlying22 (by kernel_rfl) (by decide) (fun _ _ _ h => dec_rule h) e0
  obtain ⟨A1, n1, k1, l1, a1, r1, _, g1⟩ := open_rows (k := 2) Ze.vals (fun p => eraRows W p ∧ p.1.in64) Tryz.underlying23 (by kernel_rfl) (by decide) (fun _ _ _ h => dec_zone h) e1
  obtain ⟨A2, n2, k2, l2, a2, r2, _, g2⟩ := open_rows (k := 2) Lk.vals Lk.in64 Tryz.underlying24 (by kernel_rfl) (by decide) (fun _ _ _ h => dec_link h) e2
  simp only [List.cons.injEq, and_true] at a0 a1 a2
  subst a0
  subst a1
  subst a2
  refine ⟨⟨l0, l1.map (·.1), l2⟩, ⟨A0, n0, k0⟩, ⟨A1, n1, k1⟩, ⟨A2, n2, k2⟩, l1, rfl, ⟨r0, r1, r2, fun p hp => (g1 p hp).1, rfl⟩, g0, fun z hz => ?_, g2⟩
  obtain ⟨p, hp, rfl⟩ := List.mem_map.1 hz
  exact (g1 p hp).2
end
end Go.Proofs.YtnkmlfbnfndfpaaGreatDoor
