/- Arguments opened: arrays of four numbers, dates, times, dates with times: each cell a number of 64 bits, no place in memory. -/
import Derived.Test.YtipohfaapiiopaaDoorGa
import Derived.Lib.SmallJoins
import Derived.OpenShut
import Derived.Deep.Strs
namespace Go.Proofs.YtipohfaapiiopaaDoor
open Go.RowKit Go.Joins Go.WideShapes Go.ChangeShapes Go.Deep

section
variable {H : Type} {enc : TypeId × Value → H} {P : Program} {w : World} {base : Nat} {spare : Nat → Bool} {held : Bool}
theorem int_cell {e : TypeId} {n : Nat} {cs : List Value} {x : DataW H × List MemPlace} (he : P.underlying e = some (.int .i64)) (h : DataW.trod enc P w base spare held n e cs = some x) : ∃ k : Int, cs = [.int .i64 k] ∧ x.2 = [] ∧ In64 k := by
  obtain ⟨k, e1, e2, e3⟩ := DataW.trod_int he h
  exact ⟨k, e1, by rw [e2], in64 e3⟩
theorem open_arr4 {r : Reach} {b0 : Nat} {t e : TypeId} {v : Value} {d : DataW H} {p : List MemPlace} (ht : P.underlying t = some (.array 4 e)) (he : P.underlying e = some (.int .i64)) (hc : P.cellsOf e = 1) (h4 : P.cellsOf t = 4)
    (hv : Value.okWide P w r b0 t v) (h : DataW.Trod enc P w base spare held t v d p) :
    ∃ x0 x1 x2 x3 : Int, v = .agg #[.int .i64 x0, .int .i64 x1, .int .i64 x2, .int .i64 x3] ∧ p = [] ∧ In64 x0 ∧ In64 x1 ∧ In64 x2 ∧ In64 x3 := by
  simp only [Value.okWide, ht] at hv
  obtain ⟨cs, rfl, hsz, _⟩ := hv
  obtain ⟨c0, c1, c2, c3, rfl⟩ := array4 (hsz.trans h4)
  obtain ⟨fuel, hf⟩ := h
  obtain ⟨xs, m, _, hx, _, hlen, hel⟩ := DataW.trod_array ht hf
  match xs, hlen with
  | [y0, y1, y2, y3], _ =>
    have e0 := hel 0 (by decide)
    have e1 := hel 1 (by decide)
    have e2 := hel 2 (by decide)
    have e3 := hel 3 (by decide)
    simp [hc, Value.cells] at e0 e1 e2 e3
    obtain ⟨k0, a0, b0, i0⟩ := int_cell he e0
    obtain ⟨k1, a1, b1, i1⟩ := int_cell he e1
    obtain ⟨k2, a2, b2, i2⟩ := int_cell he e2
    obtain ⟨k3, a3, b3, i3⟩ := int_cell he e3
    simp at a0 a1 a2 a3
    simp only [Prod.mk.injEq] at hx
    exact ⟨k0, k1, k2, k3, by rw [a0, a1, a2, a3], by rw [hx.2]; simp [b0, b1, b2, b3], i0, i1, i2, i3⟩
theorem open_date {r : Reach} {b0 : Nat} {t : TypeId} {f0 f1 f2 : Field} {v : Value} {d : DataW H} {p : List MemPlace} (hs : P.underlying t = some (.struct #[f0, f1, f2])) (hone : oneCellFields P #[f0, f1, f2] = true) (hC : P.cellsOf t = 3)
    (g0 : P.underlying f0.type = some (.int .i64)) (g1 : P.underlying f1.type = some (.int .i64)) (g2 : P.underlying f2.type = some (.int .i64)) (hv : Value.okWide P w r b0 t v) (h : DataW.Trod enc P w base spare held t v d p) :
    ∃ x0 x1 x2 : Int, v = .agg #[.int .i64 x0, .int .i64 x1, .int .i64 x2] ∧ p = [] ∧ In64 x0 ∧ In64 x1 ∧ In64 x2 := by
  obtain ⟨v0, v1, v2, y0, y1, y2, n, rfl, _, rfl, h0, h1, h2⟩ := open_agg3 hs hone hC hv h
  obtain ⟨k0, a0, b0, i0⟩ := int_cell g0 h0
  obtain ⟨k1, a1, b1, i1⟩ := int_cell g1 h1
  obtain ⟨k2, a2, b2, i2⟩ := int_cell g2 h2
  simp at a0 a1 a2
  exact ⟨k0, k1, k2, by rw [a0, a1, a2], by rw [b0, b1, b2]; rfl, i0, i1, i2⟩
theorem open_time {r : Reach} {b0 : Nat} {t : TypeId} {f0 f1 f2 f3 : Field} {v : Value} {d : DataW H} {p : List MemPlace} (hs : P.underlying t = some (.struct #[f0, f1, f2, f3])) (hone : oneCellFields P #[f0, f1, f2, f3] = true) (hC : P.cellsOf t = 4)
    (g0 : P.underlying f0.type = some (.int .i64)) (g1 : P.underlying f1.type = some (.int .i64)) (g2 : P.underlying f2.type = some (.int .i64)) (g3 : P.underlying f3.type = some (.int .i64)) (hv : Value.okWide P w r b0 t v) (h : DataW.Trod enc P w base spare held t v d p) :
    ∃ x0 x1 x2 x3 : Int, v = .agg #[.int .i64 x0, .int .i64 x1, .int .i64 x2, .int .i64 x3] ∧ p = [] ∧ In64 x0 ∧ In64 x1 ∧ In64 x2 ∧ In64 x3 := by
  obtain ⟨v0, v1, v2, v3, y0, y1, y2, y3, n, rfl, _, rfl, h0, h1, h2, h3⟩ := open_agg4 hs hone hC hv h
  obtain ⟨k0, a0, b0, i0⟩ := int_cell g0 h0
  obtain ⟨k1, a1, b1, i1⟩ := int_cell g1 h1
  obtain ⟨k2, a2, b2, i2⟩ := int_cell g2 h2
  obtain ⟨k3, a3, b3, i3⟩ := int_cell g3 h3
  simp at a0 a1 a2 a3
  exact ⟨k0, k1, k2, k3, by rw [a0, a1, a2, a3], by rw [b0, b1, b2, b3]; rfl, i0, i1, i2, i3⟩
theorem array7 {α : Type} {cs : Array α} (h : cs.size = 7) : ∃ c0 c1 c2 c3 c4 c5 c6, cs = #[c0, c1, c2, c3, c4, c5, c6] := by
  obtain ⟨l⟩ := cs
  match l, h with
  | [c0, c1, c2, c3, c4, c5, c6], _ => exact ⟨c0, c1, c2, c3, c4, c5, c6, rfl⟩
/-- a date with a time: its seven cells -/
theorem open_both {r : Reach} {b0 : Nat} {t : TypeId} {F G a b c p q u z : Field} {v : Value} {d : DataW H} {ps : List MemPlace} (hs : P.underlying t = some (.struct #[F, G])) (hC : P.cellsOf t = 7)
    (oF : F.offset = 0) (oG : G.offset = 3) (cF : P.cellsOf F.type = 3) (cG : P.cellsOf G.type = 4) (hF : P.underlying F.type = some (.struct #[a, b, c])) (hG : P.underlying G.type = some (.struct #[p, q, u, z]))
    (oneF : oneCellFields P #[a, b, c] = true) (oneG : oneCellFields P #[p, q, u, z] = true)
    (g0 : P.underlying a.type = some (.int .i64)) (g1 : P.underlying b.type = some (.int .i64)) (g2 : P.underlying c.type = some (.int .i64)) (g3 : P.underlying p.type = some (.int .i64)) (g4 : P.underlying q.type = some (.int .i64))
    (g5 : P.underlying u.type = some (.int .i64)) (g6 : P.underlying z.type = some (.int .i64)) (hv : Value.okWide P w r b0 t v) (h : DataW.Trod enc P w base spare held t v d ps) :
    ∃ x0 x1 x2 x3 x4 x5 x6 : Int, v = .agg #[.int .i64 x0, .int .i64 x1, .int .i64 x2, .int .i64 x3, .int .i64 x4, .int .i64 x5, .int .i64 x6] ∧ ps = [] ∧ In64 x0 ∧ In64 x1 ∧ In64 x2 ∧ In64 x3 ∧ In64 x4 ∧ In64 x5 ∧ In64 x6 := by
  obtain ⟨cs, rfl, hsz⟩ := okWide_struct hs hv
  obtain ⟨c0, c1, c2, c3, c4, c5, c6, rfl⟩ := array7 (hsz.trans hC)
  obtain ⟨fuel, hf⟩ := h
  obtain ⟨y0, y1, n, hx, _, h0, h1⟩ := trod_struct2 hs hf
  simp only [Prod.mk.injEq] at hx
  rw [oF, cF] at h0
  rw [oG, cG] at h1
  simp [Value.cells] at h0 h1
  obtain ⟨z0, z1, z2, n0, hx0, _, k0, k1, k2⟩ := trod_struct3 hF h0
  obtain ⟨z3, z4, z5, z6, n1, hx1, _, k3, k4, k5, k6⟩ := trod_struct4 hG h1
  obtain ⟨oa, ca⟩ := hone_of oneF 0 a rfl
  obtain ⟨ob, cb⟩ := hone_of oneF 1 b rfl
  obtain ⟨oc, cc⟩ := hone_of oneF 2 c rfl
  obtain ⟨op, cp⟩ := hone_of oneG 0 p rfl
  obtain ⟨oq, cq⟩ := hone_of oneG 1 q rfl
  obtain ⟨ou, cu⟩ := hone_of oneG 2 u rfl
  obtain ⟨oz, cz⟩ := hone_of oneG 3 z rfl
  simp [oa, ca] at k0
  simp [ob, cb] at k1
  simp [oc, cc] at k2
  simp [op, cp] at k3
  simp [oq, cq] at k4
  simp [ou, cu] at k5
  simp [oz, cz] at k6
  obtain ⟨x0, a0, b0, i0⟩ := int_cell g0 k0
  obtain ⟨x1, a1, b1, i1⟩ := int_cell g1 k1
  obtain ⟨x2, a2, b2, i2⟩ := int_cell g2 k2
  obtain ⟨x3, a3, b3, i3⟩ := int_cell g3 k3
  obtain ⟨x4, a4, b4, i4⟩ := int_cell g4 k4
  obtain ⟨x5, a5, b5, i5⟩ := int_cell g5 k5
  obtain ⟨x6, a6, b6, i6⟩ := int_cell g6 k6
  simp at a0 a1 a2 a3 a4 a5 a6
  subst a0 a1 a2 a3 a4 a5 a6
  refine ⟨x0, x1, x2, x3, x4, x5, x6, rfl, ?_, i0, i1, i2, i3, i4, i5, i6⟩
  rw [hx.2, congrArg Prod.snd hx0, congrArg Prod.snd hx1]
  simp [b0, b1, b2, b3, b4, b5, b6]
end
end Go.Proofs.YtipohfaapiiopaaDoor
