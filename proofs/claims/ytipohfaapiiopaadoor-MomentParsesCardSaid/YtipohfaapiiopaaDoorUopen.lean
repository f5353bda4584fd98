/- Arguments opened: a spot: six numbers of 64 bits, no place in memory. -/
import Derived.Test.YtipohfaapiiopaaDoorOpen
import Derived.Test.YtipohfaapiiopaaDoorUparsed
namespace Go.Proofs.YtipohfaapiiopaaDoor
open Go.RowKit Go.Joins Go.WideShapes Go.ChangeShapes Go.Deep

section
variable {H : Type} {enc : TypeId × Value → H} {P : Program} {w : World} {base : Nat} {spare : Nat → Bool} {held : Bool}
theorem array6 {α : Type} {cs : Array α} (h : cs.size = 6) : ∃ c0 c1 c2 c3 c4 c5, cs = #[c0, c1, c2, c3, c4, c5] := by
  obtain ⟨l⟩ := cs
  match l, h with
  | [c0, c1, c2, c3, c4, c5], _ => exact ⟨c0, c1, c2, c3, c4, c5, rfl⟩
theorem open_spot {r : Reach} {b0 : Nat} {t : TypeId} {f0 f1 f2 f3 f4 f5 : Field} {v : Value} {d : DataW H} {p : List MemPlace} (hs : P.underlying t = some (.struct #[f0, f1, f2, f3, f4, f5])) (hone : oneCellFields P #[f0, f1, f2, f3, f4, f5] = true) (hC : P.cellsOf t = 6)
    (g0 : P.underlying f0.type = some (.int .i64)) (g1 : P.underlying f1.type = some (.int .i64)) (g2 : P.underlying f2.type = some (.int .i64)) (g3 : P.underlying f3.type = some (.int .i64)) (g4 : P.underlying f4.type = some (.int .i64)) (g5 : P.underlying f5.type = some (.int .i64))
    (hv : Value.okWide P w r b0 t v) (h : DataW.Trod enc P w base spare held t v d p) : ∃ x : Sp, v = x.val ∧ p = [] ∧ x.in64 := by
  obtain ⟨cs, rfl, hsz⟩ := okWide_struct hs hv
  obtain ⟨c0, c1, c2, c3, c4, c5, rfl⟩ := array6 (hsz.trans hC)
  obtain ⟨fuel, hf⟩ := h
  obtain ⟨xs, n, _, hx, _, hlen, hel⟩ := DataW.trod_struct hs hf
  match xs, hlen with
  | [y0, y1, y2, y3, y4, y5], _ =>
    have e0 := hel 0 f0 rfl
    have e1 := hel 1 f1 rfl
    have e2 := hel 2 f2 rfl
    have e3 := hel 3 f3 rfl
    have e4 := hel 4 f4 rfl
    have e5 := hel 5 f5 rfl
    obtain ⟨o0, q0⟩ := hone_of hone 0 f0 rfl
    obtain ⟨o1, q1⟩ := hone_of hone 1 f1 rfl
    obtain ⟨o2, q2⟩ := hone_of hone 2 f2 rfl
    obtain ⟨o3, q3⟩ := hone_of hone 3 f3 rfl
    obtain ⟨o4, q4⟩ := hone_of hone 4 f4 rfl
    obtain ⟨o5, q5⟩ := hone_of hone 5 f5 rfl
    simp [Value.cells, o0, q0] at e0
    simp [Value.cells, o1, q1] at e1
    simp [Value.cells, o2, q2] at e2
    simp [Value.cells, o3, q3] at e3
    simp [Value.cells, o4, q4] at e4
    simp [Value.cells, o5, q5] at e5
    obtain ⟨k0, a0, b0, i0⟩ := int_cell g0 e0
    obtain ⟨k1, a1, b1, i1⟩ := int_cell g1 e1
    obtain ⟨k2, a2, b2, i2⟩ := int_cell g2 e2
    obtain ⟨k3, a3, b3, i3⟩ := int_cell g3 e3
    obtain ⟨k4, a4, b4, i4⟩ := int_cell g4 e4
    obtain ⟨k5, a5, b5, i5⟩ := int_cell g5 e5
    simp at a0 a1 a2 a3 a4 a5
    subst a0 a1 a2 a3 a4 a5
    simp only [Prod.mk.injEq] at hx
    exact ⟨⟨k0, k1, k2, k3, k4, k5⟩, rfl, by rw [hx.2]; simp [b0, b1, b2, b3, b4, b5], i0, i1, i2, i3, i4, i5⟩
end
end Go.Proofs.YtipohfaapiiopaaDoor
