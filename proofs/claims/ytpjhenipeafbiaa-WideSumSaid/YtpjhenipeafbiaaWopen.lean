/- A row of wide numbers that came in, opened. -/
import Derived.Test.YtpjhenipeafbiaaWsum
import Derived.Deep.SlicePairs
import Derived.ProofKit
namespace Go.Proofs.Ytpjhenipeafbiaa
open Go.ChangeShapes Go.WideShapes Go.RowKit Go.Deep

theorem open_wides {H : Type} {enc : TypeId × Value → H} {W : World} {base : Nat} {r : Reach} {v : Value} {d : DataW H} {p : List MemPlace}
    (hval : Value.okWide Try.prog W r base 54 v) (h : DataW.Trod enc Try.prog W 0 (fun _ => true) true 54 v d p) (hlt : ∀ x ∈ p, x.block < W.heap.size) :
    ∃ (A : Option Addr) (n c : Nat) (l : List Int), v = .slice A n c ∧ Ws W A n c l := by
  obtain ⟨a0, n0, c0, rfl⟩ := okWide_slice Try.underlying54 hval
  obtain ⟨fuel, hf⟩ := h
  rcases open_slice_pairs Try.underlying54 (Try.underlying24) (by kernel_rfl) rfl rfl (by kernel_rfl) (by kernel_rfl) hf with ⟨hc, _⟩ | ⟨a, len, cap, m, k, V0, V1, D0, D1, P0, P1, hc, _, hl, hm, hmm, hx, hall⟩
  · simp [Value.cells] at hc
    obtain ⟨rfl, rfl, rfl⟩ := hc
    exact ⟨none, 0, 0, [], rfl, rfl, Nat.le_refl _, by simp [maxLen], by simp, fun h => absurd h (by omega)⟩
  · simp [Value.cells] at hc
    obtain ⟨rfl, rfl, rfl⟩ := hc
    simp only [if_true] at hmm
    subst hmm
    have hint : ∀ i, i < m → ∃ x y : Int, V0 i = .int .i64 x ∧ V1 i = .int .u64 y ∧ In64 x ∧ 0 ≤ y ∧ y ≤ 18446744073709551615 := fun i hi => by
      obtain ⟨x, h1, _, h3⟩ := DataW.trod_int Try.underlying2 (hall i hi).2.2.1
      obtain ⟨y, h4, _, h6⟩ := DataW.trod_int Try.underlying22 (hall i hi).2.2.2
      simp only [List.cons.injEq, and_true] at h1 h4
      exact ⟨x, y, h1, h4, in64 h3, (bounds_u64 h6).1, (bounds_u64 h6).2⟩
    refine ⟨some a, n0, m, (List.range n0).map fun i => intOf (V0 i) * 18446744073709551616 + intOf (V1 i), rfl, by simp, hl, hm, fun z hz => ?_, fun h0 => ⟨a, rfl, ?_, fun j hj => ?_⟩⟩
    · obtain ⟨i, hi, rfl⟩ := List.mem_map.1 hz
      obtain ⟨x, y, e1, e2, g1, g2, g3⟩ := hint i (by have := List.mem_range.1 hi; omega)
      rw [e1, e2]
      exact (of_halves g1 g2 g3).1
    · simp only [Prod.mk.injEq] at hx
      have hmem : MemPlace.cell (a.add 0).block (a.add 0).off ∈ p := by
        rw [hx.2]
        refine List.mem_append_left _ ?_
        simp only [MemPlace.row, List.mem_map, List.mem_range]
        exact ⟨0, by omega, by simp [Addr.add]⟩
      have := hlt _ hmem
      simpa [MemPlace.block, add_block] using this
    · obtain ⟨x, y, e1, e2, g1, g2, g3⟩ := hint j (by omega)
      obtain ⟨q1, q2, _⟩ := hall j (by omega)
      have e : ((List.range n0).map fun i => intOf (V0 i) * 18446744073709551616 + intOf (V1 i)).getD j 0 = x * 18446744073709551616 + y := by
        rw [List.getD_eq_getElem?_getD, List.getElem?_map, List.getElem?_range hj]
        simp [e1, e2, intOf]
      obtain ⟨_, f1, f2⟩ := of_halves g1 g2 g3
      rw [e, f1, f2]
      exact ⟨by rw [q1, e1], by rw [q2, e2]⟩
end Go.Proofs.Ytpjhenipeafbiaa
