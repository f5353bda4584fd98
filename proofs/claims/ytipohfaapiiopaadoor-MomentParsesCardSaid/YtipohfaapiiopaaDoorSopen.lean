/- A row of texts that came in, opened. -/
import Derived.Test.YtipohfaapiiopaaDoorSlines
import Derived.SliceStrings
import Derived.Deep.SlicePairs
import Derived.ProofKit
namespace Go.Proofs.YtipohfaapiiopaaDoor
open Go.ChangeShapes Go.WideShapes Go.RowKit Go.Deep

set_option maxRecDepth 100000 in
theorem open_texts {H : Type} {enc : TypeId × Value → H} {W : World} {base : Nat} {r : Reach} {v : Value} {d : DataW H} {p : List MemPlace}
    (hval : Value.okWide Tryd.prog W r base 34 v) (h : DataW.Trod enc Tryd.prog W 0 (fun _ => true) true 34 v d p) (hlt : ∀ x ∈ p, x.block < W.heap.size) :
    ∃ (A : Option Addr) (n c : Nat) (l : List ByteArray), v = .slice A n c ∧ Ss W A n c l ∧ n ≤ maxLen ∧ ∀ (i : Nat) (h : i < l.length), l[i].size ≤ maxLen := by
  obtain ⟨a0, n0, c0, rfl⟩ := okWide_slice Tryd.underlying34 hval
  obtain ⟨fuel, hf⟩ := h
  rcases open_strings Tryd.underlying34 Tryd.underlying9 (by kernel_rfl) hf with ⟨hc, _⟩ | ⟨a, len, cap, ss, hc, _, hl, hm, hz, hx, hcell, hsz⟩
  · simp [Value.cells] at hc
    obtain ⟨rfl, rfl, rfl⟩ := hc
    exact ⟨none, 0, 0, [], rfl, Ss.nil _, by simp [maxLen], fun i h => absurd h (by simp)⟩
  · simp [Value.cells] at hc
    obtain ⟨rfl, rfl, rfl⟩ := hc
    simp only [if_true] at hz
    have hlen : (ss.take n0).length = n0 := by rw [List.length_take]; omega
    refine ⟨some a, n0, c0, ss.take n0, rfl, ⟨hlen, hl, hm, fun h0 => ?_⟩, by omega, fun i hi => ?_⟩
    · have hc0 := hcell 0 (by omega)
      obtain ⟨g, o, sp⟩ := a
      obtain rfl : sp = none := by
        cases sp with
        | none => rfl
        | some q =>
          unfold World.cell? Addr.add at hc0
          split at hc0 <;> simp_all
      refine ⟨g, o, rfl, ?_, fun j hj => ?_⟩
      · simp only [Prod.mk.injEq] at hx
        have hmem : MemPlace.cell g o ∈ p := by
          rw [hx.2]
          simp only [MemPlace.row, List.mem_map, List.mem_range]
          exact ⟨0, by omega, by simp⟩
        exact hlt _ hmem
      · have hj' : j < ss.length := by rw [hlen] at hj; omega
        have e := hcell j hj'
        have ea : ((⟨g, o, none⟩ : Addr).add j) = ⟨g, o + j, none⟩ := by unfold Addr.add; split <;> simp_all
        rw [ea] at e
        rw [e, List.getElem_take]
        simp [List.getD, hj']
    · exact hsz _ (List.mem_of_mem_take (List.getElem_mem hi))
end Go.Proofs.YtipohfaapiiopaaDoor
