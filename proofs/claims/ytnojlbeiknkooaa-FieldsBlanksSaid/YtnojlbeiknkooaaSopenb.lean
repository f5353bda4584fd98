/- A row of bytes that came in, opened. -/
import Derived.Test.YtnojlbeiknkooaaSopen
import Derived.Test.YtnojlbeiknkooaaQblanks
import Derived.ChangeSlices
import Derived.OpenShut
namespace Go.Proofs.Ytnojlbeiknkooaa
open Go.ChangeShapes Go.WideShapes Go.RowKit Go.Deep

theorem open_bytes {H : Type} {enc : TypeId × Value → H} {W : World} {base : Nat} {r : Reach} {v : Value} {d : DataW H} {p : List MemPlace}
    (hval : Value.okWide Try.prog W r base 41 v) (h : DataW.Trod enc Try.prog W 0 (fun _ => true) true 41 v d p) (hlt : ∀ x ∈ p, x.block < W.heap.size) :
    ∃ (A : Option Addr) (n c : Nat) (G : List Int), v = .slice A n c ∧ Us W A n G := by
  obtain ⟨a0, n0, c0, rfl⟩ := okWide_slice Try.underlying41 hval
  obtain ⟨fuel, hf⟩ := h
  rcases open_ints Try.underlying41 Try.underlying5 (by kernel_rfl) hf with ⟨hc, _⟩ | ⟨a, len, cap, zs, hc, _, hl, hm, hz, hx, hcell, hwf⟩
  · simp [Value.cells] at hc
    obtain ⟨rfl, rfl, rfl⟩ := hc
    exact ⟨none, 0, 0, [], rfl, rfl, fun j h => absurd h (by simp), fun h => absurd h (by omega)⟩
  · simp [Value.cells] at hc
    obtain ⟨rfl, rfl, rfl⟩ := hc
    simp only [if_true] at hz
    have hlen : (zs.take n0).length = n0 := by rw [List.length_take]; omega
    refine ⟨some a, n0, c0, zs.take n0, rfl, hlen, fun j hj => ?_, fun h0 => ?_⟩
    · have b := bounds_u8 (hwf _ (List.mem_of_mem_take (List.getElem_mem hj)))
      exact ⟨b.1, by omega⟩
    · have hc0 := hcell 0 (by omega)
      obtain ⟨g, o, sp⟩ := a
      obtain rfl : sp = none := by
        cases sp with
        | none => rfl
        | some q =>
          unfold World.cell? Addr.add at hc0
          split at hc0 <;> simp_all
      refine ⟨g, o, rfl, ?_, fun j hj => ?_⟩
      · simp only [Prod.mk.injEq] at hx
        have hmem : MemPlace.cell g o ∈ p := by
          rw [hx.2]
          simp only [MemPlace.row, List.mem_map, List.mem_range]
          exact ⟨0, by omega, by simp⟩
        exact hlt _ hmem
      · have hj' : j < zs.length := by rw [hlen] at hj; omega
        have e := hcell j hj'
        have ea : ((⟨g, o, none⟩ : Addr).add j) = ⟨g, o + j, none⟩ := by unfold Addr.add; split <;> simp_all
        rw [ea] at e
        rw [e, List.getElem_take]
        simp [List.getD, hj']
end Go.Proofs.Ytnojlbeiknkooaa
