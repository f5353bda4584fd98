/- A set of rules that came in, opened. -/
import Derived.Test.YtkkdclibbdeejaaDoorXGea
set_option maxRecDepth 100000
set_option maxHeartbeats 64000000
namespace Go.Proofs.YtkkdclibbdeejaaDoor
open Go.RowKit Go.WideShapes Go.ChangeShapes
theorem open_rules {H : Type} {enc : TypeId × Value → H} {W : World} {base : Nat} {r : Reach} {v : Value} {d : DataW H} {p : List MemPlace}
    (hval : Value.okWide Tryd.prog W r base 22 v) (h : DataW.Trod enc Tryd.prog W 0 (fun _ => true) true 22 v d p) :
    ∃ (A : Option Addr) (n c : Nat) (L : List Rl), v = .slice A n c ∧ RulV W A n c L ∧ in64L L := by
  obtain ⟨a0, n0, c0, rfl⟩ := okWide_slice Tryd.underlying22 hval
  obtain ⟨fuel, hf⟩ := h
  obtain ⟨A, n, c, l, e, hr, _, g⟩ := open_rows (k := 11) Rl.vals Rl.in64 Tryd.underlying22 (by kernel_rfl) (by decide) (fun _ _ _ h => dec_rule h) hf
  simp [Value.cells] at e
  obtain ⟨rfl, rfl, rfl⟩ := e
  exact ⟨_, _, _, l, rfl, hr, g⟩
end Go.Proofs.YtkkdclibbdeejaaDoor
