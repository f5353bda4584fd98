/- Stage 10's laws: is a source more than is looked at? -/
import Derived.Test.YtnkmlfbnfndfpaaGreatDoorXHspec
import Derived.Test.YtnkmlfbnfndfpaaGreatDoorXHsame
set_option maxRecDepth 100000
set_option maxHeartbeats 64000000
namespace Go.Proofs.YtnkmlfbnfndfpaaGreatDoor
open Go.RowKit
def RetAny (w : World) (e : Ending) (w' : World) : Prop := ∃ b : Bool, e = .returned (.bool b) ∧ Below w.heap.size w w'
theorem greatA (S : Sr) (r z l : Hd) (ze : List Ze) (w : World) (ha : SrcV w S r z l ze) :
    Calls Tryz.prog 13 #[.agg #[r.val, z.val, l.val]] w (RetAny w) := by
  obtain ⟨A, n, c⟩ := r
  obtain ⟨B, m, d⟩ := z
  obtain ⟨C, q, e⟩ := l
  have m1 : m ≤ 9223372036854775807 := by have h1 : m ≤ d := ha.zones.cap; have h2 : d ≤ 9223372036854775807 := ha.zones.max; omega
  simp only [Hd.val]
  by_cases h1 : 300 < n
  · clear ha
    go_enter Tryz.func13, Tryz.ntmps13
    go_wp2
    go_ret
    exact ⟨true, rfl, (Below.refl _ w).alloc (Nat.le_refl _) _⟩
  by_cases h2 : 100 < m
  · clear ha
    go_enter Tryz.func13, Tryz.ntmps13
    go_wp2
    go_ret
    exact ⟨true, rfl, (Below.refl _ w).alloc (Nat.le_refl _) _⟩
  by_cases h3 : 200 < q
  · clear ha
    go_enter Tryz.func13, Tryz.ntmps13
    go_wp2
    go_ret
    exact ⟨true, rfl, (Below.refl _ w).alloc (Nat.le_refl _) _⟩
  go_enter Tryz.func13, Tryz.ntmps13
  go_wp2
  generalize hW : w.alloc (.cells #[.slice A n c, .slice B m d, .slice C q e] 26) = W0
  have hB0 : Below w.heap.size w W0 := by rw [← hW]; exact (Below.refl _ w).alloc (Nat.le_refl _) _
  have P := Lib.hid (show W0.cell? ⟨w.heap.size, 1, none⟩ = some (.slice B m d) from by rw [← hW]; simp)
  have s0 : W0.heap.size = w.heap.size + 1 := by rw [← hW]; simp
  have HA := Lib.hid (ha.below hB0)
  clear ha hW
  go_loopw [3, 4] (fun a v wr => ∃ (x : Int) (k : Nat), k ≤ m ∧ a = .int .i64 x ∧ v = .int .i64 k ∧ wr = W0) (fun _ v _ => m - (intOf v).toNat)
  case atStart => exact ⟨0, 0, by omega, rfl, rfl, rfl⟩
  case round =>
    obtain ⟨x, k, hk, rfl, rfl, rfl⟩ := hrel
    have p1 := P.out
    by_cases h4 : k < m
    · obtain ⟨za, hza⟩ : ∃ x, ze[k]? = some x := by
        have hl : (ze.map Ze.vals).length = m := HA.out.zones.len
        rw [List.length_map] at hl
        exact ⟨_, List.getElem?_eq_getElem (by omega)⟩
      obtain ⟨g, o, ea, hg, ca⟩ := HA.out.zones.cells (by show 0 < m; omega)
      replace ea : B = some ⟨g, o, none⟩ := ea
      subst ea
      have ra := row_at ca (show (ze.map Ze.vals)[k]? = some za.vals by rw [List.getElem?_map, hza]; rfl)
      obtain ⟨⟨nm, er⟩, ⟨X, u, cu⟩⟩ := za
      have y1 : wr.cell? ⟨g, o + k * 2 + 1, none⟩ = some (.slice X u cu) := ra 1 _ rfl
      clear ca ra hza
      by_cases h5 : 60 < u
      · go_wp2
        go_ret
        exact ⟨true, rfl, hB0⟩
      · go_wp2
        go_roundw
        case rel => exact ⟨_, k + 1, by omega, rfl, int_is (by omega), trivial⟩
        case measure => simp only [intOf]; omega
    · go_wp2
      go_ret
      exact ⟨_, rfl, hB0⟩
end Go.Proofs.YtnkmlfbnfndfpaaGreatDoor
