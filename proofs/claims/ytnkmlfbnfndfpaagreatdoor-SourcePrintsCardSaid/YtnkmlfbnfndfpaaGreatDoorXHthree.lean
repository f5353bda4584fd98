/- The document's answer of layer 10: a spot's three texts, with blanks ahead. -/
import Derived.Test.YtnkmlfbnfndfpaaGreatDoorXGj
import Derived.Test.YtnkmlfbnfndfpaaGreatDoorXUpr
import Derived.BigQuiet
import Derived.Deep.QuietTactic
import Derived.IntWalk
import Derived.Lib.Hide
import Derived.Outline
set_option maxRecDepth 100000
set_option maxHeartbeats 64000000
namespace Go.Proofs.YtnkmlfbnfndfpaaGreatDoor
open Go.RowKit
def threeT (x : Sp) : ByteArray := ⟨#[32]⟩ ++ mon3.getD (x.mo - 1).toNat ⟨#[]⟩ ++ ⟨#[32]⟩ ++ spDay x ++ ⟨#[32]⟩ ++ spClk x
theorem three_of (mo ki wd da ti re : Int) (a b c : ByteArray) (ha : a.size ≤ 100) (hb : b.size ≤ 100) (hc : c.size ≤ 100)
    (PR : Hid (∀ W, Calls Tryz.prog 91 #[.agg #[.int .i64 mo, .int .i64 ki, .int .i64 wd, .int .i64 da, .int .i64 ti, .int .i64 re]] W (RetSs W [a, b, c]))) (w : World) :
    Calls Tryz.prog 57 #[.agg #[.int .i64 mo, .int .i64 ki, .int .i64 wd, .int .i64 da, .int .i64 ti, .int .i64 re]] w (RetV w (.string (⟨#[32]⟩ ++ a ++ ⟨#[32]⟩ ++ b ++ ⟨#[32]⟩ ++ c))) := by
  have c1 := fun W => run_string_add_sum (P := Tryz.prog) W ⟨#[32]⟩ a (by show 1 + a.size ≤ _; omega)
  have c2 := fun W => run_string_add_sum (P := Tryz.prog) W (⟨#[32]⟩ ++ a) ⟨#[32]⟩ (by simp only [ByteArray.size_append]; show 1 + a.size + 1 ≤ _; omega)
  have c3 := fun W => run_string_add_sum (P := Tryz.prog) W (⟨#[32]⟩ ++ a ++ ⟨#[32]⟩) b (by simp only [ByteArray.size_append]; show 1 + a.size + 1 + b.size ≤ _; omega)
  have c4 := fun W => run_string_add_sum (P := Tryz.prog) W (⟨#[32]⟩ ++ a ++ ⟨#[32]⟩ ++ b) ⟨#[32]⟩ (by simp only [ByteArray.size_append]; show 1 + a.size + 1 + b.size + 1 ≤ _; omega)
  have c5 := fun W => run_string_add_sum (P := Tryz.prog) W (⟨#[32]⟩ ++ a ++ ⟨#[32]⟩ ++ b ++ ⟨#[32]⟩) c (by simp only [ByteArray.size_append]; show 1 + a.size + 1 + b.size + 1 + c.size ≤ _; omega)
  go_enter Tryz.func57, Tryz.ntmps57
  go_wp2_with fail
  generalize hW : w.alloc (.cells #[.int .i64 mo, .int .i64 ki, .int .i64 wd, .int .i64 da, .int .i64 ti, .int .i64 re] 50) = w0 at *
  have k0 : Below w.heap.size w w0 := by rw [← hW]; exact (Below.refl _ w).alloc (Nat.le_refl _) _
  clear hW
  refine (PR.out _).mono ?_
  rintro e w1 ⟨A, m, n, rfl, hS, k⟩
  obtain rfl : m = 3 := hS.len.symm
  obtain ⟨g, o, rfl, hg, hC⟩ := hS.cells (by decide)
  have m1 : n ≤ maxLen := hS.max
  have m2 : 3 ≤ n := hS.cap
  have x0 : w1.cell? ⟨g, o, none⟩ = some (.string a) := hC 0 (by show 0 < 3; decide)
  have x1 : w1.cell? ⟨g, o + 1, none⟩ = some (.string b) := hC 1 (by show 1 < 3; decide)
  have x2 : w1.cell? ⟨g, o + 2, none⟩ = some (.string c) := hC 2 (by show 2 < 3; decide)
  have kb := k0.trans (k.mono k0.size)
  clear hS hC k k0
  go_upto_region 2 with (fail)
  go_quiet (fail)
  go_wp2_with fail
  go_ret
  exact ⟨rfl, below_drewN kb nq⟩
theorem mon3_size (k : Nat) : (mon3.getD k ⟨#[]⟩).size ≤ 3 := by
  by_cases h : k < 12
  · revert k; decide
  · rw [List.getD_eq_getElem?_getD, List.getElem?_eq_none (show mon3.length ≤ k by show 12 ≤ k; omega)]; decide
theorem spDay_le {x : Sp} (h : x.ok) : (spDay x).size ≤ 30 := by
  unfold Sp.ok at h
  have dz := decB_le (n := x.da.toNat) (by
    by_cases h0 : x.ki = 1
    · have := h.2.2.2.2.2.2.1 h0; omega
    · have := h.2.2.2.2.2.2.2 h0; omega)
  have wz : (wd3.getD x.wd.toNat ⟨#[]⟩).size ≤ 3 := wd3_size _ (by
    by_cases h0 : x.ki = 0
    · have := h.2.2.2.2.1 h0; omega
    · have := h.2.2.2.2.2.1 h0; omega)
  have s1 : (⟨#[108, 97, 115, 116]⟩ : ByteArray).size = 4 := rfl
  have s2 : (⟨#[62, 61]⟩ : ByteArray).size = 2 := rfl
  have s3 : (⟨#[60, 61]⟩ : ByteArray).size = 2 := rfl
  unfold spDay
  split
  · omega
  · split
    · rw [ByteArray.size_append, s1]; omega
    · split
      · rw [ByteArray.size_append, ByteArray.size_append, s2]; omega
      · rw [ByteArray.size_append, ByteArray.size_append, s3]; omega
theorem spClk_le {x : Sp} (h : x.ok) : (spClk x).size ≤ 30 := by
  unfold Sp.ok at h
  have tz := timeB_le x.ti (by omega) (by omega)
  have s1 : (⟨#[115]⟩ : ByteArray).size = 1 := rfl
  have s2 : (⟨#[117]⟩ : ByteArray).size = 1 := rfl
  unfold spClk
  split
  · omega
  · split
    · rw [ByteArray.size_append, s1]; omega
    · rw [ByteArray.size_append, s2]; omega
theorem threeR {x : Sp} (h : x.ok) (w : World) : Calls Tryz.prog 57 #[x.val] w (RetV w (.string (threeT x))) :=
  three_of x.mo x.ki x.wd x.da x.ti x.re _ _ _ (Nat.le_trans (mon3_size _) (by decide)) (Nat.le_trans (spDay_le h) (by decide)) (Nat.le_trans (spClk_le h) (by decide)) (Lib.hid (fun W => printSR x h W)) w
theorem threeT_le {x : Sp} (h : x.ok) : (threeT x).size ≤ 70 := by
  have a := mon3_size (x.mo - 1).toNat
  have b := spDay_le h
  have c := spClk_le h
  have s1 : (⟨#[32]⟩ : ByteArray).size = 1 := rfl
  unfold threeT
  simp only [ByteArray.size_append, s1]
  omega
end Go.Proofs.YtnkmlfbnfndfpaaGreatDoor
