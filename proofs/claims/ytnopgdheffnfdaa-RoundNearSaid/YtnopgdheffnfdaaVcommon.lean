/- Package divide's common: the greatest size by which two sizes are divided without a rest. -/
import Derived.Test.YtnopgdheffnfdaaVsplit
import Derived.Test.YtnopgdheffnfdaaVtwo
import Derived.Deep.DeepCutAuto
namespace Go.Proofs.Ytnopgdheffnfdaa
open Go.RowKit

/-- the size that a block holds -/
def sizeAt (b : Nat) (W : World) : Nat :=
  match W.cell? ⟨b, 0, none⟩, W.cell? ⟨b, 1, none⟩ with
  | some (.int _ h), some (.int _ l) => (h * 18446744073709551616 + l).toNat
  | _, _ => 0
theorem sizeAt_pair {b : Nat} {W : World} {y : Int} (h : Pair W b (.int .u64 (hiW y)) (.int .u64 (loW y))) : sizeAt b W = y.toNat := by
  unfold sizeAt
  rw [h.c0, h.c1]
  have : hiW y * 18446744073709551616 + loW y = y := by unfold hiW loW; omega
  simp only [this]
theorem halfs_zero {y : Int} (h : hiW y = 0) (k : loW y = 0) : y = 0 := by unfold hiW at h; unfold loW at k; omega
theorem gcd_step (x y : Int) (h0 : 0 ≤ x) (h1 : 0 ≤ y) : Int.gcd y (x % y) = Int.gcd x y := by
  obtain ⟨x, rfl⟩ := Int.eq_ofNat_of_zero_le h0
  obtain ⟨y, rfl⟩ := Int.eq_ofNat_of_zero_le h1
  rw [← Int.natCast_emod]
  simp only [Int.gcd, Int.natAbs_natCast]
  rw [Nat.gcd_comm y, ← Nat.gcd_rec, Nat.gcd_comm]
theorem gcd_end (x : Int) (h0 : 0 ≤ x) : (Int.gcd x 0 : Int) = x := by simp; omega
theorem PairsK.swap {w W : World} {x y : Nat × Value × Value} {L : List (Nat × Value × Value)} (h : PairsK w (x :: y :: L) W) : PairsK w (y :: x :: L) W :=
  ⟨fun z hz => h.al z (by simp only [List.mem_cons] at hz ⊢; rcases hz with h | h | h; exact .inr (.inl h); exact .inl h; exact .inr (.inr h)), h.hb⟩
theorem PairsK.put {w W : World} {g : Nat} {u v : Value} {L : List (Nat × Value × Value)} (h : PairsK w ((g, u, v) :: L) W) (hg : w.heap.size ≤ g) (ne : ∀ x ∈ L, x.1 ≠ g) (u' v' : Value) :
    PairsK w ((g, u', v') :: L) ((W.setCell ⟨g, 0, none⟩ u').setCell ⟨g, 1, none⟩ v') :=
  ⟨fun z hz => by
    rcases List.mem_cons.1 hz with rfl | hz
    · exact h.head.self2 _ _
    · exact (h.al z (List.mem_cons_of_mem _ hz)).far2 (fun e => ne z hz e.symm) _ _, (h.hb.setCell (p := ⟨g, 0, none⟩) (by show _ ≤ g; omega) _).setCell (p := ⟨g, 1, none⟩) (by show _ ≤ g; omega) _⟩

theorem PairsK.two (w W : World) (x : Value × Value) (u v u' v' a b c d : Value) (h : PairsK w [(w.heap.size + 1 + 1, x.1, x.2), (w.heap.size + 1, u, v), (w.heap.size, u', v')] W) :
    PairsK w [(w.heap.size + 1 + 1, x.1, x.2), (w.heap.size + 1, c, d), (w.heap.size, a, b)] ((((W.setCell ⟨w.heap.size, 0, none⟩ a).setCell ⟨w.heap.size, 1, none⟩ b).setCell ⟨w.heap.size + 1, 0, none⟩ c).setCell ⟨w.heap.size + 1, 1, none⟩ d) :=
  ⟨fun z hz => by
    simp only [List.mem_cons, List.not_mem_nil, or_false] at hz
    rcases hz with rfl | rfl | rfl
    · exact (h.head.far2 (by omega) _ _).far2 (by omega) _ _
    · exact (h.tail.head.far2 (by omega) _ _).self2 _ _
    · exact (h.tail.tail.head.self2 _ _).far2 (by omega) _ _,
   (((h.hb.setCell (p := ⟨w.heap.size, 0, none⟩) (Nat.le_refl _) _).setCell (p := ⟨w.heap.size, 1, none⟩) (Nat.le_refl _) _).setCell (p := ⟨w.heap.size + 1, 0, none⟩) (by show _ ≤ w.heap.size + 1; omega) _).setCell (p := ⟨w.heap.size + 1, 1, none⟩) (by show _ ≤ w.heap.size + 1; omega) _⟩

/-- what holds at the head of a round -/
def ComRel (w : World) (G : Int) (W : World) : Prop := ∃ x y : Int, (Int.gcd x y : Int) = G ∧ (0 ≤ x ∧ x ≤ 170141183460469231731687303715884105728 ∧ 0 ≤ y ∧ y ≤ 170141183460469231731687303715884105728) ∧
  PairsK w [(w.heap.size + 1 + 1, .int .u64 0, .int .u64 0), (w.heap.size + 1, .int .u64 (hiW y), .int .u64 (loW y)), (w.heap.size, .int .u64 (hiW x), .int .u64 (loW x))] W

end Go.Proofs.Ytnopgdheffnfdaa
