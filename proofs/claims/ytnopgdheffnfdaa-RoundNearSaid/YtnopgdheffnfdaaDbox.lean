/- What a call of the document's answer of layer 3 keeps while it runs: numbers' blocks, numbers, and what was there before. -/
import Derived.Test.YtnopgdheffnfdaaDany
namespace Go.Proofs.Ytnopgdheffnfdaa
open Go.RowKit

/-- the blocks of L hold what L says; the numbers of M read so; what was there before is as it was -/
structure BZ (w : World) (L : List (Nat × Bool × Value)) (M : List (Bool × Option Addr × Nat × Nat × Int)) (W : World) : Prop where
  al : ∀ x ∈ L, Box W x.1 x.2.1 x.2.2
  nu : ∀ x ∈ M, Zs W x.1 x.2.1 x.2.2.1 x.2.2.2.1 x.2.2.2.2
  hb : Below w.heap.size w W
section
variable {w W W' : World} {L : List (Nat × Bool × Value)} {M : List (Bool × Option Addr × Nat × Nat × Int)}
theorem BZ.below (h : BZ w L M W) (k : Below W.heap.size W W') : BZ w L M W' := ⟨fun x hx => (h.al x hx).below' k, fun x hx => (h.nu x hx).below k, below_thru h.hb k⟩
theorem BZ.drew (h : BZ w L M W) : BZ w L M W.drew := h.below (Below.refl _ _).drew
theorem BZ.kept (lo : Nat) (h : ∀ x ∈ L, x.1 ≤ lo) (hl : w.heap.size ≤ lo) : Kept lo (BZ w L M) :=
  ⟨fun _ _ h k => h.below k,
   fun W b p v r u h' bx hlt => ⟨fun x hx => (h'.al x hx).far2 (by have := h x hx; omega) _ _, fun x hx => (h'.nu x hx).set2 bx.c0 _ _,
     (h'.hb.setCell (p := ⟨b, 0, none⟩) (by show _ ≤ b; omega) _).setCell (p := ⟨b, 1, none⟩) (by show _ ≤ b; omega) _⟩⟩
theorem BZ.pre (h : BZ w L M W) (lo : Nat) (hlo : ∀ x ∈ L, x.1 ≤ lo) (hl : w.heap.size ≤ lo) (hlt : lo < W.heap.size) : PreD lo (BZ w L M) W [] :=
  ⟨BZ.kept lo hlo hl, h, hlt, (fun b h => by cases h), (fun b h => by cases h), List.nodup_nil⟩
theorem BZ.nil (w : World) (M : List (Bool × Option Addr × Nat × Nat × Int)) (h : ∀ x ∈ M, Zs w x.1 x.2.1 x.2.2.1 x.2.2.2.1 x.2.2.2.2) : BZ w [] M w := ⟨fun x hx => absurd hx (by simp), h, Below.refl _ _⟩
theorem BZ.more (h : BZ w L M W) (p : Bool) (v : Value) (t : TypeId) : BZ w ((W.heap.size, p, v) :: L) M (W.alloc (.cells #[.bool p, v] t)) :=
  ⟨fun x hx => by
    rcases List.mem_cons.1 hx with rfl | hx
    · exact Box.new _ _ _ _
    · exact (h.al x hx).below' (below_alloc2 _ _), fun x hx => (h.nu x hx).below (below_alloc2 _ _), below_thru h.hb (below_alloc2 _ _)⟩
theorem BZ.cons (h : BZ w L M W) {g : Nat} {p : Bool} {v : Value} (b : Box W g p v) : BZ w ((g, p, v) :: L) M W :=
  ⟨fun x hx => by
    rcases List.mem_cons.1 hx with rfl | hx
    · exact b
    · exact h.al x hx, h.nu, h.hb⟩
theorem BZ.ncons (h : BZ w L M W) {p : Bool} {A : Option Addr} {n c : Nat} {z : Int} (b : Zs W p A n c z) : BZ w L ((p, A, n, c, z) :: M) W :=
  ⟨h.al, fun x hx => by
    rcases List.mem_cons.1 hx with rfl | hx
    · exact b
    · exact h.nu x hx, h.hb⟩
theorem BZ.head {g : Nat} {p : Bool} {v : Value} (h : BZ w ((g, p, v) :: L) M W) : Box W g p v := h.al (g, p, v) (List.mem_cons_self ..)
theorem BZ.tail {x : Nat × Bool × Value} (h : BZ w (x :: L) M W) : BZ w L M W := ⟨fun y hy => h.al y (List.mem_cons_of_mem _ hy), h.nu, h.hb⟩
theorem BZ.num {p : Bool} {A : Option Addr} {n c : Nat} {z : Int} (h : BZ w L ((p, A, n, c, z) :: M) W) : Zs W p A n c z := h.nu (p, A, n, c, z) (List.mem_cons_self ..)
theorem BZ.nt {x : Bool × Option Addr × Nat × Nat × Int} (h : BZ w L (x :: M) W) : BZ w L M W := ⟨h.al, fun y hy => h.nu y (List.mem_cons_of_mem _ hy), h.hb⟩
end

/-- the quotient that is cut, of the sizes' -/
theorem cut_eq (x y : Int) :
    (decide (x < 0) = decide (y < 0) → ((x.natAbs : Int)).fdiv (y.natAbs : Int) = x.tdiv y) ∧ (decide (x < 0) ≠ decide (y < 0) → -((x.natAbs : Int)).fdiv (y.natAbs : Int) = x.tdiv y) ∧ x - x.tdiv y * y = x.tmod y := by
  have e : ((x.natAbs : Int)).fdiv (y.natAbs : Int) = (x.natAbs : Int) / (y.natAbs : Int) := Int.fdiv_eq_ediv_of_nonneg _ (by omega)
  rw [e]
  refine ⟨fun h => ?_, fun h => ?_, ?_⟩
  · by_cases hx : x < 0
    · have hy : y < 0 := by rw [decide_eq_true hx] at h; exact of_decide_eq_true h.symm
      rw [show (x.natAbs : Int) = -x from by omega, show (y.natAbs : Int) = -y from by omega, ← Int.tdiv_eq_ediv_of_nonneg (by omega), Int.neg_tdiv, Int.tdiv_neg, Int.neg_neg]
    · have hy : ¬ y < 0 := by rw [decide_eq_false hx] at h; exact of_decide_eq_false h.symm
      rw [show (x.natAbs : Int) = x from by omega, show (y.natAbs : Int) = y from by omega, ← Int.tdiv_eq_ediv_of_nonneg (by omega)]
  · by_cases hx : x < 0
    · have hy : ¬ y < 0 := by intro c; rw [decide_eq_true hx, decide_eq_true c] at h; exact h rfl
      rw [show (x.natAbs : Int) = -x from by omega, show (y.natAbs : Int) = y from by omega, ← Int.tdiv_eq_ediv_of_nonneg (by omega), Int.neg_tdiv, Int.neg_neg]
    · have hy : y < 0 := by apply Classical.byContradiction; intro c; rw [decide_eq_false hx, decide_eq_false c] at h; exact h rfl
      rw [show (x.natAbs : Int) = x from by omega, show (y.natAbs : Int) = -y from by omega, ← Int.tdiv_eq_ediv_of_nonneg (by omega), Int.tdiv_neg, Int.neg_neg]
  · rw [Int.tmod_def, Int.mul_comm]
theorem tdiv_le (x y : Int) : (x.tdiv y).natAbs ≤ x.natAbs := by
  rw [Int.natAbs_tdiv]
  exact Nat.div_le_self _ _
theorem tmod_lt (x y : Int) (h0 : y ≠ 0) : (x.tmod y).natAbs < y.natAbs := by
  rw [Int.natAbs_tmod]
  exact Nat.mod_lt _ (by omega)
end Go.Proofs.Ytnopgdheffnfdaa
