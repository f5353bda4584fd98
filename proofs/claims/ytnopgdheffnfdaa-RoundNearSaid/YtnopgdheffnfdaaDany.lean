/- A block for one number that a statement makes anywhere among its calls; what a law keeps, kept while numbers are stored; greatest common divisors. -/
import Derived.Test.YtnopgdheffnfdaaAny
import Derived.Test.YtnopgdheffnfdaaDiv
import Derived.Test.YtnopgdheffnfdaaWkeep
namespace Go.Proofs.Ytnopgdheffnfdaa
open Go.RowKit

/-- the block holds its number -/
structure OneD (lo : Nat) (K : World → Prop) (W : World) (g : Nat) (p : Bool) (A : Option Addr) (n c : Nat) (Q : Int) : Prop where
  keep : Kept lo K
  k : K W
  bx : Box W g p (.slice A n c)
  zx : Zs W p A n c Q
  gg : lo < g
section
variable {lo : Nat} {K : World → Prop} {W W' : World} {L : List Nat} {g : Nat} {p : Bool} {A : Option Addr} {n c : Nat} {Q : Int}
theorem OneD.below (s : OneD lo K W g p A n c Q) (k : Below W.heap.size W W') : OneD lo K W' g p A n c Q := ⟨s.keep, s.keep.below _ _ s.k k, s.bx.below' k, s.zx.below k, s.gg⟩
theorem PreD.one1 (s : PreD lo K W (g :: L)) (z : Zs W p A n c Q) : OneD lo K ((W.setCell ⟨g, 0, none⟩ (.bool p)).setCell ⟨g, 1, none⟩ (.slice A n c)) g p A n c Q :=
  have bx := s.al g (List.mem_cons_self ..)
  have lt := s.ge g (List.mem_cons_self ..)
  ⟨s.keep, s.keep.set2 _ _ _ _ _ _ s.k bx lt, bx.self2 _ _, z.set2 bx.c0 _ _, lt⟩
theorem PreD.one2 (s : PreD lo K W L) (z : Zs W p A n c Q) : OneD lo K (W.alloc (.cells #[.bool p, .slice A n c] 38)) W.heap.size p A n c Q :=
  have k := below_alloc2 W (.cells #[.bool p, .slice A n c] 38)
  ⟨s.keep, s.keep.below _ _ s.k k, Box.new _ _ _ _, z.below k, s.lt⟩
end
/-- What holds behind such a statement. -/
def OneCut (lo : Nat) (K : World → Prop) (Q : Int) (v : Value) (W : World) : Prop :=
  ∃ (g : Nat) (p : Bool) (A : Option Addr) (n c : Nat), v = .pointer (some ⟨g, 0, none⟩) ∧ OneD lo K W g p A n c Q

/-- blocks of two cells stay while a number is stored behind them -/
theorem PairsK.keptZ (w : World) (L : List (Nat × Value × Value)) (lo : Nat) (h : ∀ x ∈ L, x.1 ≤ lo) (hl : w.heap.size ≤ lo) : Kept lo (PairsK w L) :=
  ⟨fun _ _ h k => h.below k,
   fun W b p v r u h' _ hlt => ⟨fun x hx => (h'.al x hx).far2 (by have := h x hx; omega) _ _,
     (h'.hb.setCell (p := ⟨b, 0, none⟩) (by show _ ≤ b; omega) _).setCell (p := ⟨b, 1, none⟩) (by show _ ≤ b; omega) _⟩⟩
theorem PairsK.preZ {w W : World} {L : List (Nat × Value × Value)} (h : PairsK w L W) (lo : Nat) (hlo : ∀ x ∈ L, x.1 ≤ lo) (hl : w.heap.size ≤ lo) (hlt : lo < W.heap.size) : PreD lo (PairsK w L) W [] :=
  ⟨PairsK.keptZ w L lo hlo hl, h, hlt, (fun b h => by cases h), (fun b h => by cases h), List.nodup_nil⟩

/-- a block behind the first four is none of the first two -/
theorem behind4 {s b : Nat} (h : s + 1 + 1 + 1 < b) : b ≠ s ∧ b + 1 ≠ s ∧ b ≠ s + 1 ∧ b + 1 ≠ s + 1 := by omega

/-- how great quotients and rests are -/
theorem fdiv_le (x y : Int) (h0 : y ≠ 0) : (x.fdiv y).natAbs ≤ x.natAbs ∧ (x.fmod y).natAbs < y.natAbs := by
  obtain ⟨k1, k2, k3, k4⟩ := fd_all x y h0
  have hq : x.natAbs / y.natAbs ≤ x.natAbs := Nat.div_le_self _ _
  have hr : x.natAbs % y.natAbs < y.natAbs := Nat.mod_lt _ (by omega)
  have hs : x.natAbs % y.natAbs ≠ 0 → x.natAbs / y.natAbs + 1 ≤ x.natAbs := fun h => by
    rcases Nat.lt_or_ge y.natAbs 2 with h1 | h1
    · have : y.natAbs = 1 := by omega
      rw [this, Nat.mod_one] at h
      exact absurd rfl h
    · have h2 : x.natAbs / y.natAbs ≤ x.natAbs / 2 := Nat.div_le_div_left h1 (by decide)
      have h3 : x.natAbs ≠ 0 := by intro c; rw [c, Nat.zero_mod] at h; exact h rfl
      omega
  generalize x.natAbs / y.natAbs = q at *
  generalize x.natAbs % y.natAbs = r at *
  by_cases hx : x < 0 <;> by_cases hy : y < 0
  · obtain ⟨e1, e2⟩ := k2 hx hy
    omega
  · obtain ⟨f1, f2⟩ := k4 hx hy
    by_cases hm : r = 0
    · obtain ⟨e1, e2⟩ := f1 hm
      omega
    · obtain ⟨e1, e2⟩ := f2 hm
      have := hs hm
      omega
  · obtain ⟨f1, f2⟩ := k3 hx hy
    by_cases hm : r = 0
    · obtain ⟨e1, e2⟩ := f1 hm
      omega
    · obtain ⟨e1, e2⟩ := f2 hm
      have := hs hm
      omega
  · obtain ⟨e1, e2⟩ := k1 hx hy
    omega
theorem quot_small {a b : Int} {k : Nat} (h : a.natAbs < 65536 ^ k) (h0 : b ≠ 0) : (a.fdiv b).natAbs < 65536 ^ k := Nat.lt_of_le_of_lt (fdiv_le a b h0).1 h
theorem rest_small {a b : Int} {k : Nat} (h : b.natAbs < 65536 ^ k) (h0 : b ≠ 0) : (a.fmod b).natAbs < 65536 ^ k := Nat.lt_trans (fdiv_le a b h0).2 h

/-- the greatest common divisor -/
def gcdZ (a b : Int) : Int := (Nat.gcd a.natAbs b.natAbs : Int)
theorem gcdZ_zero (a : Int) : gcdZ a 0 = (a.natAbs : Int) := by unfold gcdZ; simp
theorem gcdZ_step (a b : Int) : gcdZ b (((a.natAbs : Int)).fmod (b.natAbs : Int)) = gcdZ a b := by
  unfold gcdZ
  rw [Int.fmod_eq_emod_of_nonneg _ (by omega), ← Int.natCast_emod, Int.natAbs_natCast, Nat.gcd_comm a.natAbs, Nat.gcd_rec b.natAbs a.natAbs, Nat.gcd_comm]
end Go.Proofs.Ytnopgdheffnfdaa
