import Derived.Test.YtnkmlfbnfndfpaaGreatDoorGw
import Derived.Test.YtnkmlfbnfndfpaaGreatDoorGb
import Derived.Deep.RegionHeld3
/- The document's answer of layer 3: a quotient and a rest told as wide numbers. -/
namespace Go.Proofs.YtnkmlfbnfndfpaaGreatDoor
open Go.RowKit

/-- the rest's halves, told beside a quotient -/
def hv2 (Q R : Int) : Int := if InW Q then hv R else 0
def lv2 (Q R : Int) : Int := if InW Q then lv R else 0
/-- What a call that answers two wide numbers and an error's number leaves. -/
def RetWWE (w : World) (Q R : Int) (e : Ending) (w' : World) : Prop :=
  e = .returned (.tuple #[.agg #[.int .i64 (hv Q), .int .u64 (lv Q)], .agg #[.int .i64 (hv2 Q R), .int .u64 (lv2 Q R)], .int .i64 (ev Q)]) ∧ Below w.heap.size w w'

/-- two numbers' blocks and two wide ones', just made -/
theorem start4 (w : World) (p q : Bool) (u v : Value) (t t' : TypeId) :
    ∃ W, W = (((w.alloc (.cells #[.bool p, u] t)).alloc (.cells #[.bool q, v] t)).alloc (.cells #[.int .i64 0, .int .u64 0] t')).alloc (.cells #[.int .i64 0, .int .u64 0] t') ∧
      Box W w.heap.size p u ∧ Box W (w.heap.size + 1) q v ∧ PairsK w [(w.heap.size + 1 + 1 + 1, .int .i64 0, .int .u64 0), (w.heap.size + 1 + 1, .int .i64 0, .int .u64 0)] W := by
  refine ⟨_, rfl, ?_, ?_, ?_⟩
  · exact (((Box.new w p u t).below' (below_alloc2 _ _)).below' (below_alloc2 _ _)).below' (below_alloc2 _ _)
  · have := ((Box.new (w.alloc (.cells #[.bool p, u] t)) q v t).below' (below_alloc2 _ (.cells #[.int .i64 0, .int .u64 0] t'))).below' (below_alloc2 _ (.cells #[.int .i64 0, .int .u64 0] t'))
    rwa [World.size_alloc] at this
  · have k : PairsK w [] ((w.alloc (.cells #[.bool p, u] t)).alloc (.cells #[.bool q, v] t)) := ((PairsK.nil w).below (below_alloc2 _ _)).below (below_alloc2 _ _)
    have := (k.more (.int .i64 0) (.int .u64 0) t').more (.int .i64 0) (.int .u64 0) t'
    simp only [World.size_alloc] at this
    exact this

end Go.Proofs.YtnkmlfbnfndfpaaGreatDoor

/- A block for one number that a statement makes anywhere among its calls; what a law keeps, kept while numbers are stored; greatest common divisors. -/
namespace Go.Proofs.YtnkmlfbnfndfpaaGreatDoor
open Go.RowKit

/-- the block holds its number -/
structure OneD (lo : Nat) (K : World → Prop) (W : World) (g : Nat) (p : Bool) (A : Option Addr) (n c : Nat) (Q : Int) : Prop where
  keep : Kept lo K
  k : K W
  bx : Box W g p (.slice A n c)
  zx : Zs W p A n c Q
  gg : lo < g
section
variable {lo : Nat} {K : World → Prop} {W W' : World} {L : List Nat} {g : Nat} {p : Bool} {A : Option Addr} {n c : Nat} {Q : Int}
theorem OneD.below (s : OneD lo K W g p A n c Q) (k : Below W.heap.size W W') : OneD lo K W' g p A n c Q := ⟨s.keep, s.keep.below _ _ s.k k, s.bx.below' k, s.zx.below k, s.gg⟩
theorem PreD.one1 (s : PreD lo K W (g :: L)) (z : Zs W p A n c Q) : OneD lo K ((W.setCell ⟨g, 0, none⟩ (.bool p)).setCell ⟨g, 1, none⟩ (.slice A n c)) g p A n c Q :=
  have bx := s.al g (List.mem_cons_self ..)
  have lt := s.ge g (List.mem_cons_self ..)
  ⟨s.keep, s.keep.set2 _ _ _ _ _ _ s.k bx lt, bx.self2 _ _, z.set2 bx.c0 _ _, lt⟩
end
/-- What holds behind such a statement. -/
def OneCut (lo : Nat) (K : World → Prop) (Q : Int) (v : Value) (W : World) : Prop :=
  ∃ (g : Nat) (p : Bool) (A : Option Addr) (n c : Nat), v = .pointer (some ⟨g, 0, none⟩) ∧ OneD lo K W g p A n c Q

/-- blocks of two cells stay while a number is stored behind them -/
theorem PairsK.keptZ (w : World) (L : List (Nat × Value × Value)) (lo : Nat) (h : ∀ x ∈ L, x.1 ≤ lo) (hl : w.heap.size ≤ lo) : Kept lo (PairsK w L) :=
  ⟨fun _ _ h k => h.below k,
   fun W b p v r u h' _ hlt => ⟨fun x hx => (h'.al x hx).far2 (by have := h x hx; omega) _ _,
     (h'.hb.setCell (p := ⟨b, 0, none⟩) (by show _ ≤ b; omega) _).setCell (p := ⟨b, 1, none⟩) (by show _ ≤ b; omega) _⟩⟩
theorem PairsK.preZ {w W : World} {L : List (Nat × Value × Value)} (h : PairsK w L W) (lo : Nat) (hlo : ∀ x ∈ L, x.1 ≤ lo) (hl : w.heap.size ≤ lo) (hlt : lo < W.heap.size) : PreD lo (PairsK w L) W [] :=
  ⟨PairsK.keptZ w L lo hlo hl, h, hlt, (fun b h => by cases h), (fun b h => by cases h), List.nodup_nil⟩

/-- a block behind the first four is none of the first two -/
theorem behind4 {s b : Nat} (h : s + 1 + 1 + 1 < b) : b ≠ s ∧ b + 1 ≠ s ∧ b ≠ s + 1 ∧ b + 1 ≠ s + 1 := by omega

/-- how great quotients and rests are -/
theorem fdiv_le (x y : Int) (h0 : y ≠ 0) : (x.fdiv y).natAbs ≤ x.natAbs ∧ (x.fmod y).natAbs < y.natAbs := by
  obtain ⟨k1, k2, k3, k4⟩ := fd_all x y h0
  have hq : x.natAbs / y.natAbs ≤ x.natAbs := Nat.div_le_self _ _
  have hr : x.natAbs % y.natAbs < y.natAbs := Nat.mod_lt _ (by omega)
  have hs : x.natAbs % y.natAbs ≠ 0 → x.natAbs / y.natAbs + 1 ≤ x.natAbs := fun h => by
    rcases Nat.lt_or_ge y.natAbs 2 with h1 | h1
    · have : y.natAbs = 1 := by omega
      rw [this, Nat.mod_one] at h
      exact absurd rfl h
    · have h2 : x.natAbs / y.natAbs ≤ x.natAbs / 2 := Nat.div_le_div_left h1 (by decide)
      have h3 : x.natAbs ≠ 0 := by intro c; rw [c, Nat.zero_mod] at h; exact h rfl
      omega
  generalize x.natAbs / y.natAbs = q at *
  generalize x.natAbs % y.natAbs = r at *
  by_cases hx : x < 0 <;> by_cases hy : y < 0
  · obtain ⟨e1, e2⟩ := k2 hx hy
    omega
  · obtain ⟨f1, f2⟩ := k4 hx hy
    by_cases hm : r = 0
    · obtain ⟨e1, e2⟩ := f1 hm
      omega
    · obtain ⟨e1, e2⟩ := f2 hm
      have := hs hm
      omega
  · obtain ⟨f1, f2⟩ := k3 hx hy
    by_cases hm : r = 0
    · obtain ⟨e1, e2⟩ := f1 hm
      omega
    · obtain ⟨e1, e2⟩ := f2 hm
      have := hs hm
      omega
  · obtain ⟨e1, e2⟩ := k1 hx hy
    omega
theorem quot_small {a b : Int} {k : Nat} (h : a.natAbs < 65536 ^ k) (h0 : b ≠ 0) : (a.fdiv b).natAbs < 65536 ^ k := Nat.lt_of_le_of_lt (fdiv_le a b h0).1 h
theorem rest_small {a b : Int} {k : Nat} (h : b.natAbs < 65536 ^ k) (h0 : b ≠ 0) : (a.fmod b).natAbs < 65536 ^ k := Nat.lt_trans (fdiv_le a b h0).2 h

/-- the greatest common divisor -/
def gcdZ (a b : Int) : Int := (Nat.gcd a.natAbs b.natAbs : Int)
theorem gcdZ_zero (a : Int) : gcdZ a 0 = (a.natAbs : Int) := by unfold gcdZ; simp
theorem gcdZ_step (a b : Int) : gcdZ b (((a.natAbs : Int)).fmod (b.natAbs : Int)) = gcdZ a b := by
  unfold gcdZ
  rw [Int.fmod_eq_emod_of_nonneg _ (by omega), ← Int.natCast_emod, Int.natAbs_natCast, Nat.gcd_comm a.natAbs, Nat.gcd_rec b.natAbs a.natAbs, Nat.gcd_comm]
end Go.Proofs.YtnkmlfbnfndfpaaGreatDoor

/- What a call of the document's answer of layer 3 keeps while it runs: numbers' blocks, numbers, and what was there before. -/
namespace Go.Proofs.YtnkmlfbnfndfpaaGreatDoor
open Go.RowKit

/-- the blocks of L hold what L says; the numbers of M read so; what was there before is as it was -/
structure BZ (w : World) (L : List (Nat × Bool × Value)) (M : List (Bool × Option Addr × Nat × Nat × Int)) (W : World) : Prop where
  al : ∀ x ∈ L, Box W x.1 x.2.1 x.2.2
  nu : ∀ x ∈ M, Zs W x.1 x.2.1 x.2.2.1 x.2.2.2.1 x.2.2.2.2
  hb : Below w.heap.size w W
section
variable {w W W' : World} {L : List (Nat × Bool × Value)} {M : List (Bool × Option Addr × Nat × Nat × Int)}
theorem BZ.below (h : BZ w L M W) (k : Below W.heap.size W W') : BZ w L M W' := ⟨fun x hx => (h.al x hx).below' k, fun x hx => (h.nu x hx).below k, below_thru h.hb k⟩
theorem BZ.drew (h : BZ w L M W) : BZ w L M W.drew := h.below (Below.refl _ _).drew
theorem BZ.kept (lo : Nat) (h : ∀ x ∈ L, x.1 ≤ lo) (hl : w.heap.size ≤ lo) : Kept lo (BZ w L M) :=
  ⟨fun _ _ h k => h.below k,
   fun W b p v r u h' bx hlt => ⟨fun x hx => (h'.al x hx).far2 (by have := h x hx; omega) _ _, fun x hx => (h'.nu x hx).set2 bx.c0 _ _,
     (h'.hb.setCell (p := ⟨b, 0, none⟩) (by show _ ≤ b; omega) _).setCell (p := ⟨b, 1, none⟩) (by show _ ≤ b; omega) _⟩⟩
theorem BZ.pre (h : BZ w L M W) (lo : Nat) (hlo : ∀ x ∈ L, x.1 ≤ lo) (hl : w.heap.size ≤ lo) (hlt : lo < W.heap.size) : PreD lo (BZ w L M) W [] :=
  ⟨BZ.kept lo hlo hl, h, hlt, (fun b h => by cases h), (fun b h => by cases h), List.nodup_nil⟩
theorem BZ.nil (w : World) (M : List (Bool × Option Addr × Nat × Nat × Int)) (h : ∀ x ∈ M, Zs w x.1 x.2.1 x.2.2.1 x.2.2.2.1 x.2.2.2.2) : BZ w [] M w := ⟨fun x hx => absurd hx (by simp), h, Below.refl _ _⟩
theorem BZ.more (h : BZ w L M W) (p : Bool) (v : Value) (t : TypeId) : BZ w ((W.heap.size, p, v) :: L) M (W.alloc (.cells #[.bool p, v] t)) :=
  ⟨fun x hx => by
    rcases List.mem_cons.1 hx with rfl | hx
    · exact Box.new _ _ _ _
    · exact (h.al x hx).below' (below_alloc2 _ _), fun x hx => (h.nu x hx).below (below_alloc2 _ _), below_thru h.hb (below_alloc2 _ _)⟩
theorem BZ.cons (h : BZ w L M W) {g : Nat} {p : Bool} {v : Value} (b : Box W g p v) : BZ w ((g, p, v) :: L) M W :=
  ⟨fun x hx => by
    rcases List.mem_cons.1 hx with rfl | hx
    · exact b
    · exact h.al x hx, h.nu, h.hb⟩
theorem BZ.ncons (h : BZ w L M W) {p : Bool} {A : Option Addr} {n c : Nat} {z : Int} (b : Zs W p A n c z) : BZ w L ((p, A, n, c, z) :: M) W :=
  ⟨h.al, fun x hx => by
    rcases List.mem_cons.1 hx with rfl | hx
    · exact b
    · exact h.nu x hx, h.hb⟩
theorem BZ.head {g : Nat} {p : Bool} {v : Value} (h : BZ w ((g, p, v) :: L) M W) : Box W g p v := h.al (g, p, v) (List.mem_cons_self ..)
theorem BZ.tail {x : Nat × Bool × Value} (h : BZ w (x :: L) M W) : BZ w L M W := ⟨fun y hy => h.al y (List.mem_cons_of_mem _ hy), h.nu, h.hb⟩
theorem BZ.num {p : Bool} {A : Option Addr} {n c : Nat} {z : Int} (h : BZ w L ((p, A, n, c, z) :: M) W) : Zs W p A n c z := h.nu (p, A, n, c, z) (List.mem_cons_self ..)
theorem BZ.nt {x : Bool × Option Addr × Nat × Nat × Int} (h : BZ w L (x :: M) W) : BZ w L M W := ⟨h.al, fun y hy => h.nu y (List.mem_cons_of_mem _ hy), h.hb⟩
end

/-- the quotient that is cut, of the sizes' -/
theorem cut_eq (x y : Int) :
    (decide (x < 0) = decide (y < 0) → ((x.natAbs : Int)).fdiv (y.natAbs : Int) = x.tdiv y) ∧ (decide (x < 0) ≠ decide (y < 0) → -((x.natAbs : Int)).fdiv (y.natAbs : Int) = x.tdiv y) ∧ x - x.tdiv y * y = x.tmod y := by
  have e : ((x.natAbs : Int)).fdiv (y.natAbs : Int) = (x.natAbs : Int) / (y.natAbs : Int) := Int.fdiv_eq_ediv_of_nonneg _ (by omega)
  rw [e]
  refine ⟨fun h => ?_, fun h => ?_, ?_⟩
  · by_cases hx : x < 0
    · have hy : y < 0 := by rw [decide_eq_true hx] at h; exact of_decide_eq_true h.symm
      rw [show (x.natAbs : Int) = -x from by omega, show (y.natAbs : Int) = -y from by omega, ← Int.tdiv_eq_ediv_of_nonneg (by omega), Int.neg_tdiv, Int.tdiv_neg, Int.neg_neg]
    · have hy : ¬ y < 0 := by rw [decide_eq_false hx] at h; exact of_decide_eq_false h.symm
      rw [show (x.natAbs : Int) = x from by omega, show (y.natAbs : Int) = y from by omega, ← Int.tdiv_eq_ediv_of_nonneg (by omega)]
  · by_cases hx : x < 0
    · have hy : ¬ y < 0 := by intro c; rw [decide_eq_true hx, decide_eq_true c] at h; exact h rfl
      rw [show (x.natAbs : Int) = -x from by omega, show (y.natAbs : Int) = y from by omega, ← Int.tdiv_eq_ediv_of_nonneg (by omega), Int.neg_tdiv, Int.neg_neg]
    · have hy : y < 0 := by apply Classical.byContradiction; intro c; rw [decide_eq_false hx, decide_eq_false c] at h; exact h rfl
      rw [show (x.natAbs : Int) = x from by omega, show (y.natAbs : Int) = -y from by omega, ← Int.tdiv_eq_ediv_of_nonneg (by omega), Int.tdiv_neg, Int.neg_neg]
  · rw [Int.tmod_def, Int.mul_comm]
theorem tdiv_le (x y : Int) : (x.tdiv y).natAbs ≤ x.natAbs := by
  rw [Int.natAbs_tdiv]
  exact Nat.div_le_self _ _
theorem tmod_lt (x y : Int) (h0 : y ≠ 0) : (x.tmod y).natAbs < y.natAbs := by
  rw [Int.natAbs_tmod]
  exact Nat.mod_lt _ (by omega)
end Go.Proofs.YtnkmlfbnfndfpaaGreatDoor

/- The document's answer of layer 3: quotients that are rounded down. -/
namespace Go.Proofs.YtnkmlfbnfndfpaaGreatDoor
open Go.RowKit

/-- What a call that refuses leaves. -/
def RetRef (w : World) (n : Int) (e : Ending) (w' : World) : Prop := e = .returned (.tuple #[.agg #[.int .i64 0, .int .u64 0], .agg #[.int .i64 0, .int .u64 0], .int .i64 n]) ∧ Below w.heap.size w w'

end Go.Proofs.YtnkmlfbnfndfpaaGreatDoor

/- The document's answer of layer 3: quotients that are cut towards 0. -/
namespace Go.Proofs.YtnkmlfbnfndfpaaGreatDoor
open Go.RowKit

end Go.Proofs.YtnkmlfbnfndfpaaGreatDoor

/- The document's answer of layer 3: greatest common divisors. -/
namespace Go.Proofs.YtnkmlfbnfndfpaaGreatDoor
open Go.RowKit

theorem behind3 {s b : Nat} (h : s + 1 + 1 < b) : b ≠ s ∧ b + 1 ≠ s ∧ b ≠ s + 1 ∧ b + 1 ≠ s + 1 := by omega

end Go.Proofs.YtnkmlfbnfndfpaaGreatDoor

/- The document's answer of layer 3: quotients that are cut towards 0, told. -/
namespace Go.Proofs.YtnkmlfbnfndfpaaGreatDoor
open Go.RowKit

end Go.Proofs.YtnkmlfbnfndfpaaGreatDoor

/- The document's answer of layer 3: fractions in their lowest terms. -/
namespace Go.Proofs.YtnkmlfbnfndfpaaGreatDoor
open Go.RowKit

/-- the greatest common divisor with the sign of the number below -/
def gcdS (x y : Int) : Int := if y < 0 then -gcdZ x y else gcdZ x y
theorem gcdS_ne (x y : Int) (h : y ≠ 0) : gcdS x y ≠ 0 := by
  have : gcdZ x y ≠ 0 := by
    unfold gcdZ
    have := Nat.gcd_pos_of_pos_right x.natAbs (n := y.natAbs) (by omega)
    omega
  unfold gcdS
  split <;> omega
theorem gcdZ_small (x y : Int) (h : y ≠ 0) (sy : y.natAbs < 65536 ^ 9) : (gcdZ x y).natAbs < 65536 ^ 9 := by
  unfold gcdZ
  rw [Int.natAbs_natCast]
  exact Nat.lt_of_le_of_lt (Nat.gcd_le_right _ (by omega)) sy
theorem gcdS_small (x y : Int) (h : y ≠ 0) (sy : y.natAbs < 65536 ^ 9) : (gcdS x y).natAbs < 65536 ^ 9 := by
  have := gcdZ_small x y h sy
  unfold gcdS
  split <;> omega

end Go.Proofs.YtnkmlfbnfndfpaaGreatDoor

/- The document's answer of layer 3: a fraction in its lowest terms, told. -/
namespace Go.Proofs.YtnkmlfbnfndfpaaGreatDoor
open Go.RowKit

/-- what is told of a fraction -/
def fv (P Q v : Int) : Int := if InW P ∧ InW Q then v else 0
def fe (P Q : Int) : Int := if InW P ∧ InW Q then 0 else 2
/-- What a call that answers a fraction leaves. -/
def RetFr (w : World) (P Q : Int) (e : Ending) (w' : World) : Prop :=
  e = .returned (.tuple #[.agg #[.int .i64 (fv P Q (hiW P)), .int .u64 (fv P Q (loW P))], .agg #[.int .i64 (fv P Q (hiW Q)), .int .u64 (fv P Q (loW Q))], .int .i64 (fe P Q)]) ∧ Below w.heap.size w w'

end Go.Proofs.YtnkmlfbnfndfpaaGreatDoor
