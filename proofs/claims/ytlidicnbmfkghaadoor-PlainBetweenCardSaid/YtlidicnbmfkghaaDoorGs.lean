import Derived.Test.YtlidicnbmfkghaaDoorGd
import Derived.Test.YtlidicnbmfkghaaDoorGr
import Derived.Test.YtlidicnbmfkghaaDoorGv
import Derived.Deep.RegionHeld3
import Derived.Test.YtlidicnbmfkghaaDoorGm
/- The document's answer of layer 4: a fraction rounded to a whole number. -/
namespace Go.Proofs.YtlidicnbmfkghaaDoor
open Go.RowKit

/-- What a call that answers a number and true leaves. -/
def RetNB (w : World) (z : Int) (e : Ending) (w' : World) : Prop := ∃ (p : Bool) (A : Option Addr) (n c : Nat), e = .returned (.tuple #[.agg #[.bool p, .slice A n c], .bool true]) ∧ Zs w' p A n c z ∧ Below w.heap.size w w'
/-- which one is taken: the signs of the number and of the rest's double held against the step are known -/
def pickN (lo sn hf mode : Int) : Int :=
  if 5 ≤ mode ∧ hf < 0 then lo
  else if 5 ≤ mode ∧ 0 < hf then lo + 1
  else if mode = 1 ∨ mode = 5 then lo + 1
  else if mode = 2 ∨ mode = 6 then lo
  else if mode = 3 ∨ mode = 7 then (if sn < 0 then lo else lo + 1)
  else if mode = 4 ∨ mode = 8 then (if sn < 0 then lo + 1 else lo)
  else if lo % 2 = 0 then lo else lo + 1
theorem pk_low {lo sn hf m : Int} (h5 : 5 ≤ m) (h : hf < 0) : pickN lo sn hf m = lo := by unfold pickN; rw [if_pos ⟨h5, h⟩]
theorem pk_high {lo sn hf m : Int} (h5 : 5 ≤ m) (h : 0 < hf) : pickN lo sn hf m = lo + 1 := by unfold pickN; rw [if_neg (by omega), if_pos ⟨h5, h⟩]
theorem pk_rest {lo sn hf m : Int} (h : m < 5 ∨ ¬ hf < 0 ∧ ¬ 0 < hf) : pickN lo sn hf m = (if m = 1 ∨ m = 5 then lo + 1 else if m = 2 ∨ m = 6 then lo else if m = 3 ∨ m = 7 then (if sn < 0 then lo else lo + 1) else if m = 4 ∨ m = 8 then (if sn < 0 then lo + 1 else lo) else if lo % 2 = 0 then lo else lo + 1) := by unfold pickN; rw [if_neg (by omega), if_neg (by omega)]
theorem pk_15 {lo sn hf m : Int} (h : m < 5 ∨ ¬ hf < 0 ∧ ¬ 0 < hf) (hm : m = 1 ∨ m = 5) : pickN lo sn hf m = lo + 1 := by rw [pk_rest h, if_pos hm]
theorem pk_26 {lo sn hf m : Int} (h : m < 5 ∨ ¬ hf < 0 ∧ ¬ 0 < hf) (hm : m = 2 ∨ m = 6) : pickN lo sn hf m = lo := by rw [pk_rest h, if_neg (by omega), if_pos hm]
theorem pk_37n {lo sn hf m : Int} (h : m < 5 ∨ ¬ hf < 0 ∧ ¬ 0 < hf) (hm : m = 3 ∨ m = 7) (hs : sn < 0) : pickN lo sn hf m = lo := by rw [pk_rest h, if_neg (by omega), if_neg (by omega), if_pos hm, if_pos hs]
theorem pk_37p {lo sn hf m : Int} (h : m < 5 ∨ ¬ hf < 0 ∧ ¬ 0 < hf) (hm : m = 3 ∨ m = 7) (hs : ¬ sn < 0) : pickN lo sn hf m = lo + 1 := by rw [pk_rest h, if_neg (by omega), if_neg (by omega), if_pos hm, if_neg hs]
theorem pk_48n {lo sn hf m : Int} (h : m < 5 ∨ ¬ hf < 0 ∧ ¬ 0 < hf) (hm : m = 4 ∨ m = 8) (hs : sn < 0) : pickN lo sn hf m = lo + 1 := by rw [pk_rest h, if_neg (by omega), if_neg (by omega), if_neg (by omega), if_pos hm, if_pos hs]
theorem pk_48p {lo sn hf m : Int} (h : m < 5 ∨ ¬ hf < 0 ∧ ¬ 0 < hf) (hm : m = 4 ∨ m = 8) (hs : ¬ sn < 0) : pickN lo sn hf m = lo := by rw [pk_rest h, if_neg (by omega), if_neg (by omega), if_neg (by omega), if_pos hm, if_neg hs]
theorem pk_9e {lo sn hf : Int} (h : ¬ hf < 0) (h' : ¬ 0 < hf) (he : lo % 2 = 0) : pickN lo sn hf 9 = lo := by rw [pk_rest (.inr ⟨h, h'⟩), if_neg (by omega), if_neg (by omega), if_neg (by omega), if_neg (by omega), if_pos he]
theorem pk_9o {lo sn hf : Int} (h : ¬ hf < 0) (h' : ¬ 0 < hf) (he : ¬ lo % 2 = 0) : pickN lo sn hf 9 = lo + 1 := by rw [pk_rest (.inr ⟨h, h'⟩), if_neg (by omega), if_neg (by omega), if_neg (by omega), if_neg (by omega), if_neg he]
/-- the first digit tells whether a number is even -/
theorem first_even (z : Int) : ((((digs z.natAbs).getD 0 0 : Nat) : Int)) % 2 = z % 2 := by
  by_cases h : z.natAbs = 0
  · rw [h, digs_zero]
    have : z = 0 := by omega
    rw [this]; rfl
  · have e := val_digs z.natAbs
    obtain ⟨d, l, hl⟩ : ∃ d l, digs z.natAbs = d :: l := by
      cases hd : digs z.natAbs with
      | nil => rw [hd] at e; exact absurd e.symm (by simpa [val] using h)
      | cons d l => exact ⟨d, l, rfl⟩
    rw [hl] at e ⊢
    simp only [val] at e
    simp only [List.getD_cons_zero]
    omega
theorem ofu_one (w : World) : Calls Tryd.prog 43 #[.int .u64 1] w (RetZ w 1) := ofu_any 1 w (by decide)

end Go.Proofs.YtlidicnbmfkghaaDoor

/- The document's answer of layer 4: numbers and fractions rounded, out of what their calls answer. -/
namespace Go.Proofs.YtlidicnbmfkghaaDoor
open Go.RowKit

end Go.Proofs.YtlidicnbmfkghaaDoor

/- The document's answer of layer 4 at a mode that is none. -/
namespace Go.Proofs.YtlidicnbmfkghaaDoor
open Go.RowKit

end Go.Proofs.YtlidicnbmfkghaaDoor

/- The document's answer of layer 4, at any numbers: Near, To and Ratio. -/
namespace Go.Proofs.YtlidicnbmfkghaaDoor
open Go.RowKit

theorem cmpZ_neg (x y : Int) : cmpZ x y < 0 ↔ x < y := by
  rcases Int.lt_trichotomy x y with h | h | h
  · rw [cmpZ_lt h]; omega
  · rw [cmpZ_eq h]; omega
  · rw [cmpZ_gt h]; omega
theorem cmpZ_pos (x y : Int) : 0 < cmpZ x y ↔ y < x := by
  rcases Int.lt_trichotomy x y with h | h | h
  · rw [cmpZ_lt h]; omega
  · rw [cmpZ_eq h]; omega
  · rw [cmpZ_gt h]; omega
theorem pick_near {x y m : Int} (h0 : x % y ≠ 0) : pickN (x / y) (cmpZ x 0) (cmpZ (x % y + x % y) y) m = nearZ x y m := by
  have c1 : cmpZ (x % y + x % y) y < 0 ↔ 2 * (x % y) < y := by rw [cmpZ_neg]; omega
  have c2 : 0 < cmpZ (x % y + x % y) y ↔ y < 2 * (x % y) := by rw [cmpZ_pos]; omega
  have c3 : cmpZ x 0 < 0 ↔ x < 0 := cmpZ_neg x 0
  unfold nearZ
  rw [if_neg h0]
  unfold pickN upR
  simp only [c1, c2, c3]
  by_cases a1 : 5 ≤ m ∧ 2 * (x % y) < y
  · rw [if_pos a1, if_pos a1]; simp
  · rw [if_neg a1, if_neg a1]
    by_cases a2 : 5 ≤ m ∧ y < 2 * (x % y)
    · rw [if_pos a2, if_pos a2]; simp
    · rw [if_neg a2, if_neg a2]
      by_cases a3 : m = 1 ∨ m = 5
      · rw [if_pos a3, if_pos a3]; simp
      · rw [if_neg a3, if_neg a3]
        by_cases a4 : m = 2 ∨ m = 6
        · rw [if_pos a4, if_pos a4]; simp
        · rw [if_neg a4, if_neg a4]
          by_cases a5 : m = 3 ∨ m = 7
          · rw [if_pos a5, if_pos a5]
            by_cases a6 : x < 0
            · rw [if_pos a6, decide_eq_false (by omega)]; simp
            · rw [if_neg a6, decide_eq_true (by omega)]; simp
          · rw [if_neg a5, if_neg a5]
            by_cases a7 : m = 4 ∨ m = 8
            · rw [if_pos a7, if_pos a7]
              by_cases a6 : x < 0
              · rw [if_pos a6, decide_eq_true a6]; simp
              · rw [if_neg a6, decide_eq_false a6]; simp
            · rw [if_neg a7, if_neg a7]
              by_cases a8 : x / y % 2 = 0
              · rw [if_pos a8, decide_eq_false (by omega)]; simp
              · rw [if_neg a8, decide_eq_true a8]; simp
theorem near_le {x y m : Int} (hy : 0 < y) : (nearZ x y m).natAbs ≤ x.natAbs + 1 := by
  have e := (floor_parts (n := x) hy).1
  have h := (fdiv_le x y (by omega)).1
  rw [e] at h
  rcases near_two (n := x) (d := y) (m := m) with k | ⟨k, _⟩ <;> omega
end Go.Proofs.YtlidicnbmfkghaaDoor
