/- What package wide's calls Of, Int, Cmp and Sign answer, at any wide numbers. -/
import Derived.Test.YtnopgdheffnfdaaWcarry
import Derived.Deep.RegionHeld3
import Derived.Deep.RegionWith
namespace Go.Proofs.Ytnopgdheffnfdaa
open Go.RowKit

theorem shr63 (n : Int) (h : In64 n) : n / 9223372036854775808 = hiW n := by unfold In64 at h; unfold hiW; omega
theorem u64_of (n : Int) : IntKind.u64.wrap n = loW n := by rw [IntKind.wrap_u64]; rfl

theorem wideOf (n : Int) (h : In64 n) (w : World) : Calls Try.prog 14 #[.int .i64 n] w (RetW w n) := by
  have e1 := shr63 n h
  have e2 := u64_of n
  go_enter Try.func14, Try.ntmps14
  go_wp2
  exact bodyPost_ret (v := .agg #[.int .i64 (hiW n), .int .u64 (loW n)]) (by simp [results, Try.results14, go_sem]) rfl ⟨rfl, below_box _ _⟩

/-- What Int answers. -/
def iv (z : Int) : Int := if In64 z then z else 0
theorem wrap_lo {z : Int} (h : In64 z) : wrap64 (loW z) = z := by unfold In64 at h; unfold wrap64 loW; omega
theorem wrap_no {z : Int} (h : ¬ In64 z) : wrap64 (loW z) ≠ z := by unfold In64 at h; unfold wrap64; omega
theorem wrap_64 (x : Int) : In64 (wrap64 x) := by unfold wrap64 In64; omega
theorem lo_wrap (z : Int) : loW (wrap64 (loW z)) = loW z := by unfold wrap64 loW; omega

/-! how two numbers stand to each other -/
def ord (x y : Int) : Int := if x < y then -1 else if y < x then 1 else 0
theorem ord_lt {x y : Int} (h : x < y) : ord x y = -1 := by unfold ord; rw [if_pos h]
theorem ord_gt {x y : Int} (h : y < x) : ord x y = 1 := by unfold ord; rw [if_neg (by omega), if_pos h]
theorem ord_eq {x y : Int} (h : x = y) : ord x y = 0 := by unfold ord; rw [if_neg (by omega), if_neg (by omega)]
theorem isNaN_i64 (a : Int) (w : World) : Calls Try.prog 59 #[.int .i64 a] w fun e w' => e = .returned (.bool false) ∧ w = w' := by
  go_enter Try.func59, Try.ntmps59
  go_wp2
  go_ret
  exact ⟨rfl, rfl⟩
theorem compare_i64 (a b : Int) (w : World) : Calls Try.prog 43 #[.int .i64 a, .int .i64 b] w fun e w' => e = .returned (.int .i64 (ord a b)) ∧ w = w' := by
  rcases Int.lt_trichotomy a b with h | h | h
  · have e := Lib.hid (ord_lt h)
    go_enter Try.func43, Try.ntmps43
    go_wp2_with (go_at_call 59; refine (isNaN_i64 _ _).mono ?_; rintro e w' ⟨rfl, rfl⟩)
    go_ret
    exact ⟨by rw [e.out]; rfl, rfl⟩
  · have e := Lib.hid (ord_eq h)
    subst h
    go_enter Try.func43, Try.ntmps43
    go_wp2_with (go_at_call 59; refine (isNaN_i64 _ _).mono ?_; rintro e w' ⟨rfl, rfl⟩)
    go_ret
    exact ⟨by rw [e.out]; rfl, rfl⟩
  · have e := Lib.hid (ord_gt h)
    have h1 : ¬ a < b := by omega
    go_enter Try.func43, Try.ntmps43
    go_wp2_with (go_at_call 59; refine (isNaN_i64 _ _).mono ?_; rintro e w' ⟨rfl, rfl⟩)
    go_ret
    exact ⟨by rw [e.out]; rfl, rfl⟩
theorem isNaN_u64 (a : Int) (w : World) : Calls Try.prog 60 #[.int .u64 a] w fun e w' => e = .returned (.bool false) ∧ w = w' := by
  go_enter Try.func60, Try.ntmps60
  go_wp2
  go_ret
  exact ⟨rfl, rfl⟩
theorem compare_u64 (a b : Int) (w : World) : Calls Try.prog 44 #[.int .u64 a, .int .u64 b] w fun e w' => e = .returned (.int .i64 (ord a b)) ∧ w = w' := by
  rcases Int.lt_trichotomy a b with h | h | h
  · have e := Lib.hid (ord_lt h)
    go_enter Try.func44, Try.ntmps44
    go_wp2_with (go_at_call 60; refine (isNaN_u64 _ _).mono ?_; rintro e w' ⟨rfl, rfl⟩)
    go_ret
    exact ⟨by rw [e.out]; rfl, rfl⟩
  · have e := Lib.hid (ord_eq h)
    subst h
    go_enter Try.func44, Try.ntmps44
    go_wp2_with (go_at_call 60; refine (isNaN_u64 _ _).mono ?_; rintro e w' ⟨rfl, rfl⟩)
    go_ret
    exact ⟨by rw [e.out]; rfl, rfl⟩
  · have e := Lib.hid (ord_gt h)
    have h1 : ¬ a < b := by omega
    go_enter Try.func44, Try.ntmps44
    go_wp2_with (go_at_call 60; refine (isNaN_u64 _ _).mono ?_; rintro e w' ⟨rfl, rfl⟩)
    go_ret
    exact ⟨by rw [e.out]; rfl, rfl⟩

theorem ord_hi {a b : Int} (h : ord (hiW a) (hiW b) ≠ 0) : ord a b = ord (hiW a) (hiW b) := by
  rcases Int.lt_trichotomy (hiW a) (hiW b) with k | k | k
  · rw [ord_lt k]; exact ord_lt (by unfold hiW at k; omega)
  · exact absurd (ord_eq k) h
  · rw [ord_gt k]; exact ord_gt (by unfold hiW at k; omega)
theorem ord_lo {a b : Int} (h : ord (hiW a) (hiW b) = 0) : ord a b = ord (loW a) (loW b) := by
  have e : hiW a = hiW b := by
    rcases Int.lt_trichotomy (hiW a) (hiW b) with k | k | k
    · rw [ord_lt k] at h; exact absurd h (by decide)
    · exact k
    · rw [ord_gt k] at h; exact absurd h (by decide)
  unfold hiW at e
  unfold ord loW
  split <;> split <;> (try split) <;> omega
theorem wideCmp (a b : Int) (w : World) :
    Calls Try.prog 24 #[.agg #[.int .i64 (hiW a), .int .u64 (loW a)], .agg #[.int .i64 (hiW b), .int .u64 (loW b)]] w (RetV w (.int .i64 (ord a b))) := by
  have HB := below_thru (below_box w (.cells #[.int .i64 (hiW a), .int .u64 (loW a)] 24)) (below_box _ (.cells #[.int .i64 (hiW b), .int .u64 (loW b)] 24))
  by_cases h : ord (hiW a) (hiW b) = 0
  · have e1 := Lib.hid (ord_lo h)
    go_enter Try.func24, Try.ntmps24
    go_wp2_with (first
      | (go_at_call 43; refine (compare_i64 _ _ _).mono ?_; rintro e w' ⟨rfl, rfl⟩)
      | (go_at_call 44; refine (compare_u64 _ _ _).mono ?_; rintro e w' ⟨rfl, rfl⟩))
    go_ret
    exact ⟨by rw [e1.out]; rfl, HB⟩
  · have e1 := Lib.hid (ord_hi h)
    have h' : (ord (hiW a) (hiW b) == 0) = false := by rw [beq_eq_false_iff_ne]; exact h
    go_enter Try.func24, Try.ntmps24
    go_wp2_with (first
      | (go_at_call 43; refine (compare_i64 _ _ _).mono ?_; rintro e w' ⟨rfl, rfl⟩)
      | (go_at_call 44; refine (compare_u64 _ _ _).mono ?_; rintro e w' ⟨rfl, rfl⟩))
    go_ret
    exact ⟨by rw [e1.out]; rfl, HB⟩
theorem wideSign (a : Int) (w : World) :
    Calls Try.prog 26 #[.agg #[.int .i64 (hiW a), .int .u64 (loW a)]] w (RetV w (.int .i64 (ord a 0))) := by
  have C := fun W => wideCmp a 0 W
  rw [show hiW 0 = 0 from rfl, show loW 0 = 0 from rfl] at C
  go_enter Try.func26, Try.ntmps26
  go_wp2_with (go_at_call 24; refine (C _).mono ?_; rintro e w' ⟨rfl, hb⟩)
  go_ret
  exact ⟨rfl, by first | exact hb | exact below_thru (below_box _ _) hb⟩
end Go.Proofs.Ytnopgdheffnfdaa
