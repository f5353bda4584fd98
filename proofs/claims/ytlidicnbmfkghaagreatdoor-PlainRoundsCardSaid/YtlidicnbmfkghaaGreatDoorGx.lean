import Derived.Test.YtlidicnbmfkghaaGreatDoorGw
import Derived.WalkKit
import Derived.OpenShut
import Derived.LoopTactic
import Derived.Outline
import Derived.Laws.Externs
import Derived.Laws.Bits64b
import Derived.Shelf.Spec.BitsCarry
import Derived.Deep.RegionHeld3
import Derived.Deep.RegionWith
/- Sums with a carry, differences with a borrow (math/bits); two numbers whose bits do not meet. -/
namespace Go.Proofs.YtlidicnbmfkghaaGreatDoor
open Go.RowKit

theorem add64 (x y c : Int) (hx : 0 ≤ x) (hy : 0 ≤ y) (hc0 : 0 ≤ c) (hc : c ≤ 1) (w : World) : (callFunc 87 #[.int .u64 x, .int .u64 y, .int .u64 c]).run Tryz.prog w =
    .ok (.value (.tuple #[.int .u64 ((x + y + c) % 18446744073709551616), .int .u64 ((x + y + c) / 18446744073709551616)])) w := by
  rw [run_callFunc_extern Tryz.func87 (by kernel_rfl) (by kernel_rfl) (by kernel_rfl) (e := add64Entry) (by kernel_rfl), run_add64 x y c hx hy hc0 hc]
  rfl
theorem add64_0 (x y : Int) (hx : 0 ≤ x) (hy : 0 ≤ y) (w : World) : (callFunc 87 #[.int .u64 x, .int .u64 y, .int .u64 0]).run Tryz.prog w =
    .ok (.value (.tuple #[.int .u64 ((x + y) % 18446744073709551616), .int .u64 ((x + y) / 18446744073709551616)])) w := by
  simpa using add64 x y 0 hx hy (Int.le_refl 0) (by decide) w

/-- the borrow -/
def bor (x y : Int) : Int := if x < y then 1 else 0
theorem sub64 (x y b : Int) (hx : 0 ≤ x) (hy : 0 ≤ y) (hy' : y < 18446744073709551616) (hb0 : 0 ≤ b) (hb : b ≤ 1) (w : World) : (callFunc 106 #[.int .u64 x, .int .u64 y, .int .u64 b]).run Tryz.prog w =
    .ok (.value (.tuple #[.int .u64 ((x - y - b) % 18446744073709551616), .int .u64 (bor x (y + b))])) w := by
  obtain ⟨x, rfl⟩ := Int.eq_ofNat_of_zero_le hx
  obtain ⟨y, rfl⟩ := Int.eq_ofNat_of_zero_le hy
  obtain ⟨b, rfl⟩ := Int.eq_ofNat_of_zero_le hb0
  have e1 : (((x + 18446744073709551616 - y - b) % 18446744073709551616 : Nat) : Int) = ((x : Int) - y - b) % 18446744073709551616 := by omega
  have e2 : ((if x < y + b then 1 else 0 : Nat) : Int) = bor (x : Int) (y + b) := by unfold bor; split <;> split <;> omega
  rw [← e1, ← e2, run_callFunc_extern Tryz.func106 (by kernel_rfl) (by kernel_rfl) (by kernel_rfl) (e := sub64Entry) (by kernel_rfl), run_sub64 x y b (by omega)]
  rfl
theorem sub64_0 (x y : Int) (hx : 0 ≤ x) (hy : 0 ≤ y) (hy' : y < 18446744073709551616) (w : World) : (callFunc 106 #[.int .u64 x, .int .u64 y, .int .u64 0]).run Tryz.prog w =
    .ok (.value (.tuple #[.int .u64 ((x - y) % 18446744073709551616), .int .u64 (bor x y)])) w := by
  simpa using sub64 x y 0 hx hy hy' (Int.le_refl 0) (by decide) w

theorem bits_or_disj (a b k : Nat) (ha : a % 2 ^ k = 0) (hb : b < 2 ^ k) (h : a + b < 18446744073709551616) :
    bits .or .u64 (a : Int) (b : Int) = ((a + b : Nat) : Int) := by
  rw [bits_or_u64_nat a b (by omega) (by omega)]
  congr 1
  have e : a = a / 2 ^ k * 2 ^ k := (Nat.div_mul_cancel (Nat.dvd_of_mod_eq_zero ha)).symm
  rw [e, ← Nat.shiftLeft_eq, Nat.shiftLeft_add_eq_or_of_lt hb]
end Go.Proofs.YtlidicnbmfkghaaGreatDoor

/- What package wide's calls Of, Int, Cmp and Sign answer, at any wide numbers. -/
namespace Go.Proofs.YtlidicnbmfkghaaGreatDoor
open Go.RowKit

theorem shr63 (n : Int) (h : In64 n) : n / 9223372036854775808 = hiW n := by unfold In64 at h; unfold hiW; omega
theorem u64_of (n : Int) : IntKind.u64.wrap n = loW n := by rw [IntKind.wrap_u64]; rfl

set_option maxRecDepth 100000 in
theorem wideOf (n : Int) (h : In64 n) (w : World) : Calls Tryz.prog 15 #[.int .i64 n] w (RetW w n) := by
  have e1 := shr63 n h
  have e2 := u64_of n
  go_enter Tryz.func15, Tryz.ntmps15
  go_wp2
  exact bodyPost_ret (v := .agg #[.int .i64 (hiW n), .int .u64 (loW n)]) (by simp [results, Tryz.results15, go_sem]) rfl ⟨rfl, below_box _ _⟩

/-- What Int answers. -/
def iv (z : Int) : Int := if In64 z then z else 0
theorem wrap_lo {z : Int} (h : In64 z) : wrap64 (loW z) = z := by unfold In64 at h; unfold wrap64 loW; omega
theorem wrap_no {z : Int} (h : ¬ In64 z) : wrap64 (loW z) ≠ z := by unfold In64 at h; unfold wrap64; omega
theorem wrap_64 (x : Int) : In64 (wrap64 x) := by unfold wrap64 In64; omega
theorem lo_wrap (z : Int) : loW (wrap64 (loW z)) = loW z := by unfold wrap64 loW; omega

set_option maxRecDepth 100000 in
theorem wideInt (z : Int) (w : World) :
    Calls Tryz.prog 41 #[.agg #[.int .i64 (hiW z), .int .u64 (loW z)]] w (RetV w (.tuple #[.int .i64 (iv z), .bool (decide (In64 z))])) := by
  have P := Pair.new w (.int .i64 (hiW z)) (.int .u64 (loW z)) 45
  have HB := below_box w (.cells #[.int .i64 (hiW z), .int .u64 (loW z)] 45)
  have O := fun W => wideOf (wrap64 (loW z)) (wrap_64 _) W
  have eL := lo_wrap z
  by_cases hz : In64 z
  · have e1 := Lib.hid (show iv z = z by unfold iv; rw [if_pos hz])
    have e2 := Lib.hid (show decide (In64 z) = true from decide_eq_true hz)
    have e3 := wrap_lo hz
    rw [e3] at O
    clear hz
    go_enter Tryz.func41, Tryz.ntmps41
    go_wp2_with fail
    generalize w.alloc (.cells #[.int .i64 (hiW z), .int .u64 (loW z)] 45) = w0 at *
    obtain ⟨_, a0, a1, _, _⟩ := id P
    have B := P.drew
    replace HB := HB.drew
    go_region_held3 (fun w' => w'.cell? ⟨w.heap.size, 0, none⟩ = some (.int .i64 (hiW z)) ∧ w'.cell? ⟨w.heap.size, 1, none⟩ = some (.int .u64 (loW z))) (first | exact ⟨B.c0, B.c1⟩ | go_keep)
      (first
        | (go_at_call 15; refine (O _).mono ?_; rintro e w1 ⟨rfl, hb⟩
           replace B := B.below hb
           replace HB := below_thru HB hb
           clear hb
           obtain ⟨_, a2, a3, _, _⟩ := id B))
    go_wp2
    go_ret2
    exact ⟨by rw [e1.out, e2.out]; rfl, HB⟩
  · have e1 := Lib.hid (show iv z = 0 by unfold iv; rw [if_neg hz])
    have e2 := Lib.hid (show decide (In64 z) = false from decide_eq_false hz)
    have hne : ¬ (hiW (wrap64 (loW z)) = hiW z) := fun e => wrap_no hz (wide_eq e eL)
    have hnb : (hiW (wrap64 (loW z)) == hiW z) = false := by rw [beq_eq_false_iff_ne]; exact hne
    clear hz
    go_enter Tryz.func41, Tryz.ntmps41
    go_wp2_with fail
    generalize w.alloc (.cells #[.int .i64 (hiW z), .int .u64 (loW z)] 45) = w0 at *
    obtain ⟨_, a0, a1, _, _⟩ := id P
    have B := P.drew
    replace HB := HB.drew
    go_region_held3 (fun w' => w'.cell? ⟨w.heap.size, 0, none⟩ = some (.int .i64 (hiW z)) ∧ w'.cell? ⟨w.heap.size, 1, none⟩ = some (.int .u64 (loW z))) (first | exact ⟨B.c0, B.c1⟩ | go_keep)
      (first
        | (go_at_call 15; refine (O _).mono ?_; rintro e w1 ⟨rfl, hb⟩
           replace B := B.below hb
           replace HB := below_thru HB hb
           clear hb
           obtain ⟨_, a2, a3, _, _⟩ := id B))
    go_wp2
    go_ret2
    exact ⟨by rw [e1.out, e2.out]; rfl, HB⟩

/-! how two numbers stand to each other -/
def ord (x y : Int) : Int := if x < y then -1 else if y < x then 1 else 0
theorem ord_lt {x y : Int} (h : x < y) : ord x y = -1 := by unfold ord; rw [if_pos h]
theorem ord_gt {x y : Int} (h : y < x) : ord x y = 1 := by unfold ord; rw [if_neg (by omega), if_pos h]
theorem ord_eq {x y : Int} (h : x = y) : ord x y = 0 := by unfold ord; rw [if_neg (by omega), if_neg (by omega)]
set_option maxRecDepth 100000 in
theorem isNaN_i64 (a : Int) (w : World) : Calls Tryz.prog 96 #[.int .i64 a] w fun e w' => e = .returned (.bool false) ∧ w = w' := by
  go_enter Tryz.func96, Tryz.ntmps96
  go_wp2
  go_ret
  exact ⟨rfl, rfl⟩
set_option maxRecDepth 100000 in
theorem compare_i64 (a b : Int) (w : World) : Calls Tryz.prog 89 #[.int .i64 a, .int .i64 b] w fun e w' => e = .returned (.int .i64 (ord a b)) ∧ w = w' := by
  rcases Int.lt_trichotomy a b with h | h | h
  · have e := Lib.hid (ord_lt h)
    go_enter Tryz.func89, Tryz.ntmps89
    go_wp2_with (go_at_call 96; refine (isNaN_i64 _ _).mono ?_; rintro e w' ⟨rfl, rfl⟩)
    go_ret
    exact ⟨by rw [e.out]; rfl, rfl⟩
  · have e := Lib.hid (ord_eq h)
    subst h
    go_enter Tryz.func89, Tryz.ntmps89
    go_wp2_with (go_at_call 96; refine (isNaN_i64 _ _).mono ?_; rintro e w' ⟨rfl, rfl⟩)
    go_ret
    exact ⟨by rw [e.out]; rfl, rfl⟩
  · have e := Lib.hid (ord_gt h)
    have h1 : ¬ a < b := by omega
    go_enter Tryz.func89, Tryz.ntmps89
    go_wp2_with (go_at_call 96; refine (isNaN_i64 _ _).mono ?_; rintro e w' ⟨rfl, rfl⟩)
    go_ret
    exact ⟨by rw [e.out]; rfl, rfl⟩
set_option maxRecDepth 100000 in
theorem isNaN_u64 (a : Int) (w : World) : Calls Tryz.prog 97 #[.int .u64 a] w fun e w' => e = .returned (.bool false) ∧ w = w' := by
  go_enter Tryz.func97, Tryz.ntmps97
  go_wp2
  go_ret
  exact ⟨rfl, rfl⟩
set_option maxRecDepth 100000 in
theorem compare_u64 (a b : Int) (w : World) : Calls Tryz.prog 90 #[.int .u64 a, .int .u64 b] w fun e w' => e = .returned (.int .i64 (ord a b)) ∧ w = w' := by
  rcases Int.lt_trichotomy a b with h | h | h
  · have e := Lib.hid (ord_lt h)
    go_enter Tryz.func90, Tryz.ntmps90
    go_wp2_with (go_at_call 97; refine (isNaN_u64 _ _).mono ?_; rintro e w' ⟨rfl, rfl⟩)
    go_ret
    exact ⟨by rw [e.out]; rfl, rfl⟩
  · have e := Lib.hid (ord_eq h)
    subst h
    go_enter Tryz.func90, Tryz.ntmps90
    go_wp2_with (go_at_call 97; refine (isNaN_u64 _ _).mono ?_; rintro e w' ⟨rfl, rfl⟩)
    go_ret
    exact ⟨by rw [e.out]; rfl, rfl⟩
  · have e := Lib.hid (ord_gt h)
    have h1 : ¬ a < b := by omega
    go_enter Tryz.func90, Tryz.ntmps90
    go_wp2_with (go_at_call 97; refine (isNaN_u64 _ _).mono ?_; rintro e w' ⟨rfl, rfl⟩)
    go_ret
    exact ⟨by rw [e.out]; rfl, rfl⟩

theorem ord_hi {a b : Int} (h : ord (hiW a) (hiW b) ≠ 0) : ord a b = ord (hiW a) (hiW b) := by
  rcases Int.lt_trichotomy (hiW a) (hiW b) with k | k | k
  · rw [ord_lt k]; exact ord_lt (by unfold hiW at k; omega)
  · exact absurd (ord_eq k) h
  · rw [ord_gt k]; exact ord_gt (by unfold hiW at k; omega)
theorem ord_lo {a b : Int} (h : ord (hiW a) (hiW b) = 0) : ord a b = ord (loW a) (loW b) := by
  have e : hiW a = hiW b := by
    rcases Int.lt_trichotomy (hiW a) (hiW b) with k | k | k
    · rw [ord_lt k] at h; exact absurd h (by decide)
    · exact k
    · rw [ord_gt k] at h; exact absurd h (by decide)
  unfold hiW at e
  unfold ord loW
  split <;> split <;> (try split) <;> omega
set_option maxRecDepth 100000 in
theorem wideCmp (a b : Int) (w : World) :
    Calls Tryz.prog 66 #[.agg #[.int .i64 (hiW a), .int .u64 (loW a)], .agg #[.int .i64 (hiW b), .int .u64 (loW b)]] w (RetV w (.int .i64 (ord a b))) := by
  have HB := below_thru (below_box w (.cells #[.int .i64 (hiW a), .int .u64 (loW a)] 45)) (below_box _ (.cells #[.int .i64 (hiW b), .int .u64 (loW b)] 45))
  by_cases h : ord (hiW a) (hiW b) = 0
  · have e1 := Lib.hid (ord_lo h)
    go_enter Tryz.func66, Tryz.ntmps66
    go_wp2_with (first
      | (go_at_call 89; refine (compare_i64 _ _ _).mono ?_; rintro e w' ⟨rfl, rfl⟩)
      | (go_at_call 90; refine (compare_u64 _ _ _).mono ?_; rintro e w' ⟨rfl, rfl⟩))
    go_ret
    exact ⟨by rw [e1.out]; rfl, HB⟩
  · have e1 := Lib.hid (ord_hi h)
    have h' : (ord (hiW a) (hiW b) == 0) = false := by rw [beq_eq_false_iff_ne]; exact h
    go_enter Tryz.func66, Tryz.ntmps66
    go_wp2_with (first
      | (go_at_call 89; refine (compare_i64 _ _ _).mono ?_; rintro e w' ⟨rfl, rfl⟩)
      | (go_at_call 90; refine (compare_u64 _ _ _).mono ?_; rintro e w' ⟨rfl, rfl⟩))
    go_ret
    exact ⟨by rw [e1.out]; rfl, HB⟩
set_option maxRecDepth 100000 in
theorem wideSign (a : Int) (w : World) :
    Calls Tryz.prog 36 #[.agg #[.int .i64 (hiW a), .int .u64 (loW a)]] w (RetV w (.int .i64 (ord a 0))) := by
  have C := fun W => wideCmp a 0 W
  rw [show hiW 0 = 0 from rfl, show loW 0 = 0 from rfl] at C
  go_enter Tryz.func36, Tryz.ntmps36
  go_wp2_with (go_at_call 66; refine (C _).mono ?_; rintro e w' ⟨rfl, hb⟩)
  go_ret
  exact ⟨rfl, by first | exact hb | exact below_thru (below_box _ _) hb⟩
end Go.Proofs.YtlidicnbmfkghaaGreatDoor

/- What package wide's Sum answers, at any row of wide numbers: their sum, or the refusal where it has no room. -/
namespace Go.Proofs.YtlidicnbmfkghaaGreatDoor
open Go.RowKit

/-- The slice value '.slice A n c' reads as the wide numbers l. -/
structure Ws (w : World) (A : Option Addr) (n c : Nat) (l : List Int) : Prop where
  len : l.length = n
  cap : n ≤ c
  max : c ≤ maxLen
  wide : ∀ z ∈ l, InW z
  cells : 0 < n → ∃ a : Addr, A = some a ∧ a.block < w.heap.size ∧ ∀ j, j < n → w.cell? (a.add (j * 2)) = some (.int .i64 (hiW (l.getD j 0))) ∧ w.cell? (a.add (j * 2 + 1)) = some (.int .u64 (loW (l.getD j 0)))
theorem int_eq' {k : IntKind} {a b : Int} (h : a = b) : Value.int k a = Value.int k b := by rw [h]
theorem add_block (a : Addr) (k : Nat) : (a.add k).block = a.block := by unfold Addr.add; split <;> rfl
theorem Ws.below {w w' : World} {A : Option Addr} {n c : Nat} {l : List Int} (h : Ws w A n c l) (hb : Below w.heap.size w w') : Ws w' A n c l :=
  ⟨h.len, h.cap, h.max, h.wide, fun hn => by
    obtain ⟨a, e, hg, hc⟩ := h.cells hn
    refine ⟨a, e, Nat.lt_of_lt_of_le hg hb.size, fun j hj => ?_⟩
    obtain ⟨h1, h2⟩ := hc j hj
    exact ⟨(hb.cell (by rw [add_block]; exact hg)).trans h1, (hb.cell (by rw [add_block]; exact hg)).trans h2⟩⟩

/-- What holds at the head of a round of Sum. -/
def SumRel (w : World) (n : Nat) (l : List Int) (v4 v5 v6 v13 : Value) (W : World) : Prop :=
  ∃ (i : Nat) (s : Int), i ≤ n ∧ s = (l.take i).sum ∧ v4 = .int .u64 (loW s) ∧ v5 = .int .u64 (hiW s % 18446744073709551616) ∧ v6 = .int .i64 (s / 340282366920938463463374607431768211456) ∧ v13 = .int .i64 i ∧
    -((i : Int)) ≤ s / 340282366920938463463374607431768211456 ∧ s / 340282366920938463463374607431768211456 ≤ i ∧
    Pair W w.heap.size (.int .i64 0) (.int .u64 0) ∧ Below w.heap.size w W

theorem add_split (a : Addr) (k : Nat) : a.add (k + 1) = ⟨(a.add k).block, (a.add k).off + 1, none⟩ := by
  unfold Addr.add
  by_cases h : k = 0
  · subst h; simp
  · simp [h]; omega
theorem take_sum {l : List Int} {i : Nat} (h : i < l.length) : (l.take (i + 1)).sum = (l.take i).sum + l.getD i 0 := by
  rw [List.take_succ_eq_append_getElem h, List.sum_append, List.getD_eq_getElem?_getD, List.getElem?_eq_getElem h]
  simp
theorem getD_mem {l : List Int} {i : Nat} (h : i < l.length) : l.getD i 0 ∈ l := by
  rw [List.getD_eq_getElem?_getD, List.getElem?_eq_getElem h]
  exact List.getElem_mem h

/-- the number of its three parts -/
theorem three_parts (s : Int) : s = loW s + (hiW s % 18446744073709551616) * 18446744073709551616 + s / 340282366920938463463374607431768211456 * 340282366920938463463374607431768211456 := by
  unfold loW hiW; omega
theorem parts_of (s L H T : Int) (h : s = L + H * 18446744073709551616 + T * 340282366920938463463374607431768211456) (h1 : 0 ≤ L) (h2 : L < 18446744073709551616) (h3 : 0 ≤ H) (h4 : H < 18446744073709551616) :
    loW s = L ∧ hiW s % 18446744073709551616 = H ∧ s / 340282366920938463463374607431768211456 = T := by
  unfold loW hiW; omega

set_option maxRecDepth 100000 in
set_option maxHeartbeats 2000000 in
theorem wideSum (A : Option Addr) (n c : Nat) (l : List Int) (w : World) (h : Ws w A n c l) (hn : n ≤ 1000000) :
    Calls Tryz.prog 62 #[.slice A n c] w (RetWE w l.sum) := by
  go_enter Tryz.func62, Tryz.ntmps62
  go_wp2
  have P := Pair.new w (.int .i64 0) (.int .u64 0) 45
  have HB := below_box w (.cells #[.int .i64 0, .int .u64 0] 45)
  have HH := Lib.hid (h.below HB)
  have HL := Lib.hid h
  clear h
  generalize w.alloc (.cells #[.int .i64 0, .int .u64 0] 45) = w0 at *
  go_loopw [4, 5, 6, 13] (fun v4 v5 v6 v13 wr => SumRel w n l v4 v5 v6 v13 wr) (fun _ _ _ i _ => n - (intOf i).toNat)
  case atStart => exact ⟨0, 0, Nat.zero_le _, rfl, rfl, rfl, rfl, rfl, by decide, by decide, P, HB⟩
  case round =>
    obtain ⟨i, s, hi, hs, rfl, rfl, rfl, rfl, t1, t2, P', HB'⟩ := hrel
    clear P HB
    have HS := Lib.hid hs
    clear hs
    by_cases hlt : i < n
    · have h2 := HL.out.below HB'
      obtain ⟨a, rfl, hg, hc⟩ := h2.cells (by omega)
      obtain ⟨c0, c1⟩ := hc i hlt
      have HT := Lib.hid (take_sum (l := l) (i := i) (by rw [HL.out.len]; exact hlt))
      have hz := h2.wide _ (getD_mem (l := l) (i := i) (by rw [HL.out.len]; exact hlt))
      clear h2 hc
      generalize l.getD i 0 = z at *
      have c2 := c1
      rw [add_split] at c2
      obtain ⟨z1, z2, z3, z4⟩ := halves hz
      have hp := three_parts s
      have q0 : 0 ≤ loW s := by unfold loW; omega
      have q1 : loW s < 18446744073709551616 := by unfold loW; omega
      have q2 : 0 ≤ hiW s % 18446744073709551616 := by omega
      have q3 : hiW s % 18446744073709551616 < 18446744073709551616 := by omega
      have zu : IntKind.u64.wrap (hiW z) = hiW z % 18446744073709551616 := IntKind.wrap_u64 _
      have HN := Lib.hid (parts_of (s + z))
      generalize loW s = L at *
      generalize hiW s % 18446744073709551616 = H at *
      generalize s / 340282366920938463463374607431768211456 = T at *
      generalize hiW z = Zh at *
      generalize loW z = Zl at *
      obtain ⟨U, hU⟩ : ∃ U : Int, U = Zh % 18446744073709551616 := ⟨_, rfl⟩
      rw [← hU] at zu
      obtain ⟨C, hC⟩ : ∃ C : Int, C = (L + Zl) / 18446744073709551616 := ⟨_, rfl⟩
      obtain ⟨L2, hL2⟩ : ∃ X : Int, X = (L + Zl) % 18446744073709551616 := ⟨_, rfl⟩
      obtain ⟨K, hK⟩ : ∃ K : Int, K = (H + U + C) / 18446744073709551616 := ⟨_, rfl⟩
      obtain ⟨H2, hH2⟩ : ∃ X : Int, X = (H + U + C) % 18446744073709551616 := ⟨_, rfl⟩
      obtain ⟨M, hM⟩ : ∃ M : Int, M = Zh / 9223372036854775808 := ⟨_, rfl⟩
      unfold In64 at z1
      have u0 : 0 ≤ U := by omega
      have u1 : U < 18446744073709551616 := by omega
      have k0 : 0 ≤ C := by omega
      have k1 : C ≤ 1 := by omega
      have k2 : 0 ≤ K := by omega
      have k3 : K ≤ 1 := by omega
      have k4 : -1 ≤ M := by omega
      have k5 : M ≤ 0 := by omega
      have A1 : ∀ W, (callFunc 87 #[.int .u64 L, .int .u64 Zl, .int .u64 0]).run Tryz.prog W = .ok (.value (.tuple #[.int .u64 L2, .int .u64 C])) W := fun W => by rw [hL2, hC]; exact add64_0 L Zl q0 z2 W
      have A2 : ∀ W, (callFunc 87 #[.int .u64 H, .int .u64 U, .int .u64 C]).run Tryz.prog W = .ok (.value (.tuple #[.int .u64 H2, .int .u64 K])) W := fun W => by rw [hH2, hK]; exact add64 H U C q2 u0 k0 k1 W
      have F := Lib.hid (HN.out L2 H2 (T + (K + M)) (by omega) (by omega) (by omega) (by omega) (by omega))
      have hM' : Zh / 9223372036854775808 = M := hM.symm
      clear hp HN hU hC hL2 hK hH2 hM hz z4
      have D := Pair.new wr (.int .i64 Zh) (.int .u64 Zl) 45
      have P2 := P'.below (below_box wr (.cells #[.int .i64 Zh, .int .u64 Zl] 45))
      have HB2 := below_thru HB' (below_box wr (.cells #[.int .i64 Zh, .int .u64 Zl] 45))
      go_wp2_with (first | simp only [A1] | simp only [A2])
      go_roundw
      case rel =>
        obtain ⟨f1, f2, f3⟩ := F.out
        refine ⟨i + 1, s + z, by omega, by rw [HT.out, ← HS.out], ?_, ?_, ?_, int_eq' (by omega), by rw [f3]; omega, by rw [f3]; omega, P2, HB2⟩
        · rw [f1]
        · rw [f2]
        · rw [f3]
      case measure => simp only [intOf]; omega
    · obtain ⟨_, d0, d1, e0, e1⟩ := id P'
      have hs : s = l.sum := by rw [HS.out, List.take_of_length_le (by rw [HL.out.len]; omega)]
      have q1 : 0 ≤ hiW s % 18446744073709551616 := by omega
      have HI := Lib.hid (show InW s → wrap64 (hiW s % 18446744073709551616) = hiW s ∧ s / 340282366920938463463374607431768211456 = hiW s / 9223372036854775808 by unfold InW two127 wrap64 hiW; omega)
      have HO := Lib.hid (show ¬ InW s → ¬ (s / 340282366920938463463374607431768211456 = wrap64 (hiW s % 18446744073709551616) / 9223372036854775808) by unfold InW two127 wrap64 hiW; omega)
      have E1 := Lib.hid hs
      clear hs
      generalize hT : s / 340282366920938463463374607431768211456 = T at *
      generalize hG : hiW s % 18446744073709551616 = G at *
      generalize hV : wrap64 G = V at *
      clear hT hG
      by_cases hw : InW s
      · obtain ⟨f1, f2⟩ := HI.out hw
        have HV := Lib.hid (show hv s = V ∧ lv s = loW s ∧ ev s = 0 by unfold hv lv ev; rw [if_pos hw, if_pos hw, if_pos hw, f1]; exact ⟨rfl, rfl, rfl⟩)
        rw [← f1] at f2
        clear f1 hw
        have f2' : (T != V / 9223372036854775808) = false := by rw [f2]; simp
        have f3 := f2.symm
        clear f2
        go_wp2
        have P2 := (P'.self2 (.int .i64 V) (.int .u64 (loW s))).below (below_box _ (.cells #[.int .i64 V, .int .u64 (loW s)] 45))
        have HB3 := below_thru ((HB'.setCell (p := ⟨w.heap.size, 0, none⟩) (Nat.le_refl _) (.int .i64 V)).setCell (p := ⟨w.heap.size, 1, none⟩) (Nat.le_refl _) (.int .u64 (loW s))) (below_box _ (.cells #[.int .i64 V, .int .u64 (loW s)] 45))
        exact bodyPost_ret (v := .tuple #[.agg #[.int .i64 V, .int .u64 (loW s)], .int .i64 0]) (by simp [results, Tryz.results62, go_sem, P2.c0, P2.c1]) rfl ⟨by rw [← E1.out, HV.out.1, HV.out.2.1, HV.out.2.2], HB3⟩
      · have f2 := HO.out hw
        have HV := Lib.hid (show hv s = 0 ∧ lv s = 0 ∧ ev s = 2 by unfold hv lv ev; rw [if_neg hw, if_neg hw, if_neg hw]; exact ⟨rfl, rfl, rfl⟩)
        clear hw
        have f2' : (T != V / 9223372036854775808) = true := by simp [f2]
        go_wp2
        have P2 := (P'.self2 (.int .i64 0) (.int .u64 0)).below (below_box _ (.cells #[.int .i64 V, .int .u64 (loW s)] 45))
        have HB3 := below_thru ((HB'.setCell (p := ⟨w.heap.size, 0, none⟩) (Nat.le_refl _) (.int .i64 0)).setCell (p := ⟨w.heap.size, 1, none⟩) (Nat.le_refl _) (.int .u64 0)) (below_box _ (.cells #[.int .i64 V, .int .u64 (loW s)] 45))
        exact bodyPost_ret (v := .tuple #[.agg #[.int .i64 0, .int .u64 0], .int .i64 2]) (by simp [results, Tryz.results62, go_sem, P2.c0, P2.c1]) rfl ⟨by rw [← E1.out, HV.out.1, HV.out.2.1, HV.out.2.2], HB3⟩
end Go.Proofs.YtlidicnbmfkghaaGreatDoor

/- What package wide's Add, Sub and Neg answer, at any wide numbers: through Sum. -/
namespace Go.Proofs.YtlidicnbmfkghaaGreatDoor
open Go.RowKit

theorem ws_two (w : World) (a b : Int) (ha : InW a) (hb : InW b) (t : TypeId) :
    Ws (w.alloc (.cells #[.int .i64 (hiW a), .int .u64 (loW a), .int .i64 (hiW b), .int .u64 (loW b)] t)) (some ⟨w.heap.size, 0, none⟩) 2 2 [a, b] := by
  refine ⟨rfl, by omega, by simp [maxLen], by simp [ha, hb], fun _ => ⟨⟨w.heap.size, 0, none⟩, rfl, by simp, fun j hj => ?_⟩⟩
  rcases j with _ | _ | j
  · constructor <;> simp [Addr.add]
  · constructor <;> simp [Addr.add]
  · omega
theorem RetWE.thru {w w0 : World} {z : Int} {e : Ending} {w' : World} (h : RetWE w z e w') (hb : Below w0.heap.size w0 w) : RetWE w0 z e w' := ⟨h.1, below_thru hb h.2⟩

set_option maxRecDepth 100000 in
theorem wideAdd (a b : Int) (ha : InW a) (hb : InW b) (w : World) :
    Calls Tryz.prog 30 #[.agg #[.int .i64 (hiW a), .int .u64 (loW a)], .agg #[.int .i64 (hiW b), .int .u64 (loW b)]] w (RetWE w (a + b)) := by
  have S := fun W => ws_two W a b ha hb 45
  go_enter Tryz.func30, Tryz.ntmps30
  go_wp2_with fail
  have HB := below_thru (below_thru (below_box w (.cells #[.int .i64 (hiW a), .int .u64 (loW a)] 45)) (below_box _ (.cells #[.int .i64 (hiW b), .int .u64 (loW b)] 45))) (below_box _ (.cells #[.int .i64 0, .int .u64 0] 45))
  have P := Pair.new ((w.alloc (.cells #[.int .i64 (hiW a), .int .u64 (loW a)] 45)).alloc (.cells #[.int .i64 (hiW b), .int .u64 (loW b)] 45)) (.int .i64 0) (.int .u64 0) 45
  simp only [World.size_alloc] at P
  have hsz : w.heap.size + 1 + 1 + 1 = (((w.alloc (.cells #[.int .i64 (hiW a), .int .u64 (loW a)] 45)).alloc (.cells #[.int .i64 (hiW b), .int .u64 (loW b)] 45)).alloc (.cells #[.int .i64 0, .int .u64 0] 45)).heap.size := by simp only [World.size_alloc]
  generalize ((w.alloc (.cells #[.int .i64 (hiW a), .int .u64 (loW a)] 45)).alloc (.cells #[.int .i64 (hiW b), .int .u64 (loW b)] 45)).alloc (.cells #[.int .i64 0, .int .u64 0] 45) = w0 at *
  rw [hsz]
  have S0 := S w0
  have k := below_box w0 (.cells #[.int .i64 (hiW a), .int .u64 (loW a), .int .i64 (hiW b), .int .u64 (loW b)] 45)
  replace P := P.below k
  replace HB := below_thru HB k
  clear S k hsz
  generalize w0.alloc (.cells #[.int .i64 (hiW a), .int .u64 (loW a), .int .i64 (hiW b), .int .u64 (loW b)] 45) = w1 at *
  refine (wideSum _ 2 2 [a, b] w1 S0 (by omega)).mono ?_
  rintro e w2 ⟨rfl, k⟩
  replace P := P.below k
  replace HB := below_thru HB k
  clear k S0
  have e : [a, b].sum = a + b := by simp
  rw [e]
  obtain ⟨_, d0, d1, f0, f1⟩ := id P
  go_wp2
  exact bodyPost_ret (v := .tuple #[.agg #[.int .i64 (hv (a + b)), .int .u64 (lv (a + b))], .int .i64 (ev (a + b))]) (by simp [results, Tryz.results30, go_sem, d0, d1]) rfl ⟨rfl, (HB.setCell (p := ⟨w.heap.size + 1 + 1, 0, none⟩) (by show _ ≤ w.heap.size + 1 + 1; omega) _).setCell (p := ⟨w.heap.size + 1 + 1, 1, none⟩) (by show _ ≤ w.heap.size + 1 + 1; omega) _⟩
theorem ws_three (w : World) (a b c : Int) (ha : InW a) (hb : InW b) (hc : InW c) (t : TypeId) :
    Ws (w.alloc (.cells #[.int .i64 (hiW a), .int .u64 (loW a), .int .i64 (hiW b), .int .u64 (loW b), .int .i64 (hiW c), .int .u64 (loW c)] t)) (some ⟨w.heap.size, 0, none⟩) 3 3 [a, b, c] := by
  refine ⟨rfl, by omega, by simp [maxLen], by simp [ha, hb, hc], fun _ => ⟨⟨w.heap.size, 0, none⟩, rfl, by simp, fun j hj => ?_⟩⟩
  rcases j with _ | _ | _ | j
  · constructor <;> simp [Addr.add]
  · constructor <;> simp [Addr.add]
  · constructor <;> simp [Addr.add]
  · omega
theorem turned {b : Int} (hb : InW b) : InW (-b - 1) ∧ hiW (-b - 1) = -hiW b - 1 ∧ loW (-b - 1) = 18446744073709551615 - loW b := by
  unfold InW two127 at *
  unfold hiW loW
  omega

theorem not_i64 (a : Int) (h : In64 a) : bits .xor .i64 (-1) a = -a - 1 := by
  unfold In64 at h
  show IntKind.i64.wrap ((BitVec.ofInt 64 (-1) ^^^ BitVec.ofInt 64 a).toNat : Int) = _
  rw [show BitVec.ofInt 64 (-1) = BitVec.allOnes 64 from by decide, BitVec.allOnes_xor, BitVec.toNat_not, BitVec.toNat_ofInt]
  simp [IntKind.wrap, IntKind.bits, IntKind.signed]
  omega
theorem not_u64 (a : Int) (h0 : 0 ≤ a) (h1 : a ≤ 18446744073709551615) : bits .xor .u64 IntKind.u64.max a = 18446744073709551615 - a := by
  show IntKind.u64.wrap ((BitVec.ofInt 64 IntKind.u64.max ^^^ BitVec.ofInt 64 a).toNat : Int) = _
  rw [show BitVec.ofInt 64 IntKind.u64.max = BitVec.allOnes 64 from by decide, BitVec.allOnes_xor, BitVec.toNat_not, BitVec.toNat_ofInt]
  simp [IntKind.wrap, IntKind.bits, IntKind.signed]
  omega

set_option maxRecDepth 100000 in
theorem wideSub (a b : Int) (ha : InW a) (hb : InW b) (w : World) :
    Calls Tryz.prog 39 #[.agg #[.int .i64 (hiW a), .int .u64 (loW a)], .agg #[.int .i64 (hiW b), .int .u64 (loW b)]] w (RetWE w (a - b)) := by
  obtain ⟨t1, t2, t3⟩ := turned hb
  obtain ⟨i1, i2, i3, i4⟩ := halves hb
  clear i4
  have n1 := not_i64 _ i1
  have n2 := not_u64 _ i2 i3
  rw [← t2] at n1
  rw [← t3] at n2
  clear t2 t3 i1 i2 i3
  generalize ht : -b - 1 = t at *
  have HT := Lib.hid ht
  clear ht
  have SUM := Lib.hid (show [a, t, 1].sum = a - b by rw [← HT.out]; simp; omega)
  have N1 := Lib.hid n1
  have N2 := Lib.hid n2
  clear n1 n2
  have S := fun W => ws_three W a t 1 ha t1 (inW_of_64 (by decide)) 45
  have O := fun W => wideOf 1 (by decide) W
  go_enter Tryz.func39, Tryz.ntmps39
  go_wp2_with fail
  have HB := below_thru (below_thru (below_box w (.cells #[.int .i64 (hiW a), .int .u64 (loW a)] 45)) (below_box _ (.cells #[.int .i64 (hiW b), .int .u64 (loW b)] 45))) (below_box _ (.cells #[.int .i64 0, .int .u64 0] 45))
  have P := Pair.new ((w.alloc (.cells #[.int .i64 (hiW a), .int .u64 (loW a)] 45)).alloc (.cells #[.int .i64 (hiW b), .int .u64 (loW b)] 45)) (.int .i64 0) (.int .u64 0) 45
  have A := (Pair.new w (.int .i64 (hiW a)) (.int .u64 (loW a)) 45).below (below_thru (below_box _ (.cells #[.int .i64 (hiW b), .int .u64 (loW b)] 45)) (below_box _ (.cells #[.int .i64 0, .int .u64 0] 45)))
  have B := (Pair.new (w.alloc (.cells #[.int .i64 (hiW a), .int .u64 (loW a)] 45)) (.int .i64 (hiW b)) (.int .u64 (loW b)) 45).below (below_box _ (.cells #[.int .i64 0, .int .u64 0] 45))
  simp only [World.size_alloc] at P A B
  have hsz : w.heap.size < (((w.alloc (.cells #[.int .i64 (hiW a), .int .u64 (loW a)] 45)).alloc (.cells #[.int .i64 (hiW b), .int .u64 (loW b)] 45)).alloc (.cells #[.int .i64 0, .int .u64 0] 45)).heap.size := by simp only [World.size_alloc]; omega
  generalize ((w.alloc (.cells #[.int .i64 (hiW a), .int .u64 (loW a)] 45)).alloc (.cells #[.int .i64 (hiW b), .int .u64 (loW b)] 45)).alloc (.cells #[.int .i64 0, .int .u64 0] 45) = w0 at *
  obtain ⟨_, a0, a1, _, _⟩ := id A
  obtain ⟨_, b0, b1, _, _⟩ := id B
  have m1 : w.heap.size + 1 + 1 ≠ w.heap.size := by omega
  have m2 : w.heap.size + 1 + 1 ≠ w.heap.size + 1 := by omega
  have n1 := N1.out
  have n2 := N2.out
  replace P := P.drew
  replace A := A.drew
  replace B := B.drew
  replace HB := HB.drew
  go_region_held3 (fun w' => w'.cell? ⟨w.heap.size, 0, none⟩ = some (.int .i64 (hiW a)) ∧ w'.cell? ⟨w.heap.size, 1, none⟩ = some (.int .u64 (loW a)) ∧ w'.cell? ⟨w.heap.size + 1, 0, none⟩ = some (.int .i64 (hiW b)) ∧ w'.cell? ⟨w.heap.size + 1, 1, none⟩ = some (.int .u64 (loW b))) (first | exact ⟨A.c0, A.c1, B.c0, B.c1⟩ | go_keep)
    (first
      | (go_at_call 15; refine (O _).mono ?_; rintro e w1 ⟨rfl, hb⟩
         replace P := P.below hb
         replace A := A.below hb
         replace B := B.below hb
         replace HB := below_thru HB hb
         clear hb)
      | (go_at_call 62; refine (wideSum _ 3 3 [a, t, 1] _ (S _) (by omega)).mono ?_; rintro e w2 ⟨rfl, k⟩
         rw [SUM.out]
         replace k := below_thru (below_box _ _) k
         replace P := P.below k
         replace A := A.below k
         replace B := B.below k
         replace HB := below_thru HB k
         clear k
         obtain ⟨_, a4, a5, _, _⟩ := id A
         obtain ⟨_, b4, b5, _, _⟩ := id B
         obtain ⟨_, d0, d1, f0, f1⟩ := id P))
  go_wp2
  exact bodyPost_ret (v := .tuple #[.agg #[.int .i64 (hv (a - b)), .int .u64 (lv (a - b))], .int .i64 (ev (a - b))]) (by simp [results, Tryz.results39, go_sem, d0, d1]) rfl ⟨rfl, (HB.setCell (p := ⟨w.heap.size + 1 + 1, 0, none⟩) (by show _ ≤ w.heap.size + 1 + 1; omega) _).setCell (p := ⟨w.heap.size + 1 + 1, 1, none⟩) (by show _ ≤ w.heap.size + 1 + 1; omega) _⟩

set_option maxRecDepth 100000 in
theorem wideNeg (a : Int) (ha : InW a) (w : World) :
    Calls Tryz.prog 102 #[.agg #[.int .i64 (hiW a), .int .u64 (loW a)]] w (RetWE w (-a)) := by
  have S := fun W => wideSub 0 a (inW_of_64 (by decide)) ha W
  rw [show hiW 0 = 0 from rfl, show loW 0 = 0 from rfl, Int.zero_sub] at S
  go_enter Tryz.func102, Tryz.ntmps102
  go_wp2_with fail
  have HB := below_thru (below_box w (.cells #[.int .i64 (hiW a), .int .u64 (loW a)] 45)) (below_box _ (.cells #[.int .i64 0, .int .u64 0] 45))
  have P := Pair.new (w.alloc (.cells #[.int .i64 (hiW a), .int .u64 (loW a)] 45)) (.int .i64 0) (.int .u64 0) 45
  simp only [World.size_alloc] at P
  generalize (w.alloc (.cells #[.int .i64 (hiW a), .int .u64 (loW a)] 45)).alloc (.cells #[.int .i64 0, .int .u64 0] 45) = w0 at *
  refine (S w0).mono ?_
  rintro e w2 ⟨rfl, k⟩
  replace P := P.below k
  replace HB := below_thru HB k
  clear k S
  obtain ⟨_, d0, d1, f0, f1⟩ := id P
  go_wp2
  exact bodyPost_ret (v := .tuple #[.agg #[.int .i64 (hv (-a)), .int .u64 (lv (-a))], .int .i64 (ev (-a))]) (by simp [results, Tryz.results102, go_sem, d0, d1]) rfl ⟨rfl, (HB.setCell (p := ⟨w.heap.size + 1, 0, none⟩) (by show _ ≤ w.heap.size + 1; omega) _).setCell (p := ⟨w.heap.size + 1, 1, none⟩) (by show _ ≤ w.heap.size + 1; omega) _⟩
end Go.Proofs.YtlidicnbmfkghaaGreatDoor
