import Derived.Test.YtlidicnbmfkghaaGreatDoorGa
import Derived.Test.YtlidicnbmfkghaaGreatDoorGm
import Derived.Test.YtlidicnbmfkghaaGreatDoorGv
import Derived.Deep.RegionHeld3
import Derived.Laws.EntriesVeiled
import Derived.Test.YtlidicnbmfkghaaGreatDoorGt
/- Fractions rounded to whole numbers by nine modes: which one is taken, and what follows. No walk here, and no program. -/
namespace Go.Proofs.YtlidicnbmfkghaaGreatDoor

/-- of two neighbours, is it the upper one? (d above 0, a rest left) -/
def upR (n d m : Int) : Bool :=
  if 5 ≤ m ∧ 2 * (n % d) < d then false
  else if 5 ≤ m ∧ d < 2 * (n % d) then true
  else if m = 1 ∨ m = 5 then true
  else if m = 2 ∨ m = 6 then false
  else if m = 3 ∨ m = 7 then decide (0 ≤ n)
  else if m = 4 ∨ m = 8 then decide (n < 0)
  else decide ((n / d) % 2 ≠ 0)
/-- the fraction n by d, rounded by mode m -/
def nearZ (n d m : Int) : Int := if n % d = 0 then n / d else if upR n d m = true then n / d + 1 else n / d

theorem near_two {n d m : Int} : nearZ n d m = n / d ∨ nearZ n d m = n / d + 1 ∧ n % d ≠ 0 := by
  unfold nearZ
  split
  · exact .inl rfl
  · split
    · exact .inr ⟨rfl, ‹_›⟩
    · exact .inl rfl
theorem parts {n d : Int} (hd : 0 < d) : n = d * (n / d) + n % d ∧ 0 ≤ n % d ∧ n % d < d :=
  ⟨(Int.mul_ediv_add_emod n d).symm, Int.emod_nonneg n (by omega), Int.emod_lt_of_pos n hd⟩
/-- it lies less than a step away -/
theorem near_dist {n d m : Int} (hd : 0 < d) : (n - d * nearZ n d m).natAbs < d.natAbs := by
  obtain ⟨h1, h2, h3⟩ := parts (n := n) hd
  rcases near_two (n := n) (d := d) (m := m) with h | ⟨h, h0⟩
  · rw [h]; omega
  · rw [h, Int.mul_add]; omega
/-- the half modes: at most half a step -/
theorem near_half {n d m : Int} (hd : 0 < d) (hm : 5 ≤ m) : 2 * (n - d * nearZ n d m).natAbs ≤ d.natAbs := by
  obtain ⟨h1, h2, h3⟩ := parts (n := n) hd
  unfold nearZ
  by_cases h0 : n % d = 0
  · rw [if_pos h0]; omega
  · rw [if_neg h0]
    by_cases ha : 2 * (n % d) < d
    · have : upR n d m = false := by unfold upR; rw [if_pos ⟨hm, ha⟩]
      rw [this]; simp only [Bool.false_eq_true, if_false]; omega
    · by_cases hb : d < 2 * (n % d)
      · have : upR n d m = true := by unfold upR; rw [if_neg (by omega), if_pos ⟨hm, hb⟩]
        rw [this]; simp only [if_true, Int.mul_add]; omega
      · split <;> (try rw [Int.mul_add]) <;> omega
/-- a multiple stays -/
theorem near_stay {k d m : Int} (hd : 0 < d) : nearZ (k * d) d m = k := by
  have h : k * d % d = 0 := Int.mul_emod_left k d
  unfold nearZ
  rw [if_pos h, Int.mul_ediv_cancel _ (by omega)]
theorem near_mult {k d m : Int} (hd : 0 < d) : nearZ (d * k) d m = k := by rw [Int.mul_comm]; exact near_stay hd
/-- who is greater doesn't become less -/
theorem near_mono {a b d m : Int} (hd : 0 < d) (hm : 1 ≤ m ∧ m ≤ 9) (h : a ≤ b) : nearZ a d m ≤ nearZ b d m := by
  obtain ⟨a1, a2, a3⟩ := parts (n := a) hd
  obtain ⟨b1, b2, b3⟩ := parts (n := b) hd
  have hq : a / d ≤ b / d := Int.ediv_le_ediv hd h
  by_cases hlt : a / d < b / d
  · rcases near_two (n := a) (d := d) (m := m) with e | ⟨e, _⟩ <;> rcases near_two (n := b) (d := d) (m := m) with f | ⟨f, _⟩ <;> omega
  · have hqe : a / d = b / d := by omega
    have hr : a % d ≤ b % d := by rw [hqe] at a1; omega
    by_cases h0 : a % d = 0
    · have e : nearZ a d m = a / d := by unfold nearZ; rw [if_pos h0]
      rcases near_two (n := b) (d := d) (m := m) with f | ⟨f, _⟩ <;> omega
    · have hb0 : b % d ≠ 0 := by omega
      have up : upR a d m = true → upR b d m = true := by
        unfold upR
        rw [hqe]
        intro hu
        by_cases c1 : 5 ≤ m ∧ 2 * (a % d) < d
        · rw [if_pos c1] at hu; exact absurd hu (by decide)
        · rw [if_neg c1] at hu
          rw [if_neg (by omega)]
          by_cases c2 : 5 ≤ m ∧ d < 2 * (b % d)
          · rw [if_pos c2]
          · rw [if_neg c2]
            rw [if_neg (by omega)] at hu
            by_cases e : a = b
            · rw [e] at hu; exact hu
            · have m5 : ¬ 5 ≤ m := by
                intro m5
                have : a % d = b % d := by omega
                rw [hqe, this] at a1
                omega
              by_cases k1 : m = 1 ∨ m = 5
              · rw [if_pos k1]
              · rw [if_neg k1] at hu ⊢
                by_cases k2 : m = 2 ∨ m = 6
                · rw [if_pos k2] at hu; exact absurd hu (by decide)
                · rw [if_neg k2] at hu ⊢
                  by_cases k3 : m = 3 ∨ m = 7
                  · rw [if_pos k3] at hu ⊢
                    have := of_decide_eq_true hu
                    exact decide_eq_true (by omega)
                  · rw [if_neg k3] at hu ⊢
                    have k4 : m = 4 ∨ m = 8 := by omega
                    rw [if_pos k4] at hu ⊢
                    have h4 := of_decide_eq_true hu
                    have hneg : b / d < 0 := by rw [← hqe]; exact Int.ediv_neg_of_neg_of_pos h4 hd
                    have : d * (b / d) ≤ d * (-1) := Int.mul_le_mul_of_nonneg_left (by omega) (by omega)
                    exact decide_eq_true (by omega)
      unfold nearZ
      rw [if_neg h0, if_neg hb0, hqe]
      by_cases u : upR a d m = true
      · rw [if_pos u, if_pos (up u)]; omega
      · rw [if_neg u]; split <;> omega
/-- the mirrored mode -/
def mirM (m : Int) : Int := if m = 1 then 2 else if m = 2 then 1 else if m = 5 then 6 else if m = 6 then 5 else m
theorem neg_parts {n d : Int} (hd : 0 < d) (h0 : n % d ≠ 0) : (-n) / d = -(n / d) - 1 ∧ (-n) % d = d - n % d := by
  obtain ⟨h1, h2, h3⟩ := parts (n := n) hd
  have := (Int.ediv_emod_unique hd (a := -n) (r := d - n % d) (q := -(n / d) - 1)).2 ⟨by rw [Int.mul_sub, Int.mul_neg]; omega, by omega, by omega⟩
  exact this
theorem neg_exact {n d : Int} (h0 : n % d = 0) : (-n) / d = -(n / d) ∧ (-n) % d = 0 := by
  have hv : d ∣ n := Int.dvd_of_emod_eq_zero h0
  exact ⟨Int.neg_ediv_of_dvd hv, Int.emod_eq_zero_of_dvd ((Int.dvd_neg).2 hv)⟩
/-- a number and the one of the other sign, by the mirrored mode -/
theorem near_mirror {n d m : Int} (hd : 0 < d) (hm : 1 ≤ m ∧ m ≤ 9) : nearZ (-n) d (mirM m) = -nearZ n d m := by
  by_cases h0 : n % d = 0
  · obtain ⟨e1, e2⟩ := neg_exact h0
    unfold nearZ
    rw [if_pos h0, if_pos e2, e1]
  · obtain ⟨e1, e2⟩ := neg_parts hd h0
    obtain ⟨h1, h2, h3⟩ := parts (n := n) hd
    have hn : n ≠ 0 := by intro c; rw [c] at h0; simp at h0
    have key : upR (-n) d (mirM m) = !upR n d m := by
      unfold upR
      rw [e1, e2]
      have hm' : m = 1 ∨ m = 2 ∨ m = 3 ∨ m = 4 ∨ m = 5 ∨ m = 6 ∨ m = 7 ∨ m = 8 ∨ m = 9 := by omega
      have c1 : ∀ k : Int, (5 ≤ k ∧ 2 * (d - n % d) < d) ↔ (5 ≤ k ∧ d < 2 * (n % d)) := fun k => by omega
      have c2 : ∀ k : Int, (5 ≤ k ∧ d < 2 * (d - n % d)) ↔ (5 ≤ k ∧ 2 * (n % d) < d) := fun k => by omega
      simp only [c1, c2]
      have t1 : n ≤ 0 ↔ ¬ 0 ≤ n := by omega
      have t2 : 0 < n ↔ ¬ n < 0 := by omega
      have t3 : (-(n / d) - 1) % 2 = 0 ↔ ¬ n / d % 2 = 0 := by omega
      have t5 : decide (n < 0) = !decide (0 ≤ n) := by by_cases c : 0 ≤ n <;> simp [c] <;> omega
      have t6 : decide (0 ≤ n) = !decide (n < 0) := by rw [t5, Bool.not_not]
      by_cases x1 : d < 2 * (n % d)
      · have x2 : ¬ 2 * (n % d) < d := by omega
        rcases hm' with rfl | rfl | rfl | rfl | rfl | rfl | rfl | rfl | rfl <;> simp [mirM, x1, x2, t1, t2] <;> first | exact t5 | exact t6 | omega
      · by_cases x2 : 2 * (n % d) < d
        · rcases hm' with rfl | rfl | rfl | rfl | rfl | rfl | rfl | rfl | rfl <;> simp [mirM, x1, x2, t1, t2] <;> first | exact t5 | exact t6 | omega
        · rcases hm' with rfl | rfl | rfl | rfl | rfl | rfl | rfl | rfl | rfl <;> simp [mirM, x1, x2, t1, t2, t3] <;> first | exact t5 | exact t6 | omega
    unfold nearZ
    rw [if_neg h0, if_neg (by rw [e2]; omega), key, e1]
    cases upR n d m <;> simp <;> omega
/-- the document's quotient and rest are these -/
theorem floor_parts {n d : Int} (hd : 0 < d) : n.fdiv d = n / d ∧ n.fmod d = n % d := ⟨Int.fdiv_eq_ediv_of_nonneg n (by omega), Int.fmod_eq_emod_of_nonneg n (by omega)⟩
end Go.Proofs.YtlidicnbmfkghaaGreatDoor

/- Package round: whether a mode is one, the mirrored mode, and what the function literals of rises answer. -/
namespace Go.Proofs.YtlidicnbmfkghaaGreatDoor
open Go.RowKit

set_option maxRecDepth 100000 in
theorem known_yes (m : Int) (h1 : 1 ≤ m) (h9 : m ≤ 9) (w : World) :
    Calls Tryz.prog 35 #[.int .i64 m] w (fun e w' => e = .returned (.bool true) ∧ w = w') := by
  have a1 : m ≥ 1 := h1
  go_enter Tryz.func35, Tryz.ntmps35
  go_wp2
  go_ret
  exact ⟨rfl, rfl⟩
set_option maxRecDepth 100000 in
theorem known_no (m : Int) (h : m < 1 ∨ 9 < m) (w : World) :
    Calls Tryz.prog 35 #[.int .i64 m] w (fun e w' => e = .returned (.bool false) ∧ w = w') := by
  rcases h with h | h
  · have a1 : ¬ 1 ≤ m := by omega
    go_enter Tryz.func35, Tryz.ntmps35
    go_wp2
    go_ret
    exact ⟨rfl, rfl⟩
  · have a1 : 1 ≤ m := by omega
    have a2 : ¬ m ≤ 9 := by omega
    go_enter Tryz.func35, Tryz.ntmps35
    go_wp2
    go_ret
    exact ⟨rfl, rfl⟩
/-- half: the nearer one, and of two as near the upper one where it is so said -/
def halfB (nr : Int) (u : Bool) : Bool := if 0 < nr then true else if nr = 0 then u else false
set_option maxRecDepth 100000 in
theorem half_any (nr : Int) (u : Bool) (b : Nat) (w : World) (h : Blk w b [.int .i64 nr]) :
    Calls Tryz.prog 68 #[.bool u, .pointer (some ⟨b, 0, none⟩)] w (fun e w' => e = .returned (.bool (halfB nr u)) ∧ w = w') := by
  obtain ⟨lt, c0, _⟩ := h.one
  by_cases h1 : 0 < nr
  · have e : halfB nr u = true := by unfold halfB; rw [if_pos h1]
    rw [e]; clear e
    go_enter Tryz.func68, Tryz.ntmps68
    go_wp2
    go_ret
    exact ⟨rfl, rfl⟩
  · by_cases h2 : nr = 0
    · subst h2
      have e : halfB 0 u = u := by unfold halfB; rw [if_neg h1, if_pos rfl]
      rw [e]; clear e
      go_enter Tryz.func68, Tryz.ntmps68
      go_wp2
      go_ret
      exact ⟨rfl, rfl⟩
    · have e : halfB nr u = false := by unfold halfB; rw [if_neg h1, if_neg h2]
      rw [e]; clear e
      have b2 : (nr == 0) = false := by rw [beq_eq_false_iff_ne]; exact h2
      go_enter Tryz.func68, Tryz.ntmps68
      go_wp2
      go_ret
      exact ⟨rfl, rfl⟩
set_option maxRecDepth 100000 in
theorem ceil_any (w : World) : Calls Tryz.prog 69 #[] w (fun e w' => e = .returned (.bool true) ∧ w = w') := by
  go_enter Tryz.func69, Tryz.ntmps69
  go_wp2
  go_ret
  exact ⟨rfl, rfl⟩
set_option maxRecDepth 100000 in
theorem floor_lit (w : World) : Calls Tryz.prog 70 #[] w (fun e w' => e = .returned (.bool false) ∧ w = w') := by
  go_enter Tryz.func70, Tryz.ntmps70
  go_wp2
  go_ret
  exact ⟨rfl, rfl⟩
set_option maxRecDepth 100000 in
theorem expand_any (u : Bool) (b : Nat) (w : World) (h : Blk w b [.bool u]) :
    Calls Tryz.prog 71 #[.pointer (some ⟨b, 0, none⟩)] w (fun e w' => e = .returned (.bool (!u)) ∧ w = w') := by
  obtain ⟨lt, c0, _⟩ := h.one
  go_enter Tryz.func71, Tryz.ntmps71
  go_wp2
  go_ret
  exact ⟨rfl, rfl⟩
set_option maxRecDepth 100000 in
theorem trunc_lit (u : Bool) (b : Nat) (w : World) (h : Blk w b [.bool u]) :
    Calls Tryz.prog 72 #[.pointer (some ⟨b, 0, none⟩)] w (fun e w' => e = .returned (.bool u) ∧ w = w') := by
  obtain ⟨lt, c0, _⟩ := h.one
  go_enter Tryz.func72, Tryz.ntmps72
  go_wp2
  go_ret
  exact ⟨rfl, rfl⟩
/-- the value of half -/
def halfV (b : Nat) : Value := .func (.func 68) #[] #[.pointer (some ⟨b, 0, none⟩)]
set_option maxRecDepth 100000 in
theorem halfCeil_any (nr : Int) (b f : Nat) (w : World) (h : Blk w b [.int .i64 nr]) (hf : Blk w f [halfV b]) :
    Calls Tryz.prog 73 #[.pointer (some ⟨f, 0, none⟩)] w (fun e w' => e = .returned (.bool (halfB nr true)) ∧ w = w') := by
  have HA := Lib.hid (half_any nr true b w h)
  obtain ⟨lt, c0, _⟩ := hf.one
  unfold halfV at c0
  clear h hf
  go_enter Tryz.func73, Tryz.ntmps73
  go_wp2_with (go_at_call 68; refine HA.out.mono ?_; rintro e w' ⟨rfl, rfl⟩)
  go_ret
  exact ⟨rfl, rfl⟩
set_option maxRecDepth 100000 in
theorem halfFloor_any (nr : Int) (b f : Nat) (w : World) (h : Blk w b [.int .i64 nr]) (hf : Blk w f [halfV b]) :
    Calls Tryz.prog 74 #[.pointer (some ⟨f, 0, none⟩)] w (fun e w' => e = .returned (.bool (halfB nr false)) ∧ w = w') := by
  have HA := Lib.hid (half_any nr false b w h)
  obtain ⟨lt, c0, _⟩ := hf.one
  unfold halfV at c0
  clear h hf
  go_enter Tryz.func74, Tryz.ntmps74
  go_wp2_with (go_at_call 68; refine HA.out.mono ?_; rintro e w' ⟨rfl, rfl⟩)
  go_ret
  exact ⟨rfl, rfl⟩
set_option maxRecDepth 100000 in
theorem halfExpand_any (nr : Int) (u : Bool) (b f c : Nat) (w : World) (h : Blk w b [.int .i64 nr]) (hf : Blk w f [halfV b]) (hu : Blk w c [.bool u]) :
    Calls Tryz.prog 75 #[.pointer (some ⟨f, 0, none⟩), .pointer (some ⟨c, 0, none⟩)] w (fun e w' => e = .returned (.bool (halfB nr (!u))) ∧ w = w') := by
  have HA := Lib.hid (half_any nr (!u) b w h)
  obtain ⟨lt, c0, _⟩ := hf.one
  obtain ⟨lu, c1, _⟩ := hu.one
  unfold halfV at c0
  clear h hf hu
  go_enter Tryz.func75, Tryz.ntmps75
  go_wp2_with (go_at_call 68; refine HA.out.mono ?_; rintro e w' ⟨rfl, rfl⟩)
  go_ret
  exact ⟨rfl, rfl⟩
set_option maxRecDepth 100000 in
theorem halfTrunc_any (nr : Int) (u : Bool) (b f c : Nat) (w : World) (h : Blk w b [.int .i64 nr]) (hf : Blk w f [halfV b]) (hu : Blk w c [.bool u]) :
    Calls Tryz.prog 76 #[.pointer (some ⟨f, 0, none⟩), .pointer (some ⟨c, 0, none⟩)] w (fun e w' => e = .returned (.bool (halfB nr (u))) ∧ w = w') := by
  have HA := Lib.hid (half_any nr (u) b w h)
  obtain ⟨lt, c0, _⟩ := hf.one
  obtain ⟨lu, c1, _⟩ := hu.one
  unfold halfV at c0
  clear h hf hu
  go_enter Tryz.func76, Tryz.ntmps76
  go_wp2_with (go_at_call 68; refine HA.out.mono ?_; rintro e w' ⟨rfl, rfl⟩)
  go_ret
  exact ⟨rfl, rfl⟩
set_option maxRecDepth 100000 in
theorem halfEven_any (nr : Int) (u : Bool) (b f c : Nat) (w : World) (h : Blk w b [.int .i64 nr]) (hf : Blk w f [halfV b]) (hu : Blk w c [.bool u]) :
    Calls Tryz.prog 77 #[.pointer (some ⟨f, 0, none⟩), .pointer (some ⟨c, 0, none⟩)] w (fun e w' => e = .returned (.bool (halfB nr (u))) ∧ w = w') := by
  have HA := Lib.hid (half_any nr (u) b w h)
  obtain ⟨lt, c0, _⟩ := hf.one
  obtain ⟨lu, c1, _⟩ := hu.one
  unfold halfV at c0
  clear h hf hu
  go_enter Tryz.func77, Tryz.ntmps77
  go_wp2_with (go_at_call 68; refine HA.out.mono ?_; rintro e w' ⟨rfl, rfl⟩)
  go_ret
  exact ⟨rfl, rfl⟩
end Go.Proofs.YtlidicnbmfkghaaGreatDoor

/- Package round's rises: whether a number becomes the upper one of its two neighbours. -/
namespace Go.Proofs.YtlidicnbmfkghaaGreatDoor
open Go.RowKit

/-- which one is taken: the sign of the quotient, of what is nearer, and whether the quotient is odd are known -/
def risesB (sq nr : Int) (od : Bool) (m : Int) : Bool :=
  if m = 1 then true else if m = 2 then false else if m = 3 then !decide (sq < 0) else if m = 4 then decide (sq < 0)
  else if m = 5 then halfB nr true else if m = 6 then halfB nr false else if m = 7 then halfB nr (!decide (sq < 0)) else if m = 8 then halfB nr (decide (sq < 0)) else halfB nr od

set_option maxRecDepth 100000 in
set_option maxHeartbeats 8000000 in
theorem rises_core (q r d s c sd nr sq m : Int) (SB : Hid (∀ W, Calls Tryz.prog 39 #[.agg #[.int .i64 (hiW d), .int .u64 (loW d)], .agg #[.int .i64 (hiW r), .int .u64 (loW r)]] W (fun e w' => e = .returned (.tuple #[.agg #[.int .i64 (hiW s), .int .u64 (loW s)], .int .i64 0]) ∧ Below W.heap.size W w'))) (CM : Hid (∀ W, Calls Tryz.prog 66 #[.agg #[.int .i64 (hiW r), .int .u64 (loW r)], .agg #[.int .i64 (hiW s), .int .u64 (loW s)]] W (RetV W (.int .i64 c)))) (SD : Hid (∀ W, Calls Tryz.prog 36 #[.agg #[.int .i64 (hiW d), .int .u64 (loW d)]] W (RetV W (.int .i64 sd)))) (SQ : Hid (∀ W, Calls Tryz.prog 36 #[.agg #[.int .i64 (hiW q), .int .u64 (loW q)]] W (RetV W (.int .i64 sq)))) (hw : IntKind.i64.wrap (c * sd) = nr) (hr : Hid (r ≠ 0)) (m1 : 1 ≤ m) (m9 : m ≤ 9) (w : World) :
    Calls Tryz.prog 38 #[.agg #[.int .i64 (hiW q), .int .u64 (loW q)], .agg #[.int .i64 (hiW r), .int .u64 (loW r)], .agg #[.int .i64 (hiW d), .int .u64 (loW d)], .int .i64 m] w (RetV w (.bool (risesB sq nr ((loW q).tmod 2 == 1) m))) := by
  go_enter Tryz.func38, Tryz.ntmps38
  go_upto_region 1 with (fail)
  have KB := ((((BK.nil w).more2 (.int .i64 (hiW q)) (.int .u64 (loW q)) 45).more2 (.int .i64 (hiW r)) (.int .u64 (loW r)) 45).more2 (.int .i64 (hiW d)) (.int .u64 (loW d)) 45)
  try simp only [World.size_alloc] at KB
  generalize (((w.alloc (.cells #[.int .i64 (hiW q), .int .u64 (loW q)] 45)).alloc (.cells #[.int .i64 (hiW r), .int .u64 (loW r)] 45)).alloc (.cells #[.int .i64 (hiW d), .int .u64 (loW d)] 45)) = w0 at *
  go_cut [18] (fun v18 wx => v18 = .bool false ∧ BK w [(w.heap.size + 1 + 1, [.int .i64 (hiW d), .int .u64 (loW d)]), (w.heap.size + 1, [.int .i64 (hiW r), .int .u64 (loW r)]), (w.heap.size, [.int .i64 (hiW q), .int .u64 (loW q)])] wx)
  case first =>
    obtain ⟨_, c0, c1, _, _⟩ := (KB.tail.head).two
    by_cases hx : hiW r = 0
    · have hz : ¬ loW r = 0 := fun k => hr.out (by unfold hiW at hx; unfold loW at k; omega)
      have hz' : (loW r == 0) = false := by rw [beq_eq_false_iff_ne]; exact hz
      rw [hx] at c0
      go_wp2_with fail
      go_meet
      exact ⟨rfl, KB⟩
    · have hx' : (hiW r == 0) = false := by rw [beq_eq_false_iff_ne]; exact hx
      go_wp2_with fail
      go_meet
      exact ⟨rfl, KB⟩
  case rest =>
  clear KB
  obtain ⟨rfl, KB⟩ := hcut
  obtain ⟨_, a0, a1, _, _⟩ := (KB.head).two
  obtain ⟨_, b0, b1, _, _⟩ := (KB.tail.head).two
  go_wp2_with fail
  refine (SB.out _).mono ?_
  rintro e w1 ⟨rfl, k⟩
  replace KB := KB.below k
  clear k
  clear a0 a1 b0 b1
  go_wp2_with fail
  have hg := KB.head.lt
  replace KB := KB.more2 (.int .i64 (hiW s)) (.int .u64 (loW s)) 45
  generalize w1.alloc (.cells #[.int .i64 (hiW s), .int .u64 (loW s)] 45) = w2 at *
  generalize w1.heap.size = g at *
  obtain ⟨lo, st, hlo⟩ := KB.preB (KB.tail.tail.tail.head).lt [.int .i64 0]
  have la0 : g ≤ lo := hlo (g, [.int .i64 (hiW s), .int .u64 (loW s)]) (by simp)
  have la1 : w.heap.size + 1 + 1 ≤ lo := hlo (w.heap.size + 1 + 1, [.int .i64 (hiW d), .int .u64 (loW d)]) (by simp)
  have la2 : w.heap.size + 1 ≤ lo := hlo (w.heap.size + 1, [.int .i64 (hiW r), .int .u64 (loW r)]) (by simp)
  have la3 : w.heap.size ≤ lo := hlo (w.heap.size, [.int .i64 (hiW q), .int .u64 (loW q)]) (by simp)
  clear hlo
  go_cut [11] (fun v11 wx => CutOneB lo (BK w [(g, [.int .i64 (hiW s), .int .u64 (loW s)]), (w.heap.size + 1 + 1, [.int .i64 (hiW d), .int .u64 (loW d)]), (w.heap.size + 1, [.int .i64 (hiW r), .int .u64 (loW r)]), (w.heap.size, [.int .i64 (hiW q), .int .u64 (loW q)])]) [.int .i64 nr] v11 wx)
  case first =>
    obtain ⟨_, ja0, jb0, _, _⟩ := (KB.tail.tail.head).two
    obtain ⟨_, ja1, jb1, _, _⟩ := (KB.head).two
    obtain ⟨_, ja2, jb2, _, _⟩ := (KB.tail.head).two
    clear KB
    have ⟨gp0, gq0⟩ := behindB st.lt la2
    have ⟨gp1, gq1⟩ := behindB st.lt la0
    have ⟨gp2, gq2⟩ := behindB st.lt la1
    have ⟨gp3, gq3⟩ := behindB st.lt la3
    go_region_held3 (fun w' => w'.cell? ⟨w.heap.size + 1, 0, none⟩ = some (.int .i64 (hiW r)) ∧ w'.cell? ⟨w.heap.size + 1, 1, none⟩ = some (.int .u64 (loW r)) ∧ w'.cell? ⟨g, 0, none⟩ = some (.int .i64 (hiW s)) ∧ w'.cell? ⟨g, 1, none⟩ = some (.int .u64 (loW s)) ∧ w'.cell? ⟨w.heap.size + 1 + 1, 0, none⟩ = some (.int .i64 (hiW d)) ∧ w'.cell? ⟨w.heap.size + 1 + 1, 1, none⟩ = some (.int .u64 (loW d))) (first | (with_reducible exact ⟨(st.k.tail.tail.head).two.2.1, (st.k.tail.tail.head).two.2.2.1, (st.k.head).two.2.1, (st.k.head).two.2.2.1, (st.k.tail.head).two.2.1, (st.k.tail.head).two.2.2.1⟩) | (with_reducible exact ⟨((st.alloc1 _).k.tail.tail.head).two.2.1, ((st.alloc1 _).k.tail.tail.head).two.2.2.1, ((st.alloc1 _).k.head).two.2.1, ((st.alloc1 _).k.head).two.2.2.1, ((st.alloc1 _).k.tail.head).two.2.1, ((st.alloc1 _).k.tail.head).two.2.2.1⟩) | (with_reducible exact ⟨((st.alloc2 _).k.tail.tail.head).two.2.1, ((st.alloc2 _).k.tail.tail.head).two.2.2.1, ((st.alloc2 _).k.head).two.2.1, ((st.alloc2 _).k.head).two.2.2.1, ((st.alloc2 _).k.tail.head).two.2.1, ((st.alloc2 _).k.tail.head).two.2.2.1⟩) | (with_reducible exact ⟨(st.drew.k.tail.tail.head).two.2.1, (st.drew.k.tail.tail.head).two.2.2.1, (st.drew.k.head).two.2.1, (st.drew.k.head).two.2.2.1, (st.drew.k.tail.head).two.2.1, (st.drew.k.tail.head).two.2.2.1⟩) | (with_reducible exact ⟨((st.alloc1 _).drew.k.tail.tail.head).two.2.1, ((st.alloc1 _).drew.k.tail.tail.head).two.2.2.1, ((st.alloc1 _).drew.k.head).two.2.1, ((st.alloc1 _).drew.k.head).two.2.2.1, ((st.alloc1 _).drew.k.tail.head).two.2.1, ((st.alloc1 _).drew.k.tail.head).two.2.2.1⟩) | (with_reducible exact ⟨((st.alloc2 _).drew.k.tail.tail.head).two.2.1, ((st.alloc2 _).drew.k.tail.tail.head).two.2.2.1, ((st.alloc2 _).drew.k.head).two.2.1, ((st.alloc2 _).drew.k.head).two.2.2.1, ((st.alloc2 _).drew.k.tail.head).two.2.1, ((st.alloc2 _).drew.k.tail.head).two.2.2.1⟩) | go_keep)
      (first
        | (go_at_call 66; (with_reducible refine (CM.out _).mono ?_); rintro e x ⟨rfl, k⟩
           with_reducible (first | replace st := st.below k | replace st := (st.alloc1 _).below k | replace st := (st.alloc2 _).below k | replace st := st.drew.below k | replace st := (st.alloc1 _).drew.below k | replace st := (st.alloc2 _).drew.below k)
           clear k
           obtain ⟨_, ka0, kb0, _, _⟩ := (st.k.tail.tail.head).two
           obtain ⟨_, ka1, kb1, _, _⟩ := (st.k.head).two
           obtain ⟨_, ka2, kb2, _, _⟩ := (st.k.tail.head).two
           obtain ⟨gp0, gq0⟩ := behindB st.lt la2
           try obtain ⟨gr0, gs0⟩ := behindB (st.ge _ (List.mem_cons_self ..)) la2
           try obtain ⟨gt0, gu0⟩ := behindB (st.ge _ (List.mem_cons_of_mem _ (List.mem_cons_self ..))) la2
           obtain ⟨gp1, gq1⟩ := behindB st.lt la0
           try obtain ⟨gr1, gs1⟩ := behindB (st.ge _ (List.mem_cons_self ..)) la0
           try obtain ⟨gt1, gu1⟩ := behindB (st.ge _ (List.mem_cons_of_mem _ (List.mem_cons_self ..))) la0
           obtain ⟨gp2, gq2⟩ := behindB st.lt la1
           try obtain ⟨gr2, gs2⟩ := behindB (st.ge _ (List.mem_cons_self ..)) la1
           try obtain ⟨gt2, gu2⟩ := behindB (st.ge _ (List.mem_cons_of_mem _ (List.mem_cons_self ..))) la1
           obtain ⟨gp3, gq3⟩ := behindB st.lt la3
           try obtain ⟨gr3, gs3⟩ := behindB (st.ge _ (List.mem_cons_self ..)) la3
           try obtain ⟨gt3, gu3⟩ := behindB (st.ge _ (List.mem_cons_of_mem _ (List.mem_cons_self ..))) la3
           try obtain ⟨_, y0, y2⟩ := (st.al _ (List.mem_cons_self ..)).one
           try obtain ⟨_, y4, y6⟩ := (st.al _ (List.mem_cons_of_mem _ (List.mem_cons_self ..))).one)
        | (go_at_call 36; (with_reducible refine (SD.out _).mono ?_); rintro e x ⟨rfl, k⟩
           with_reducible (first | replace st := st.below k | replace st := (st.alloc1 _).below k | replace st := (st.alloc2 _).below k | replace st := st.drew.below k | replace st := (st.alloc1 _).drew.below k | replace st := (st.alloc2 _).drew.below k)
           clear k
           obtain ⟨_, ka0, kb0, _, _⟩ := (st.k.tail.tail.head).two
           obtain ⟨_, ka1, kb1, _, _⟩ := (st.k.head).two
           obtain ⟨_, ka2, kb2, _, _⟩ := (st.k.tail.head).two
           obtain ⟨gp0, gq0⟩ := behindB st.lt la2
           try obtain ⟨gr0, gs0⟩ := behindB (st.ge _ (List.mem_cons_self ..)) la2
           try obtain ⟨gt0, gu0⟩ := behindB (st.ge _ (List.mem_cons_of_mem _ (List.mem_cons_self ..))) la2
           obtain ⟨gp1, gq1⟩ := behindB st.lt la0
           try obtain ⟨gr1, gs1⟩ := behindB (st.ge _ (List.mem_cons_self ..)) la0
           try obtain ⟨gt1, gu1⟩ := behindB (st.ge _ (List.mem_cons_of_mem _ (List.mem_cons_self ..))) la0
           obtain ⟨gp2, gq2⟩ := behindB st.lt la1
           try obtain ⟨gr2, gs2⟩ := behindB (st.ge _ (List.mem_cons_self ..)) la1
           try obtain ⟨gt2, gu2⟩ := behindB (st.ge _ (List.mem_cons_of_mem _ (List.mem_cons_self ..))) la1
           obtain ⟨gp3, gq3⟩ := behindB st.lt la3
           try obtain ⟨gr3, gs3⟩ := behindB (st.ge _ (List.mem_cons_self ..)) la3
           try obtain ⟨gt3, gu3⟩ := behindB (st.ge _ (List.mem_cons_of_mem _ (List.mem_cons_self ..))) la3
           try obtain ⟨_, y0, y2⟩ := (st.al _ (List.mem_cons_self ..)).one
           try obtain ⟨_, y4, y6⟩ := (st.al _ (List.mem_cons_of_mem _ (List.mem_cons_self ..))).one))
    all_goals
      go_wp2_with fail
      go_meet
      refine ⟨_, rfl, ?_⟩
      with_reducible first | exact st.one1 _ | exact st.one2 _ _
  case rest =>
  obtain ⟨h, rfl, s0⟩ := hcut
  clear st
  have KB := s0.k.cons s0.bg
  have ggh := s0.gg
  have nh0 : h ≠ g := by omega
  have nh1 : h ≠ w.heap.size + 1 + 1 := by omega
  have nh2 : h ≠ w.heap.size + 1 := by omega
  have nh3 : h ≠ w.heap.size := by omega
  clear s0 la0 la1 la2 la3 ggh
  clear lo
  go_wp2_with fail
  obtain ⟨lo, st, hlo⟩ := KB.preB (KB.tail.tail.tail.tail.head).lt [.bool false]
  have la0 : h ≤ lo := hlo (h, [.int .i64 nr]) (by simp)
  have la1 : g ≤ lo := hlo (g, [.int .i64 (hiW s), .int .u64 (loW s)]) (by simp)
  have la2 : w.heap.size + 1 + 1 ≤ lo := hlo (w.heap.size + 1 + 1, [.int .i64 (hiW d), .int .u64 (loW d)]) (by simp)
  have la3 : w.heap.size + 1 ≤ lo := hlo (w.heap.size + 1, [.int .i64 (hiW r), .int .u64 (loW r)]) (by simp)
  have la4 : w.heap.size ≤ lo := hlo (w.heap.size, [.int .i64 (hiW q), .int .u64 (loW q)]) (by simp)
  clear hlo
  go_cut [12, 13] (fun v12 v13 wx => CutTwoB lo (BK w [(h, [.int .i64 nr]), (g, [.int .i64 (hiW s), .int .u64 (loW s)]), (w.heap.size + 1 + 1, [.int .i64 (hiW d), .int .u64 (loW d)]), (w.heap.size + 1, [.int .i64 (hiW r), .int .u64 (loW r)]), (w.heap.size, [.int .i64 (hiW q), .int .u64 (loW q)])]) [.bool (decide (sq < 0))] [.bool ((loW q).tmod 2 == 1)] v12 v13 wx)
  case first =>
    obtain ⟨_, ja0, jb0, _, _⟩ := (KB.tail.tail.tail.tail.head).two
    clear KB
    have ⟨gp0, gq0⟩ := behindB st.lt la4
    go_region_held3 (fun w' => w'.cell? ⟨w.heap.size, 0, none⟩ = some (.int .i64 (hiW q)) ∧ w'.cell? ⟨w.heap.size, 1, none⟩ = some (.int .u64 (loW q))) (first | (with_reducible exact ⟨(st.k.tail.tail.tail.tail.head).two.2.1, (st.k.tail.tail.tail.tail.head).two.2.2.1⟩) | (with_reducible exact ⟨((st.alloc1 _).k.tail.tail.tail.tail.head).two.2.1, ((st.alloc1 _).k.tail.tail.tail.tail.head).two.2.2.1⟩) | (with_reducible exact ⟨((st.alloc2 _).k.tail.tail.tail.tail.head).two.2.1, ((st.alloc2 _).k.tail.tail.tail.tail.head).two.2.2.1⟩) | (with_reducible exact ⟨(st.drew.k.tail.tail.tail.tail.head).two.2.1, (st.drew.k.tail.tail.tail.tail.head).two.2.2.1⟩) | (with_reducible exact ⟨((st.alloc1 _).drew.k.tail.tail.tail.tail.head).two.2.1, ((st.alloc1 _).drew.k.tail.tail.tail.tail.head).two.2.2.1⟩) | (with_reducible exact ⟨((st.alloc2 _).drew.k.tail.tail.tail.tail.head).two.2.1, ((st.alloc2 _).drew.k.tail.tail.tail.tail.head).two.2.2.1⟩) | go_keep)
      (first
        | (go_at_call 36; (with_reducible refine (SQ.out _).mono ?_); rintro e x ⟨rfl, k⟩
           with_reducible (first | replace st := st.below k | replace st := (st.alloc1 _).below k | replace st := (st.alloc2 _).below k | replace st := st.drew.below k | replace st := (st.alloc1 _).drew.below k | replace st := (st.alloc2 _).drew.below k)
           clear k
           obtain ⟨_, ka0, kb0, _, _⟩ := (st.k.tail.tail.tail.tail.head).two
           obtain ⟨gp0, gq0⟩ := behindB st.lt la4
           try obtain ⟨gr0, gs0⟩ := behindB (st.ge _ (List.mem_cons_self ..)) la4
           try obtain ⟨gt0, gu0⟩ := behindB (st.ge _ (List.mem_cons_of_mem _ (List.mem_cons_self ..))) la4
           try obtain ⟨_, y0, y2⟩ := (st.al _ (List.mem_cons_self ..)).one
           try obtain ⟨_, y4, y6⟩ := (st.al _ (List.mem_cons_of_mem _ (List.mem_cons_self ..))).one))
    all_goals
      go_wp2_with fail
      go_meet
      refine ⟨_, _, rfl, rfl, ?_⟩
      with_reducible first | exact st.fin1a _ _ | exact st.fin1b _ _ | exact st.fin2a _ _ _ | exact st.fin2b _ _ _ | exact st.fin3a _ _ _ | exact st.fin3b _ _ _
  case rest =>
  obtain ⟨x, y, rfl, rfl, s0⟩ := hcut
  clear st
  have KB := (s0.k.cons s0.bg).cons s0.bh
  have ggx := s0.gg
  have ggy := s0.gh
  have nex := s0.ne
  have nx0 : x ≠ h := by omega
  have ny0 : y ≠ h := by omega
  have nx1 : x ≠ g := by omega
  have ny1 : y ≠ g := by omega
  have nx2 : x ≠ w.heap.size + 1 + 1 := by omega
  have ny2 : y ≠ w.heap.size + 1 + 1 := by omega
  have nx3 : x ≠ w.heap.size + 1 := by omega
  have ny3 : y ≠ w.heap.size + 1 := by omega
  have nx4 : x ≠ w.heap.size := by omega
  have ny4 : y ≠ w.heap.size := by omega
  clear s0 la0 la1 la2 la3 la4 ggx ggy
  clear lo
  go_upto_region 7 with (fail)
  have hk := KB.head.lt
  replace KB := KB.more1 (halfV h) 106
  unfold halfV at KB
  generalize wc.alloc (.cells #[.func (.func 68) #[] #[.pointer (some ⟨h, 0, none⟩)]] 106) = w3 at *
  generalize wc.heap.size = k at *
  go_upto_region 8 with (fail)
  have KC := fun o => KB.below (below_box w3 o)
  clear KB hk SB CM SD SQ
  have hm : m = 1 ∨ m = 2 ∨ m = 3 ∨ m = 4 ∨ m = 5 ∨ m = 6 ∨ m = 7 ∨ m = 8 ∨ m = 9 := by omega
  clear m1 m9
  rcases hm with rfl | rfl | rfl | rfl | rfl | rfl | rfl | rfl | rfl
  · go_wp2_with (go_at_call 69; refine (ceil_any _).mono ?_; rintro e w' ⟨rfl, rfl⟩)
    go_ret
    exact ⟨rfl, (KC _).hb⟩
  · go_wp2_with (go_at_call 70; refine (floor_lit _).mono ?_; rintro e w' ⟨rfl, rfl⟩)
    go_ret
    exact ⟨rfl, (KC _).hb⟩
  · go_wp2_with (go_at_call 71; refine (expand_any (decide (sq < 0)) x _ (by exact (KC _).tail.tail.head)).mono ?_; rintro e w' ⟨rfl, rfl⟩)
    go_ret
    exact ⟨rfl, (KC _).hb⟩
  · go_wp2_with (go_at_call 72; refine (trunc_lit (decide (sq < 0)) x _ (by exact (KC _).tail.tail.head)).mono ?_; rintro e w' ⟨rfl, rfl⟩)
    go_ret
    exact ⟨rfl, (KC _).hb⟩
  · go_wp2_with (go_at_call 73; refine (halfCeil_any nr h k _ (by exact (KC _).tail.tail.tail.head) (by exact (KC _).head)).mono ?_; rintro e w' ⟨rfl, rfl⟩)
    go_ret
    exact ⟨rfl, (KC _).hb⟩
  · go_wp2_with (go_at_call 74; refine (halfFloor_any nr h k _ (by exact (KC _).tail.tail.tail.head) (by exact (KC _).head)).mono ?_; rintro e w' ⟨rfl, rfl⟩)
    go_ret
    exact ⟨rfl, (KC _).hb⟩
  · go_wp2_with (go_at_call 75; refine (halfExpand_any nr (decide (sq < 0)) h k x _ (by exact (KC _).tail.tail.tail.head) (by exact (KC _).head) (by exact (KC _).tail.tail.head)).mono ?_; rintro e w' ⟨rfl, rfl⟩)
    go_ret
    exact ⟨rfl, (KC _).hb⟩
  · go_wp2_with (go_at_call 76; refine (halfTrunc_any nr (decide (sq < 0)) h k x _ (by exact (KC _).tail.tail.tail.head) (by exact (KC _).head) (by exact (KC _).tail.tail.head)).mono ?_; rintro e w' ⟨rfl, rfl⟩)
    go_ret
    exact ⟨rfl, (KC _).hb⟩
  · go_wp2_with (go_at_call 77; refine (halfEven_any nr ((loW q).tmod 2 == 1) h k y _ (by exact (KC _).tail.tail.tail.head) (by exact (KC _).head) (by exact (KC _).tail.head)).mono ?_; rintro e w' ⟨rfl, rfl⟩)
    go_ret
    exact ⟨rfl, (KC _).hb⟩

set_option maxRecDepth 100000 in
set_option maxHeartbeats 8000000 in
theorem rises_zero (q d m : Int) (w : World) :
    Calls Tryz.prog 38 #[.agg #[.int .i64 (hiW q), .int .u64 (loW q)], .agg #[.int .i64 0, .int .u64 0], .agg #[.int .i64 (hiW d), .int .u64 (loW d)], .int .i64 m] w (RetV w (.bool false)) := by
  have KB := ((((BK.nil w).more2 (.int .i64 (hiW q)) (.int .u64 (loW q)) 45).more2 (.int .i64 0) (.int .u64 0) 45).more2 (.int .i64 (hiW d)) (.int .u64 (loW d)) 45)
  try simp only [World.size_alloc] at KB
  go_enter Tryz.func38, Tryz.ntmps38
  go_wp2
  go_ret
  exact ⟨rfl, KB.hb⟩
end Go.Proofs.YtlidicnbmfkghaaGreatDoor

/- Package round's To and Ratio, out of what their calls answer. -/
namespace Go.Proofs.YtlidicnbmfkghaaGreatDoor
open Go.RowKit

set_option maxRecDepth 100000 in
set_option maxHeartbeats 8000000 in
theorem to_mode (a b m : Int) (KN : Hid (∀ W, Calls Tryz.prog 35 #[.int .i64 m] W (fun e w' => e = .returned (.bool false) ∧ W = w'))) (w : World) :
    Calls Tryz.prog 17 #[.agg #[.int .i64 (hiW a), .int .u64 (loW a)], .agg #[.int .i64 (hiW b), .int .u64 (loW b)], .int .i64 m] w (fun o w' => o = .returned (.tuple #[.agg #[.int .i64 0, .int .u64 0], .int .i64 1]) ∧ Below w.heap.size w w') := by
  go_enter Tryz.func17, Tryz.ntmps17
  go_wp2_with fail
  have KB := ((((BK.nil w).more2 (.int .i64 (hiW a)) (.int .u64 (loW a)) 45).more2 (.int .i64 (hiW b)) (.int .u64 (loW b)) 45).more2 (.int .i64 0) (.int .u64 0) 45)
  try simp only [World.size_alloc] at KB
  generalize (((w.alloc (.cells #[.int .i64 (hiW a), .int .u64 (loW a)] 45)).alloc (.cells #[.int .i64 (hiW b), .int .u64 (loW b)] 45)).alloc (.cells #[.int .i64 0, .int .u64 0] 45)) = w0 at *
  refine (KN.out _).mono ?_
  rintro e w1 ⟨rfl, rfl⟩
  obtain ⟨_, ra, rb, rc, rd⟩ := (KB.head).two
  go_wp2
  obtain ⟨_, P0, P1, _, _⟩ := ((KB.head).self2 (.int .i64 0) (.int .u64 0)).two
  have HB := (KB.hb.setCell (p := ⟨w.heap.size + 1 + 1, 0, none⟩) (by show _ ≤ w.heap.size + 1 + 1; omega) (.int .i64 0)).setCell (p := ⟨w.heap.size + 1 + 1, 1, none⟩) (by show _ ≤ w.heap.size + 1 + 1; omega) (.int .u64 0)
  exact bodyPost_ret (v := .tuple #[.agg #[.int .i64 0, .int .u64 0], .int .i64 1]) (by simp [results, Tryz.results17, go_sem, P0, P1]) rfl (⟨rfl, HB⟩)
set_option maxRecDepth 100000 in
set_option maxHeartbeats 8000000 in
theorem to_least (a b m s : Int) (hs : s ≤ 0) (KN : Hid (∀ W, Calls Tryz.prog 35 #[.int .i64 m] W (fun e w' => e = .returned (.bool true) ∧ W = w'))) (SG : Hid (∀ W, Calls Tryz.prog 36 #[.agg #[.int .i64 (hiW b), .int .u64 (loW b)]] W (RetV W (.int .i64 s)))) (w : World) :
    Calls Tryz.prog 17 #[.agg #[.int .i64 (hiW a), .int .u64 (loW a)], .agg #[.int .i64 (hiW b), .int .u64 (loW b)], .int .i64 m] w (fun o w' => o = .returned (.tuple #[.agg #[.int .i64 0, .int .u64 0], .int .i64 1]) ∧ Below w.heap.size w w') := by
  go_enter Tryz.func17, Tryz.ntmps17
  go_wp2_with fail
  have KB := ((((BK.nil w).more2 (.int .i64 (hiW a)) (.int .u64 (loW a)) 45).more2 (.int .i64 (hiW b)) (.int .u64 (loW b)) 45).more2 (.int .i64 0) (.int .u64 0) 45)
  try simp only [World.size_alloc] at KB
  generalize (((w.alloc (.cells #[.int .i64 (hiW a), .int .u64 (loW a)] 45)).alloc (.cells #[.int .i64 (hiW b), .int .u64 (loW b)] 45)).alloc (.cells #[.int .i64 0, .int .u64 0] 45)) = w0 at *
  refine (KN.out _).mono ?_
  rintro e w1 ⟨rfl, rfl⟩
  obtain ⟨_, ba, bb, bc, bd⟩ := (KB.tail.head).two
  go_wp2_with fail
  clear ba bb bc bd
  refine (SG.out _).mono ?_
  rintro e w1 ⟨rfl, k⟩
  replace KB := KB.below k
  clear k
  obtain ⟨_, ra, rb, rc, rd⟩ := (KB.head).two
  go_wp2
  obtain ⟨_, P0, P1, _, _⟩ := ((KB.head).self2 (.int .i64 0) (.int .u64 0)).two
  have HB := (KB.hb.setCell (p := ⟨w.heap.size + 1 + 1, 0, none⟩) (by show _ ≤ w.heap.size + 1 + 1; omega) (.int .i64 0)).setCell (p := ⟨w.heap.size + 1 + 1, 1, none⟩) (by show _ ≤ w.heap.size + 1 + 1; omega) (.int .u64 0)
  exact bodyPost_ret (v := .tuple #[.agg #[.int .i64 0, .int .u64 0], .int .i64 1]) (by simp [results, Tryz.results17, go_sem, P0, P1]) rfl (⟨rfl, HB⟩)
set_option maxRecDepth 100000 in
set_option maxHeartbeats 8000000 in
theorem to_down (a b m s q r x y e : Int) (hs : ¬ s ≤ 0) (KN : Hid (∀ W, Calls Tryz.prog 35 #[.int .i64 m] W (fun e w' => e = .returned (.bool true) ∧ W = w'))) (SG : Hid (∀ W, Calls Tryz.prog 36 #[.agg #[.int .i64 (hiW b), .int .u64 (loW b)]] W (RetV W (.int .i64 s)))) (FL : Hid (∀ W, Calls Tryz.prog 37 #[.agg #[.int .i64 (hiW a), .int .u64 (loW a)], .agg #[.int .i64 (hiW b), .int .u64 (loW b)]] W (RetHalves W (hiW q) (loW q) (hiW r) (loW r) 0))) (RI : Hid (∀ W, Calls Tryz.prog 38 #[.agg #[.int .i64 (hiW q), .int .u64 (loW q)], .agg #[.int .i64 (hiW r), .int .u64 (loW r)], .agg #[.int .i64 (hiW b), .int .u64 (loW b)], .int .i64 m] W (RetV W (.bool false)))) (S2 : Hid (∀ W, Calls Tryz.prog 39 #[.agg #[.int .i64 (hiW a), .int .u64 (loW a)], .agg #[.int .i64 (hiW r), .int .u64 (loW r)]] W (fun o w' => o = .returned (.tuple #[.agg #[.int .i64 x, .int .u64 y], .int .i64 e]) ∧ Below W.heap.size W w'))) (w : World) :
    Calls Tryz.prog 17 #[.agg #[.int .i64 (hiW a), .int .u64 (loW a)], .agg #[.int .i64 (hiW b), .int .u64 (loW b)], .int .i64 m] w (fun o w' => o = .returned (.tuple #[.agg #[.int .i64 x, .int .u64 y], .int .i64 e]) ∧ Below w.heap.size w w') := by
  go_enter Tryz.func17, Tryz.ntmps17
  go_wp2_with fail
  have KB := ((((BK.nil w).more2 (.int .i64 (hiW a)) (.int .u64 (loW a)) 45).more2 (.int .i64 (hiW b)) (.int .u64 (loW b)) 45).more2 (.int .i64 0) (.int .u64 0) 45)
  try simp only [World.size_alloc] at KB
  generalize (((w.alloc (.cells #[.int .i64 (hiW a), .int .u64 (loW a)] 45)).alloc (.cells #[.int .i64 (hiW b), .int .u64 (loW b)] 45)).alloc (.cells #[.int .i64 0, .int .u64 0] 45)) = w0 at *
  refine (KN.out _).mono ?_
  rintro e w1 ⟨rfl, rfl⟩
  obtain ⟨_, ba, bb, bc, bd⟩ := (KB.tail.head).two
  go_wp2_with fail
  clear ba bb bc bd
  refine (SG.out _).mono ?_
  rintro e w1 ⟨rfl, k⟩
  replace KB := KB.below k
  clear k
  obtain ⟨_, aa, ab, ac, ad⟩ := (KB.tail.tail.head).two
  obtain ⟨_, ba, bb, bc, bd⟩ := (KB.tail.head).two
  go_wp2_with fail
  clear aa ab ac ad ba bb bc bd
  refine (FL.out _).mono ?_
  rintro e w2 ⟨rfl, k⟩
  replace KB := KB.below k
  clear k
  go_upto_region 4 with (fail)
  have hlg := KB.head.lt
  replace KB := ((KB.more2 (.int .i64 (hiW q)) (.int .u64 (loW q)) 45).more2 (.int .i64 (hiW r)) (.int .u64 (loW r)) 45)
  rw [World.size_alloc] at KB
  generalize ((w2.alloc (.cells #[.int .i64 (hiW q), .int .u64 (loW q)] 45)).alloc (.cells #[.int .i64 (hiW r), .int .u64 (loW r)] 45)) = w3 at *
  have ig00 : w2.heap.size ≠ w.heap.size + 1 + 1 := by omega
  have ig01 : w2.heap.size + 1 ≠ w.heap.size + 1 + 1 := by omega
  have ig10 : w2.heap.size ≠ w.heap.size + 1 := by omega
  have ig11 : w2.heap.size + 1 ≠ w.heap.size + 1 := by omega
  have ig20 : w2.heap.size ≠ w.heap.size := by omega
  have ig21 : w2.heap.size + 1 ≠ w.heap.size := by omega
  generalize w2.heap.size = g at *
  obtain ⟨_, ra, rb, rc, rd⟩ := (KB.head).two
  obtain ⟨_, qa, qb, qc, qd⟩ := (KB.tail.head).two
  obtain ⟨_, ba, bb, bc, bd⟩ := (KB.tail.tail.tail.head).two
  go_wp2_with fail
  clear ra rb rc rd qa qb qc qd ba bb bc bd
  refine (RI.out _).mono ?_
  rintro e w4 ⟨rfl, k⟩
  replace KB := KB.below k
  clear k
  obtain ⟨_, ra, rb, rc, rd⟩ := (KB.head).two
  obtain ⟨_, aa, ab, ac, ad⟩ := (KB.tail.tail.tail.tail.head).two
  go_wp2_with fail
  clear ra rb rc rd aa ab ac ad
  refine (S2.out _).mono ?_
  rintro e w5 ⟨rfl, k⟩
  replace KB := KB.below k
  clear k
  obtain ⟨_, za, zb, zc, zd⟩ := (KB.tail.tail.head).two
  go_wp2
  obtain ⟨_, P0, P1, _, _⟩ := ((KB.tail.tail.head).self2 (.int .i64 x) (.int .u64 y)).two
  have HB := (KB.hb.setCell (p := ⟨w.heap.size + 1 + 1, 0, none⟩) (by show _ ≤ w.heap.size + 1 + 1; omega) (.int .i64 x)).setCell (p := ⟨w.heap.size + 1 + 1, 1, none⟩) (by show _ ≤ w.heap.size + 1 + 1; omega) (.int .u64 y)
  exact bodyPost_ret (v := .tuple #[.agg #[.int .i64 x, .int .u64 y], .int .i64 e]) (by simp [results, Tryz.results17, go_sem, P0, P1]) rfl (⟨rfl, HB⟩)
set_option maxRecDepth 100000 in
set_option maxHeartbeats 8000000 in
theorem to_up (a b m s q r t x y e : Int) (hs : ¬ s ≤ 0) (KN : Hid (∀ W, Calls Tryz.prog 35 #[.int .i64 m] W (fun e w' => e = .returned (.bool true) ∧ W = w'))) (SG : Hid (∀ W, Calls Tryz.prog 36 #[.agg #[.int .i64 (hiW b), .int .u64 (loW b)]] W (RetV W (.int .i64 s)))) (FL : Hid (∀ W, Calls Tryz.prog 37 #[.agg #[.int .i64 (hiW a), .int .u64 (loW a)], .agg #[.int .i64 (hiW b), .int .u64 (loW b)]] W (RetHalves W (hiW q) (loW q) (hiW r) (loW r) 0))) (RI : Hid (∀ W, Calls Tryz.prog 38 #[.agg #[.int .i64 (hiW q), .int .u64 (loW q)], .agg #[.int .i64 (hiW r), .int .u64 (loW r)], .agg #[.int .i64 (hiW b), .int .u64 (loW b)], .int .i64 m] W (RetV W (.bool true)))) (S1 : Hid (∀ W, Calls Tryz.prog 39 #[.agg #[.int .i64 (hiW r), .int .u64 (loW r)], .agg #[.int .i64 (hiW b), .int .u64 (loW b)]] W (fun e w' => e = .returned (.tuple #[.agg #[.int .i64 (hiW t), .int .u64 (loW t)], .int .i64 0]) ∧ Below W.heap.size W w'))) (S2 : Hid (∀ W, Calls Tryz.prog 39 #[.agg #[.int .i64 (hiW a), .int .u64 (loW a)], .agg #[.int .i64 (hiW t), .int .u64 (loW t)]] W (fun o w' => o = .returned (.tuple #[.agg #[.int .i64 x, .int .u64 y], .int .i64 e]) ∧ Below W.heap.size W w'))) (w : World) :
    Calls Tryz.prog 17 #[.agg #[.int .i64 (hiW a), .int .u64 (loW a)], .agg #[.int .i64 (hiW b), .int .u64 (loW b)], .int .i64 m] w (fun o w' => o = .returned (.tuple #[.agg #[.int .i64 x, .int .u64 y], .int .i64 e]) ∧ Below w.heap.size w w') := by
  go_enter Tryz.func17, Tryz.ntmps17
  go_wp2_with fail
  have KB := ((((BK.nil w).more2 (.int .i64 (hiW a)) (.int .u64 (loW a)) 45).more2 (.int .i64 (hiW b)) (.int .u64 (loW b)) 45).more2 (.int .i64 0) (.int .u64 0) 45)
  try simp only [World.size_alloc] at KB
  generalize (((w.alloc (.cells #[.int .i64 (hiW a), .int .u64 (loW a)] 45)).alloc (.cells #[.int .i64 (hiW b), .int .u64 (loW b)] 45)).alloc (.cells #[.int .i64 0, .int .u64 0] 45)) = w0 at *
  refine (KN.out _).mono ?_
  rintro e w1 ⟨rfl, rfl⟩
  obtain ⟨_, ba, bb, bc, bd⟩ := (KB.tail.head).two
  go_wp2_with fail
  clear ba bb bc bd
  refine (SG.out _).mono ?_
  rintro e w1 ⟨rfl, k⟩
  replace KB := KB.below k
  clear k
  obtain ⟨_, aa, ab, ac, ad⟩ := (KB.tail.tail.head).two
  obtain ⟨_, ba, bb, bc, bd⟩ := (KB.tail.head).two
  go_wp2_with fail
  clear aa ab ac ad ba bb bc bd
  refine (FL.out _).mono ?_
  rintro e w2 ⟨rfl, k⟩
  replace KB := KB.below k
  clear k
  go_upto_region 4 with (fail)
  have hlg := KB.head.lt
  replace KB := ((KB.more2 (.int .i64 (hiW q)) (.int .u64 (loW q)) 45).more2 (.int .i64 (hiW r)) (.int .u64 (loW r)) 45)
  rw [World.size_alloc] at KB
  generalize ((w2.alloc (.cells #[.int .i64 (hiW q), .int .u64 (loW q)] 45)).alloc (.cells #[.int .i64 (hiW r), .int .u64 (loW r)] 45)) = w3 at *
  have ig00 : w2.heap.size ≠ w.heap.size + 1 + 1 := by omega
  have ig01 : w2.heap.size + 1 ≠ w.heap.size + 1 + 1 := by omega
  have ig10 : w2.heap.size ≠ w.heap.size + 1 := by omega
  have ig11 : w2.heap.size + 1 ≠ w.heap.size + 1 := by omega
  have ig20 : w2.heap.size ≠ w.heap.size := by omega
  have ig21 : w2.heap.size + 1 ≠ w.heap.size := by omega
  generalize w2.heap.size = g at *
  obtain ⟨_, ra, rb, rc, rd⟩ := (KB.head).two
  obtain ⟨_, qa, qb, qc, qd⟩ := (KB.tail.head).two
  obtain ⟨_, ba, bb, bc, bd⟩ := (KB.tail.tail.tail.head).two
  go_wp2_with fail
  clear ra rb rc rd qa qb qc qd ba bb bc bd
  refine (RI.out _).mono ?_
  rintro e w4 ⟨rfl, k⟩
  replace KB := KB.below k
  clear k
  obtain ⟨_, ra, rb, rc, rd⟩ := (KB.head).two
  obtain ⟨_, ba, bb, bc, bd⟩ := (KB.tail.tail.tail.head).two
  go_wp2_with fail
  clear ra rb rc rd ba bb bc bd
  refine (S1.out _).mono ?_
  rintro e w5 ⟨rfl, k⟩
  replace KB := KB.below k
  clear k
  obtain ⟨_, ra, rb, rc, rd⟩ := (KB.head).two
  obtain ⟨_, aa, ab, ac, ad⟩ := (KB.tail.tail.tail.tail.head).two
  go_wp2_with fail
  clear ra rb rc rd aa ab ac ad
  replace KB := KB.put2 (.int .i64 (hiW t)) (.int .u64 (loW t)) (by omega) (by intro z hz; simp only [List.mem_cons, List.not_mem_nil, or_false] at hz; rcases hz with rfl | rfl | rfl | rfl <;> (show _ ≠ _; omega))
  generalize (w5.setCell ⟨g + 1, 0, none⟩ (.int .i64 (hiW t))).setCell ⟨g + 1, 1, none⟩ (.int .u64 (loW t)) = w6 at *
  refine (S2.out _).mono ?_
  rintro e w7 ⟨rfl, k⟩
  replace KB := KB.below k
  clear k
  obtain ⟨_, za, zb, zc, zd⟩ := (KB.tail.tail.head).two
  go_wp2
  obtain ⟨_, P0, P1, _, _⟩ := ((KB.tail.tail.head).self2 (.int .i64 x) (.int .u64 y)).two
  have HB := (KB.hb.setCell (p := ⟨w.heap.size + 1 + 1, 0, none⟩) (by show _ ≤ w.heap.size + 1 + 1; omega) (.int .i64 x)).setCell (p := ⟨w.heap.size + 1 + 1, 1, none⟩) (by show _ ≤ w.heap.size + 1 + 1; omega) (.int .u64 y)
  exact bodyPost_ret (v := .tuple #[.agg #[.int .i64 x, .int .u64 y], .int .i64 e]) (by simp [results, Tryz.results17, go_sem, P0, P1]) rfl (⟨rfl, HB⟩)
end Go.Proofs.YtlidicnbmfkghaaGreatDoor

/- Package round's To and Ratio, at any wide numbers and any mode. -/
namespace Go.Proofs.YtlidicnbmfkghaaGreatDoor
open Go.RowKit

/-- the fraction a by b, b not 0, with b above 0 -/
def upN (a b : Int) : Int := if b < 0 then -a else a
def upD (b : Int) : Int := if b < 0 then -b else b
theorem up_parts {a b : Int} (hb : b ≠ 0) : 0 < upD b ∧ upN a b / upD b = a.fdiv b ∧ upN a b % upD b = (if b < 0 then -a.fmod b else a.fmod b) := by
  unfold upN upD
  by_cases h : b < 0
  · rw [if_pos h, if_pos h, if_pos h]
    have e := Int.fmod_add_mul_fdiv a b
    have l : b < a.fmod b ∧ a.fmod b ≤ 0 := by
      have := (Int.fdiv_fmod_unique' (a := a) (r := a.fmod b) (q := a.fdiv b) h).1 ⟨rfl, rfl⟩
      omega
    generalize a.fmod b = r at *
    generalize a.fdiv b = q at *
    have := (Int.ediv_emod_unique (a := -a) (b := -b) (r := -r) (q := q) (by omega)).2 ⟨by rw [Int.neg_mul]; omega, by omega, by omega⟩
    exact ⟨by omega, this.1, this.2⟩
  · rw [if_neg h, if_neg h, if_neg h]
    exact ⟨by omega, (Int.fdiv_eq_ediv_of_nonneg a (by omega)).symm, (Int.fmod_eq_emod_of_nonneg a (by omega)).symm⟩
/-- does it become the upper one? -/
def upB (a b m : Int) : Bool := if a.fmod b = 0 then false else upR (upN a b) (upD b) m
/-- the fraction a by b, rounded -/
def nearR (a b m : Int) : Int := nearZ (upN a b) (upD b) m
theorem nearR_eq {a b m : Int} (hb : b ≠ 0) : nearR a b m = if upB a b m = true then a.fdiv b + 1 else a.fdiv b := by
  obtain ⟨_, e1, e2⟩ := up_parts (a := a) hb
  unfold nearR nearZ upB
  rw [e1, e2]
  by_cases h : a.fmod b = 0
  · rw [h]; simp
  · have h' : (if b < 0 then -a.fmod b else a.fmod b) ≠ 0 := by split <;> omega
    rw [if_neg h', if_neg h]
theorem ord_range (x y : Int) : ord x y = -1 ∧ x < y ∨ ord x y = 0 ∧ x = y ∨ ord x y = 1 ∧ y < x := by
  rcases Int.lt_trichotomy x y with h | h | h
  · exact .inl ⟨ord_lt h, h⟩
  · exact .inr (.inl ⟨ord_eq h, h⟩)
  · exact .inr (.inr ⟨ord_gt h, h⟩)
theorem near_sign {r b : Int} (hl : 0 < b ∧ 0 ≤ r ∧ r < b ∨ b < 0 ∧ b < r ∧ r ≤ 0) :
    (0 < ord r (b - r) * ord b 0 ↔ upD b < 2 * (if b < 0 then -r else r)) ∧ (ord r (b - r) * ord b 0 < 0 ↔ 2 * (if b < 0 then -r else r) < upD b) ∧ IntKind.i64.wrap (ord r (b - r) * ord b 0) = ord r (b - r) * ord b 0 := by
  unfold upD
  rcases hl with ⟨h, _, _⟩ | ⟨h, _, _⟩
  · rw [ord_gt h, if_neg (by omega), if_neg (by omega), Int.mul_one]
    rcases ord_range r (b - r) with ⟨e, k⟩ | ⟨e, k⟩ | ⟨e, k⟩ <;> rw [e] <;> refine ⟨by omega, by omega, by decide⟩
  · rw [ord_lt h, if_pos h, if_pos h]
    rcases ord_range r (b - r) with ⟨e, k⟩ | ⟨e, k⟩ | ⟨e, k⟩ <;> rw [e] <;> refine ⟨by omega, by omega, by decide⟩
theorem odd_lo (q : Int) : ((loW q).tmod 2 == 1) = decide (q % 2 ≠ 0) := by
  have h0 : 0 ≤ loW q := by unfold loW; omega
  rw [Int.tmod_eq_emod_of_nonneg h0]
  have e : loW q % 2 = q % 2 := by unfold loW; omega
  rw [e]
  by_cases h : q % 2 = 0
  · rw [h]; rfl
  · have : q % 2 = 1 := by omega
    rw [this]; rfl
theorem fmod_range {a b : Int} (hb : b ≠ 0) : 0 < b ∧ 0 ≤ a.fmod b ∧ a.fmod b < b ∨ b < 0 ∧ b < a.fmod b ∧ a.fmod b ≤ 0 := by
  obtain ⟨h1, _, h3⟩ := up_parts (a := a) hb
  have h4 := Int.emod_nonneg (upN a b) (b := upD b) (by omega)
  have h5 := Int.emod_lt_of_pos (upN a b) h1
  rw [h3] at h4 h5
  unfold upD at h5
  by_cases h : b < 0
  · rw [if_pos h] at h4 h5; rw [if_pos h] at h5; omega
  · rw [if_neg h] at h4 h5; rw [if_neg h] at h5; omega
/-- what rises tells is what rounding asks -/
theorem rises_up (a b m : Int) (hb : b ≠ 0) (m1 : 1 ≤ m) (m9 : m ≤ 9) :
    risesB (ord (a.fdiv b) 0) (ord (a.fmod b) (b - a.fmod b) * ord b 0) ((loW (a.fdiv b)).tmod 2 == 1) m = upR (upN a b) (upD b) m := by
  obtain ⟨k1, k2, _⟩ := near_sign (fmod_range hb)
  obtain ⟨d0, e1, e2⟩ := up_parts (a := a) hb
  rw [← e2] at k1 k2
  rw [odd_lo, ← e1]
  have sg : ord (upN a b / upD b) 0 < 0 ↔ upN a b < 0 := by
    rw [ord_iff]
    constructor
    · intro h
      by_cases hn : upN a b < 0
      · exact hn
      · have := Int.ediv_nonneg (a := upN a b) (b := upD b) (by omega) (by omega); omega
    · intro h; exact Int.ediv_neg_of_neg_of_pos h d0
  have sd : decide (ord (upN a b / upD b) 0 < 0) = decide (upN a b < 0) := by simp only [sg]
  have sn : (!decide (ord (upN a b / upD b) 0 < 0)) = decide (0 ≤ upN a b) := by
    rw [sd]; by_cases c : upN a b < 0
    · rw [decide_eq_true c, decide_eq_false (by omega)]; rfl
    · rw [decide_eq_false c, decide_eq_true (by omega)]; rfl
  generalize ord (a.fmod b) (b - a.fmod b) * ord b 0 = nr at *
  generalize upN a b = n at *
  generalize upD b = d at *
  have hm : m = 1 ∨ m = 2 ∨ m = 3 ∨ m = 4 ∨ m = 5 ∨ m = 6 ∨ m = 7 ∨ m = 8 ∨ m = 9 := by omega
  unfold risesB upR halfB
  rw [sn, sd]
  by_cases c1 : 0 < nr
  · have x1 := k1.1 c1
    have x2 : ¬ 2 * (n % d) < d := by omega
    rcases hm with rfl | rfl | rfl | rfl | rfl | rfl | rfl | rfl | rfl <;> simp [c1, x1, x2]
  · have x1 : ¬ d < 2 * (n % d) := fun h => c1 (k1.2 h)
    by_cases c2 : nr = 0
    · have x2 : ¬ 2 * (n % d) < d := fun h => by have := k2.2 h; omega
      rcases hm with rfl | rfl | rfl | rfl | rfl | rfl | rfl | rfl | rfl <;> simp [c2, x1, x2]
    · have x2 : 2 * (n % d) < d := k2.1 (by omega)
      rcases hm with rfl | rfl | rfl | rfl | rfl | rfl | rfl | rfl | rfl <;> simp [c1, c2, x1, x2]

theorem fmod_inW {a b : Int} (hb : InW b) (h0 : b ≠ 0) : InW (a.fmod b) ∧ InW (b - a.fmod b) ∧ (0 < b → InW (a.fmod b - b)) := by
  have h := fmod_range (a := a) h0
  unfold InW two127 at *
  omega
theorem ret_in {w : World} {z : Int} {e : Ending} {w' : World} (hz : InW z) (h : RetWE w z e w') : e = .returned (.tuple #[.agg #[.int .i64 (hiW z), .int .u64 (loW z)], .int .i64 0]) ∧ Below w.heap.size w w' := by
  obtain ⟨t1, t2, t3⟩ := told_in hz
  refine ⟨?_, h.2⟩
  rw [h.1, t1, t2, t3]
theorem rises_any (a b m : Int) (hb : InW b) (hb0 : b ≠ 0) (m1 : 1 ≤ m) (m9 : m ≤ 9) (w : World) :
    Calls Tryz.prog 38 #[.agg #[.int .i64 (hiW (a.fdiv b)), .int .u64 (loW (a.fdiv b))], .agg #[.int .i64 (hiW (a.fmod b)), .int .u64 (loW (a.fmod b))], .agg #[.int .i64 (hiW b), .int .u64 (loW b)], .int .i64 m] w (RetV w (.bool (upB a b m))) := by
  by_cases h0 : a.fmod b = 0
  · rw [show upB a b m = false by unfold upB; rw [if_pos h0], h0]
    exact rises_zero _ _ _ w
  · obtain ⟨i1, i2, _⟩ := fmod_inW (a := a) hb hb0
    rw [show upB a b m = upR (upN a b) (upD b) m by unfold upB; rw [if_neg h0], ← rises_up a b m hb0 m1 m9]
    exact rises_core _ _ _ (b - a.fmod b) _ _ _ _ m (Lib.hid fun W => (wideSub b _ hb i1 W).mono fun e w' h => ret_in i2 h) (Lib.hid fun W => wideCmp _ _ W) (Lib.hid fun W => wideSign _ W) (Lib.hid fun W => wideSign _ W)
      (near_sign (fmod_range hb0)).2.2 (Lib.hid h0) m1 m9 w
theorem floor_in (a b : Int) (ha : InW a) (hb : InW b) (hb0 : b ≠ 0) (iq : InW (a.fdiv b)) (W : World) :
    Calls Tryz.prog 37 #[.agg #[.int .i64 (hiW a), .int .u64 (loW a)], .agg #[.int .i64 (hiW b), .int .u64 (loW b)]] W (RetHalves W (hiW (a.fdiv b)) (loW (a.fdiv b)) (hiW (a.fmod b)) (loW (a.fmod b)) 0) := by
  obtain ⟨t1, t2, t3⟩ := told_in iq
  obtain ⟨u1, u2, _⟩ := told_in (fmod_inW (a := a) hb hb0).1
  exact (floorW_any a b ha hb hb0 W).mono fun e w' ⟨h1, h2⟩ => ⟨by rw [h1]; unfold hv2 lv2; rw [if_pos iq, if_pos iq, t1, t2, t3, u1, u2], h2⟩
theorem floor_over (a b : Int) (ha : InW a) (hb : InW b) (hb0 : b ≠ 0) (iq : ¬ InW (a.fdiv b)) (W : World) :
    Calls Tryz.prog 37 #[.agg #[.int .i64 (hiW a), .int .u64 (loW a)], .agg #[.int .i64 (hiW b), .int .u64 (loW b)]] W (RetHalves W 0 0 0 0 2) := by
  obtain ⟨t1, t2, t3⟩ := told_no iq
  exact (floorW_any a b ha hb hb0 W).mono fun e w' ⟨h1, h2⟩ => ⟨by rw [h1]; unfold hv2 lv2; rw [if_neg iq, if_neg iq, t1, t2, t3], h2⟩
/-- What a call that refuses with an error's number leaves. -/
def RetNo (w : World) (n : Int) (e : Ending) (w' : World) : Prop := e = .returned (.tuple #[.agg #[.int .i64 0, .int .u64 0], .int .i64 n]) ∧ Below w.heap.size w w'

theorem roundTo_no (a b m : Int) (h : m < 1 ∨ 9 < m ∨ b ≤ 0) (w : World) :
    Calls Tryz.prog 17 #[.agg #[.int .i64 (hiW a), .int .u64 (loW a)], .agg #[.int .i64 (hiW b), .int .u64 (loW b)], .int .i64 m] w (RetNo w 1) := by
  by_cases hm : m < 1 ∨ 9 < m
  · exact to_mode a b m (Lib.hid fun W => known_no m hm W) w
  · refine to_least a b m (ord b 0) ?_ (Lib.hid fun W => known_yes m (by omega) (by omega) W) (Lib.hid fun W => wideSign b W) w
    rcases ord_range b 0 with ⟨e, k⟩ | ⟨e, k⟩ | ⟨e, k⟩ <;> omega
theorem roundTo_any (a b m : Int) (ha : InW a) (hb : InW b) (hb0 : 0 < b) (m1 : 1 ≤ m) (m9 : m ≤ 9) (w : World) :
    Calls Tryz.prog 17 #[.agg #[.int .i64 (hiW a), .int .u64 (loW a)], .agg #[.int .i64 (hiW b), .int .u64 (loW b)], .int .i64 m] w (RetWE w (nearR a b m * b)) := by
  have hbn : b ≠ 0 := by omega
  have e := Int.fmod_add_mul_fdiv a b
  have hs : ¬ ord b 0 ≤ 0 := by rw [ord_gt hb0]; decide
  obtain ⟨i1, i2, i3⟩ := fmod_inW (a := a) hb hbn
  have iq : InW (a.fdiv b) := by
    rw [Int.fdiv_eq_ediv_of_nonneg a (by omega)]
    unfold InW two127 at *
    have h1 := Int.ediv_mul_add_emod a b
    have h2 := Int.emod_nonneg a hbn
    have h3 := Int.emod_lt_of_pos a hb0
    generalize a / b = q at *
    generalize a % b = r at *
    have hq : q * b = a - r := by omega
    constructor
    · apply Classical.byContradiction
      intro c
      have : q * b ≤ (-170141183460469231731687303715884105729) * b := Int.mul_le_mul_of_nonneg_right (by omega) (by omega)
      omega
    · apply Classical.byContradiction
      intro c
      have : 170141183460469231731687303715884105728 * b ≤ q * b := Int.mul_le_mul_of_nonneg_right (by omega) (by omega)
      omega
  have KN := Lib.hid (fun W => known_yes m m1 m9 W)
  have SG := Lib.hid (fun W => wideSign b W)
  have FL := Lib.hid (fun W => floor_in a b ha hb hbn iq W)
  have RI := fun W => rises_any a b m hb hbn m1 m9 W
  have nr := nearR_eq (a := a) (b := b) (m := m) hbn
  by_cases hu : upB a b m = true
  · rw [hu] at RI
    rw [nr, if_pos hu, show (a.fdiv b + 1) * b = a - (a.fmod b - b) by rw [Int.add_mul, Int.mul_comm]; omega]
    exact to_up a b m (ord b 0) _ _ (a.fmod b - b) _ _ _ hs KN SG FL (Lib.hid RI) (Lib.hid fun W => (wideSub _ _ i1 hb W).mono fun e w' h => ret_in (i3 hb0) h) (Lib.hid fun W => wideSub _ _ ha (i3 hb0) W) w
  · have hu' : upB a b m = false := by simpa using hu
    rw [hu'] at RI
    rw [nr, if_neg hu, show a.fdiv b * b = a - a.fmod b by rw [Int.mul_comm]; omega]
    exact to_down a b m (ord b 0) _ _ _ _ _ hs KN SG FL (Lib.hid RI) (Lib.hid fun W => wideSub _ _ ha i1 W) w
end Go.Proofs.YtlidicnbmfkghaaGreatDoor
