/- Package round: whether a mode is one, the mirrored mode, and what the function literals of rises answer. -/
import Derived.Test.YtnopgdheffnfdaaGblk
import Derived.Test.YtnopgdheffnfdaaRnear
namespace Go.Proofs.Ytnopgdheffnfdaa
open Go.RowKit

theorem known_yes (m : Int) (h1 : 1 ≤ m) (h9 : m ≤ 9) (w : World) :
    Calls Try.prog 25 #[.int .i64 m] w (fun e w' => e = .returned (.bool true) ∧ w = w') := by
  have a1 : m ≥ 1 := h1
  go_enter Try.func25, Try.ntmps25
  go_wp2
  go_ret
  exact ⟨rfl, rfl⟩
theorem known_no (m : Int) (h : m < 1 ∨ 9 < m) (w : World) :
    Calls Try.prog 25 #[.int .i64 m] w (fun e w' => e = .returned (.bool false) ∧ w = w') := by
  rcases h with h | h
  · have a1 : ¬ 1 ≤ m := by omega
    go_enter Try.func25, Try.ntmps25
    go_wp2
    go_ret
    exact ⟨rfl, rfl⟩
  · have a1 : 1 ≤ m := by omega
    have a2 : ¬ m ≤ 9 := by omega
    go_enter Try.func25, Try.ntmps25
    go_wp2
    go_ret
    exact ⟨rfl, rfl⟩
theorem mirror_any (m : Int) (w : World) :
    Calls Try.prog 15 #[.int .i64 m] w (fun e w' => e = .returned (.int .i64 (mirM m)) ∧ w = w') := by
  by_cases h1 : m = 1
  · subst h1
    go_enter Try.func15, Try.ntmps15
    go_wp2
    go_ret
    exact ⟨rfl, rfl⟩
  · by_cases h2 : m = 2
    · subst h2
      go_enter Try.func15, Try.ntmps15
      go_wp2
      go_ret
      exact ⟨rfl, rfl⟩
    · by_cases h5 : m = 5
      · subst h5
        go_enter Try.func15, Try.ntmps15
        go_wp2
        go_ret
        exact ⟨rfl, rfl⟩
      · by_cases h6 : m = 6
        · subst h6
          go_enter Try.func15, Try.ntmps15
          go_wp2
          go_ret
          exact ⟨rfl, rfl⟩
        · have b1 : (m == 1) = false := by rw [beq_eq_false_iff_ne]; exact h1
          have b2 : (m == 2) = false := by rw [beq_eq_false_iff_ne]; exact h2
          have b5 : (m == 5) = false := by rw [beq_eq_false_iff_ne]; exact h5
          have b6 : (m == 6) = false := by rw [beq_eq_false_iff_ne]; exact h6
          have e : mirM m = m := by unfold mirM; rw [if_neg h1, if_neg h2, if_neg h5, if_neg h6]
          rw [e]
          clear e
          go_enter Try.func15, Try.ntmps15
          go_wp2
          go_ret
          exact ⟨rfl, rfl⟩

/-- half: the nearer one, and of two as near the upper one where it is so said -/
def halfB (nr : Int) (u : Bool) : Bool := if 0 < nr then true else if nr = 0 then u else false
theorem half_any (nr : Int) (u : Bool) (b : Nat) (w : World) (h : Blk w b [.int .i64 nr]) :
    Calls Try.prog 46 #[.bool u, .pointer (some ⟨b, 0, none⟩)] w (fun e w' => e = .returned (.bool (halfB nr u)) ∧ w = w') := by
  obtain ⟨lt, c0, _⟩ := h.one
  by_cases h1 : 0 < nr
  · have e : halfB nr u = true := by unfold halfB; rw [if_pos h1]
    rw [e]; clear e
    go_enter Try.func46, Try.ntmps46
    go_wp2
    go_ret
    exact ⟨rfl, rfl⟩
  · by_cases h2 : nr = 0
    · subst h2
      have e : halfB 0 u = u := by unfold halfB; rw [if_neg h1, if_pos rfl]
      rw [e]; clear e
      go_enter Try.func46, Try.ntmps46
      go_wp2
      go_ret
      exact ⟨rfl, rfl⟩
    · have e : halfB nr u = false := by unfold halfB; rw [if_neg h1, if_neg h2]
      rw [e]; clear e
      have b2 : (nr == 0) = false := by rw [beq_eq_false_iff_ne]; exact h2
      go_enter Try.func46, Try.ntmps46
      go_wp2
      go_ret
      exact ⟨rfl, rfl⟩
theorem ceil_any (w : World) : Calls Try.prog 47 #[] w (fun e w' => e = .returned (.bool true) ∧ w = w') := by
  go_enter Try.func47, Try.ntmps47
  go_wp2
  go_ret
  exact ⟨rfl, rfl⟩
theorem floor_lit (w : World) : Calls Try.prog 48 #[] w (fun e w' => e = .returned (.bool false) ∧ w = w') := by
  go_enter Try.func48, Try.ntmps48
  go_wp2
  go_ret
  exact ⟨rfl, rfl⟩
theorem expand_any (u : Bool) (b : Nat) (w : World) (h : Blk w b [.bool u]) :
    Calls Try.prog 49 #[.pointer (some ⟨b, 0, none⟩)] w (fun e w' => e = .returned (.bool (!u)) ∧ w = w') := by
  obtain ⟨lt, c0, _⟩ := h.one
  go_enter Try.func49, Try.ntmps49
  go_wp2
  go_ret
  exact ⟨rfl, rfl⟩
theorem trunc_lit (u : Bool) (b : Nat) (w : World) (h : Blk w b [.bool u]) :
    Calls Try.prog 50 #[.pointer (some ⟨b, 0, none⟩)] w (fun e w' => e = .returned (.bool u) ∧ w = w') := by
  obtain ⟨lt, c0, _⟩ := h.one
  go_enter Try.func50, Try.ntmps50
  go_wp2
  go_ret
  exact ⟨rfl, rfl⟩
/-- the value of half -/
def halfV (b : Nat) : Value := .func (.func 46) #[] #[.pointer (some ⟨b, 0, none⟩)]
theorem halfCeil_any (nr : Int) (b f : Nat) (w : World) (h : Blk w b [.int .i64 nr]) (hf : Blk w f [halfV b]) :
    Calls Try.prog 51 #[.pointer (some ⟨f, 0, none⟩)] w (fun e w' => e = .returned (.bool (halfB nr true)) ∧ w = w') := by
  have HA := Lib.hid (half_any nr true b w h)
  obtain ⟨lt, c0, _⟩ := hf.one
  unfold halfV at c0
  clear h hf
  go_enter Try.func51, Try.ntmps51
  go_wp2_with (go_at_call 46; refine HA.out.mono ?_; rintro e w' ⟨rfl, rfl⟩)
  go_ret
  exact ⟨rfl, rfl⟩
theorem halfFloor_any (nr : Int) (b f : Nat) (w : World) (h : Blk w b [.int .i64 nr]) (hf : Blk w f [halfV b]) :
    Calls Try.prog 52 #[.pointer (some ⟨f, 0, none⟩)] w (fun e w' => e = .returned (.bool (halfB nr false)) ∧ w = w') := by
  have HA := Lib.hid (half_any nr false b w h)
  obtain ⟨lt, c0, _⟩ := hf.one
  unfold halfV at c0
  clear h hf
  go_enter Try.func52, Try.ntmps52
  go_wp2_with (go_at_call 46; refine HA.out.mono ?_; rintro e w' ⟨rfl, rfl⟩)
  go_ret
  exact ⟨rfl, rfl⟩
theorem halfExpand_any (nr : Int) (u : Bool) (b f c : Nat) (w : World) (h : Blk w b [.int .i64 nr]) (hf : Blk w f [halfV b]) (hu : Blk w c [.bool u]) :
    Calls Try.prog 53 #[.pointer (some ⟨f, 0, none⟩), .pointer (some ⟨c, 0, none⟩)] w (fun e w' => e = .returned (.bool (halfB nr (!u))) ∧ w = w') := by
  have HA := Lib.hid (half_any nr (!u) b w h)
  obtain ⟨lt, c0, _⟩ := hf.one
  obtain ⟨lu, c1, _⟩ := hu.one
  unfold halfV at c0
  clear h hf hu
  go_enter Try.func53, Try.ntmps53
  go_wp2_with (go_at_call 46; refine HA.out.mono ?_; rintro e w' ⟨rfl, rfl⟩)
  go_ret
  exact ⟨rfl, rfl⟩
theorem halfTrunc_any (nr : Int) (u : Bool) (b f c : Nat) (w : World) (h : Blk w b [.int .i64 nr]) (hf : Blk w f [halfV b]) (hu : Blk w c [.bool u]) :
    Calls Try.prog 54 #[.pointer (some ⟨f, 0, none⟩), .pointer (some ⟨c, 0, none⟩)] w (fun e w' => e = .returned (.bool (halfB nr (u))) ∧ w = w') := by
  have HA := Lib.hid (half_any nr (u) b w h)
  obtain ⟨lt, c0, _⟩ := hf.one
  obtain ⟨lu, c1, _⟩ := hu.one
  unfold halfV at c0
  clear h hf hu
  go_enter Try.func54, Try.ntmps54
  go_wp2_with (go_at_call 46; refine HA.out.mono ?_; rintro e w' ⟨rfl, rfl⟩)
  go_ret
  exact ⟨rfl, rfl⟩
theorem halfEven_any (nr : Int) (u : Bool) (b f c : Nat) (w : World) (h : Blk w b [.int .i64 nr]) (hf : Blk w f [halfV b]) (hu : Blk w c [.bool u]) :
    Calls Try.prog 55 #[.pointer (some ⟨f, 0, none⟩), .pointer (some ⟨c, 0, none⟩)] w (fun e w' => e = .returned (.bool (halfB nr (u))) ∧ w = w') := by
  have HA := Lib.hid (half_any nr (u) b w h)
  obtain ⟨lt, c0, _⟩ := hf.one
  obtain ⟨lu, c1, _⟩ := hu.one
  unfold halfV at c0
  clear h hf hu
  go_enter Try.func55, Try.ntmps55
  go_wp2_with (go_at_call 46; refine HA.out.mono ?_; rintro e w' ⟨rfl, rfl⟩)
  go_ret
  exact ⟨rfl, rfl⟩
end Go.Proofs.Ytnopgdheffnfdaa
