import Derived.Test.YtmhpnmlgfdomkaaGreatDoorZGea
import Derived.Test.YtmhpnmlgfdomkaaGreatDoorZGeb
import Derived.Test.YtmhpnmlgfdomkaaGreatDoorZGyp
import Derived.Test.YtmhpnmlgfdomkaaGreatDoorZYon
import Derived.Laws.Cover1
import Derived.RangeFuncNested
import Derived.RangeFuncBound
import Derived.RangeFuncCalls
import Derived.RangeFuncLeaves
import Derived.RangeFuncBox
import Derived.Shelf.Abstract
import Derived.Shelf.RegionOpen
import Derived.WalkKit
import Derived.OwnWalkIn
import Derived.TacticsInMore
import Derived.LoopNIn
import Derived.LoopIn
import Derived.Sort.CutIn
import Derived.Test.YtmhpnmlgfdomkaaGreatDoorZGe
import Derived.Shelf.AbstractIn
import Derived.BigQuiet
set_option maxRecDepth 100000
set_option maxHeartbeats 64000000
namespace Go.Proofs.YtmhpnmlgfdomkaaGreatDoor
open Go.RowKit
theorem lenM_leap (y z m : Int) : lenM y m ≤ lenM z m + 1 := by
  unfold lenM
  split <;> (try split) <;> (try split) <;> (try split) <;> (try split) <;> (try split) <;> omega
theorem onDay_span {x : Sp} (h : x.ok) : ∃ lo : Int, ∀ y, lo ≤ onDay x y - jan y ∧ onDay x y - jan y ≤ lo + 12 := by
  obtain ⟨⟨m1, m12⟩, ⟨k0, k3⟩, _, _, w0, w1, d0, d1⟩ := h
  refine ⟨cum 1 x.mo + (if x.ki = 0 then x.da - 2 else if x.ki = 1 then lenM 1 x.mo - 9 else if x.ki = 2 then x.da - 2 else x.da - 8), fun y => ?_⟩
  have c1 := cum_leap y 1 x.mo
  have c2 := cum_leap 1 y x.mo
  have l1 := lenM_leap y 1 x.mo
  have l2 := lenM_leap 1 y x.mo
  have hn : ∀ d, numD y x.mo d = jan y + cum y x.mo + (d - 1) := fun d => rfl
  have h8 := @downTo_is (numD y x.mo 1 + lenM y x.mo - 1) x.wd
  have h9 := @downTo_is (numD y x.mo 1 + x.da - 1) x.wd
  have h10 := @upTo_is (numD y x.mo 1 + x.da - 1) x.wd
  rw [hn] at h8 h9 h10
  unfold onDay
  rw [hn]
  by_cases e0 : x.ki = 0
  · rw [if_pos e0, if_pos e0]; omega
  rw [if_neg e0, if_neg e0]
  by_cases e1 : x.ki = 1
  · rw [if_pos e1, if_pos e1]
    have := h8 (by omega)
    omega
  rw [if_neg e1, if_neg e1]
  by_cases e2 : x.ki = 2
  · rw [if_pos e2, if_pos e2]
    have := h10 (by omega)
    omega
  rw [if_neg e2, if_neg e2]
  have := h9 (by omega)
  omega
theorem span_two {a b : Sp} (ha : a.ok) (hb : b.ok) {on : Int} (h : on = 0 ∨ on = 1) (y z : Int) :
    (onDay a y - onDay b (y + on)) - (onDay a z - onDay b (z + on)) ≤ 25 ∧ -25 ≤ (onDay a y - onDay b (y + on)) - (onDay a z - onDay b (z + on)) := by
  obtain ⟨la, h1⟩ := onDay_span ha
  obtain ⟨lb, h2⟩ := onDay_span hb
  have a1 := h1 y
  have a2 := h1 z
  have b1 := h2 (y + on)
  have b2 := h2 (z + on)
  have ly := lenY_range y
  have lz := lenY_range z
  have jy := jan_succ y
  have jz := jan_succ z
  rcases h with rfl | rfl
  · rw [Int.add_zero] at *
    rw [Int.add_zero] at *
    omega
  · omega
def meetP (a b : Rl) (on : Int) : Prop := ∃ y, turnIn a y ∧ turnIn b (y + on) ∧ nearT (turnT a y) (turnT b (y + on))
theorem meet_sway {a b : Rl} {on : Int} (h : on = 0 ∨ on = 1) {y : Int} (ta : turnIn a y) (tb : turnIn b (y + on)) (far : 2764800 ≤ (turnT a y).at_ - (turnT b (y + on)).at_ ∨ 2764800 ≤ (turnT b (y + on)).at_ - (turnT a y).at_) : ¬ meetP a b on := by
  rintro ⟨z, za, zb, n⟩
  have s := span_two ta.2.1 tb.2.1 h y z
  unfold nearT at n
  rw [turn_at ta, turn_at tb] at far
  rw [turn_at za, turn_at zb] at n
  omega
theorem onDay_cycles (x : Sp) (y : Int) : ∀ c : Nat, onDay x (y + 400 * c) = onDay x y + 146097 * c
  | 0 => by simp
  | c + 1 => by
    have := onDay_cycles x y c
    have e : y + 400 * ((c + 1 : Nat) : Int) = y + 400 * c + 400 := by push_cast; omega
    rw [e, onDay_400, this]
    push_cast
    omega
def noMeet (a b : Rl) (on first y : Int) : Prop := ∀ z, first ≤ z → z < y → ¬ nearT (turnT a z) (turnT b (z + on))
theorem meet_turns {a b : Rl} (fa : a.fit) (fb : b.fit) {on : Int} (h : on = 0 ∨ on = 1) {y : Int} (h1 : max a.fr (b.fr - on) ≤ y) (h2 : y ≤ min (min a.last (b.last - on)) (max a.fr (b.fr - on) + 399)) : turnIn a y ∧ turnIn b (y + on) := by
  have := fa.1
  have := fb.1
  exact ⟨turn_is fa (by omega) (by omega), turn_is fb (by omega) (by omega)⟩
theorem meet_none {a b : Rl} (fa : a.fit) (fb : b.fit) {on : Int} (h : on = 0 ∨ on = 1) {y : Int} (hy : min (min a.last (b.last - on)) (max a.fr (b.fr - on) + 399) < y) (no : noMeet a b on (max a.fr (b.fr - on)) y) : ¬ meetP a b on := by
  rintro ⟨z, za, zb, n⟩
  obtain ⟨f, hf⟩ : ∃ f, f = max a.fr (b.fr - on) := ⟨_, rfl⟩
  rw [← hf] at hy no
  have z1 := za.1
  have z2 := zb.1
  have fz : f ≤ z := by omega
  obtain ⟨c, c1, c2⟩ : ∃ c : Nat, f ≤ z - 400 * c ∧ z - 400 * c ≤ f + 399 := ⟨((z - f) / 400).toNat, by omega, by omega⟩
  obtain ⟨y0, e⟩ : ∃ y0, y0 = z - 400 * (c : Int) := ⟨_, rfl⟩
  rw [← e] at c1 c2
  have ez : z = y0 + 400 * c := by omega
  have ez2 : z + on = y0 + on + 400 * c := by omega
  obtain ⟨ya, yb⟩ := meet_turns fa fb h (y := y0) (by omega) (by omega)
  refine no y0 c1 (by omega) ?_
  unfold nearT at n ⊢
  rw [turn_at za, turn_at zb, ez2, onDay_cycles, ez, onDay_cycles] at n
  rw [turn_at ya, turn_at yb]
  omega
theorem noMeet_next {a b : Rl} {on f y : Int} (h : noMeet a b on f y) (k : ¬ nearT (turnT a y) (turnT b (y + on))) : noMeet a b on f (y + 1) := fun z h1 h2 => by
  by_cases e : z = y
  · rw [e]; exact k
  · exact h z h1 (by omega)
theorem near_meet {L : List Rl} : nearP L ↔ ∃ (i j : Nat) (a b : Rl), j < i ∧ L[i]? = some a ∧ L[j]? = some b ∧ (meetP a b 0 ∨ meetP a b 1 ∨ meetP b a 1) := by
  constructor
  · rintro ⟨i, j, y, z, t, u, ⟨x, hx, tx, rfl⟩, ⟨x', hx', tx', rfl⟩, ne, n⟩
    have yy := near_years tx tx' n
    have n' : nearT (turnT x' z) (turnT x y) := by unfold nearT at *; omega
    rcases Nat.lt_trichotomy i j with l | l | l
    · refine ⟨j, i, x', x, l, hx', hx, ?_⟩
      rcases (by omega : z = y ∨ z = y + 1 ∨ y = z + 1) with e | e | e
      · subst e; exact .inl ⟨z, tx', by rw [Int.add_zero]; exact tx, by rw [Int.add_zero]; exact n'⟩
      · subst e; exact .inr (.inr ⟨y, tx, tx', n⟩)
      · subst e; exact .inr (.inl ⟨z, tx', tx, n'⟩)
    · subst l
      rw [hx] at hx'
      cases hx'
      exfalso
      unfold nearT at n
      rcases Int.lt_trichotomy y z with l | l | l
      · have := turn_next tx tx' l; omega
      · omega
      · have := turn_next tx' tx l; omega
    · refine ⟨i, j, x, x', l, hx, hx', ?_⟩
      rcases (by omega : z = y ∨ z = y + 1 ∨ y = z + 1) with e | e | e
      · subst e; exact .inl ⟨z, tx, by rw [Int.add_zero]; exact tx', by rw [Int.add_zero]; exact n⟩
      · subst e; exact .inr (.inl ⟨y, tx, tx', n⟩)
      · subst e; exact .inr (.inr ⟨z, tx', tx, n'⟩)
  · rintro ⟨i, j, a, b, l, ha, hb, h⟩
    rcases h with ⟨y, ta, tb, n⟩ | ⟨y, ta, tb, n⟩ | ⟨y, tb, ta, n⟩
    · rw [Int.add_zero] at tb n
      exact ⟨i, j, y, y, _, _, ⟨a, ha, ta, rfl⟩, ⟨b, hb, tb, rfl⟩, .inl (by omega), n⟩
    · exact ⟨i, j, y, y + 1, _, _, ⟨a, ha, ta, rfl⟩, ⟨b, hb, tb, rfl⟩, .inl (by omega), n⟩
    · exact ⟨j, i, y, y + 1, _, _, ⟨b, hb, tb, rfl⟩, ⟨a, ha, ta, rfl⟩, .inl (by omega), n⟩
theorem withinE (n a b : Int) (w : World) : Calls Tryz.prog 144 #[.int .i64 n, .int .i64 a, .int .i64 b] w (fun e w' => e = .returned (.bool (wiB n a b)) ∧ w = w') := by
  by_cases h : a ≤ n
  · have d : decide (a ≤ n) = true := decide_eq_true h
    have E := Lib.hid (show wiB n a b = decide (n ≤ b) by unfold wiB; rw [d]; rfl)
    clear h
    go_enter Tryz.func144, Tryz.ntmps144
    go_wp2
    go_ret
    exact ⟨by rw [E.out]; rfl, rfl⟩
  · have d : decide (a ≤ n) = false := decide_eq_false h
    have E := Lib.hid (show wiB n a b = false by unfold wiB; rw [d]; rfl)
    clear h
    go_enter Tryz.func144, Tryz.ntmps144
    go_wp2
    go_ret
    exact ⟨by rw [E.out]; rfl, rfl⟩
theorem inForceE (x : Rl) (y : Int) (w : World) : Calls Tryz.prog 131 #[x.val, .int .i64 y] w (RetV w (.bool (wiB y x.fr x.last))) := by
  obtain ⟨nm, fr, last, ⟨mo, ki, wd, da, ti, re⟩, save, le⟩ := x
  have WI := Lib.hid (fun W => withinE y fr last W)
  show Calls Tryz.prog 131 #[.agg #[.string nm, .int .i64 fr, .int .i64 last, .int .i64 mo, .int .i64 ki, .int .i64 wd, .int .i64 da, .int .i64 ti, .int .i64 re, .int .i64 save, .string le], .int .i64 y] w (RetV w (.bool (wiB y fr last)))
  generalize wiB y fr last = b at *
  go_enter Tryz.func131, Tryz.ntmps131
  go_upto_region 1 with (fail)
  have KB := blk_lit w 36 [.string nm, .int .i64 fr, .int .i64 last, .int .i64 mo, .int .i64 ki, .int .i64 wd, .int .i64 da, .int .i64 ti, .int .i64 re, .int .i64 save, .string le]
  have hb := (below_box w (.cells #[.string nm, .int .i64 fr, .int .i64 last, .int .i64 mo, .int .i64 ki, .int .i64 wd, .int .i64 da, .int .i64 ti, .int .i64 re, .int .i64 save, .string le] 36))
  generalize w.alloc (.cells #[.string nm, .int .i64 fr, .int .i64 last, .int .i64 mo, .int .i64 ki, .int .i64 wd, .int .i64 da, .int .i64 ti, .int .i64 re, .int .i64 save, .string le] 36) = W at *
  obtain ⟨y0, y1, y2, y3, y4, y5, y6, y7, y8, y9, y10⟩ := KB.elevenC
  go_wp2_with (go_at_call 144; refine (WI.out _).mono ?_; clear WI; rintro e W9 ⟨rfl, rfl⟩)
  go_ret
  exact ⟨rfl, hb⟩
def rlEB (x : Rl) : Bool := wiB x.fr 1 9999 && ((wiB x.last 1 9999 || x.last == 1000000) && (decide x.sp.ok && wiB x.save (-43200) 43200))
theorem rlEB_is (x : Rl) : rlEB x = true ↔ x.fit := by
  unfold rlEB Rl.fit
  rw [Bool.and_eq_true, Bool.and_eq_true, Bool.and_eq_true, Bool.or_eq_true, wiB_is, wiB_is, wiB_is, decide_eq_true_iff, beq_iff_eq]
  constructor
  · rintro ⟨h1, h2, h3, h4⟩
    exact ⟨h1, by omega, h3, h4⟩
  · rintro ⟨h1, h2, h3, h4⟩
    exact ⟨h1, by omega, h3, h4⟩
theorem rrE_a (nm le : ByteArray) (fr last mo ki wd da ti re save : Int) (B1 : Hid (∀ W, Calls Tryz.prog 144 #[.int .i64 fr, .int .i64 1, .int .i64 9999] W (fun e w' => e = .returned (.bool false) ∧ W = w'))) (w : World) : Calls Tryz.prog 130 #[.agg #[.string nm, .int .i64 fr, .int .i64 last, .int .i64 mo, .int .i64 ki, .int .i64 wd, .int .i64 da, .int .i64 ti, .int .i64 re, .int .i64 save, .string le]] w (RetV w (.bool false)) := by
  go_enter Tryz.func130, Tryz.ntmps130
  go_upto_region 1 with (fail)
  have KB := blk_lit w 36 [.string nm, .int .i64 fr, .int .i64 last, .int .i64 mo, .int .i64 ki, .int .i64 wd, .int .i64 da, .int .i64 ti, .int .i64 re, .int .i64 save, .string le]
  have hb := (below_box w (.cells #[.string nm, .int .i64 fr, .int .i64 last, .int .i64 mo, .int .i64 ki, .int .i64 wd, .int .i64 da, .int .i64 ti, .int .i64 re, .int .i64 save, .string le] 36))
  generalize w.alloc (.cells #[.string nm, .int .i64 fr, .int .i64 last, .int .i64 mo, .int .i64 ki, .int .i64 wd, .int .i64 da, .int .i64 ti, .int .i64 re, .int .i64 save, .string le] 36) = W at *
  obtain ⟨y0, y1, y2, y3, y4, y5, y6, y7, y8, y9, y10⟩ := KB.elevenC
  go_wp2_with (first
    | (go_at_call 144; with_reducible refine (B1.out _).mono ?_; clear B1; rintro e W9 ⟨rfl, rfl⟩)
    | (go_at_call 51; refine (SR.out _).mono ?_; clear SR; rintro e W9 ⟨rfl, hk⟩; replace hb := below_thru hb hk; replace KB := KB.below hk; clear hk y0 y1 y2 y3 y4 y5 y6 y7 y8 y9 y10; obtain ⟨y0, y1, y2, y3, y4, y5, y6, y7, y8, y9, y10⟩ := KB.elevenC))
  go_ret
  exact ⟨rfl, hb⟩
theorem rrE_b (nm le : ByteArray) (fr last mo ki wd da ti re save : Int) (B1 : Hid (∀ W, Calls Tryz.prog 144 #[.int .i64 fr, .int .i64 1, .int .i64 9999] W (fun e w' => e = .returned (.bool true) ∧ W = w'))) (B2 : Hid (∀ W, Calls Tryz.prog 144 #[.int .i64 last, .int .i64 1, .int .i64 9999] W (fun e w' => e = .returned (.bool false) ∧ W = w'))) (d : (last == 1000000) = false) (w : World) : Calls Tryz.prog 130 #[.agg #[.string nm, .int .i64 fr, .int .i64 last, .int .i64 mo, .int .i64 ki, .int .i64 wd, .int .i64 da, .int .i64 ti, .int .i64 re, .int .i64 save, .string le]] w (RetV w (.bool false)) := by
  go_enter Tryz.func130, Tryz.ntmps130
  go_upto_region 1 with (fail)
  have KB := blk_lit w 36 [.string nm, .int .i64 fr, .int .i64 last, .int .i64 mo, .int .i64 ki, .int .i64 wd, .int .i64 da, .int .i64 ti, .int .i64 re, .int .i64 save, .string le]
  have hb := (below_box w (.cells #[.string nm, .int .i64 fr, .int .i64 last, .int .i64 mo, .int .i64 ki, .int .i64 wd, .int .i64 da, .int .i64 ti, .int .i64 re, .int .i64 save, .string le] 36))
  generalize w.alloc (.cells #[.string nm, .int .i64 fr, .int .i64 last, .int .i64 mo, .int .i64 ki, .int .i64 wd, .int .i64 da, .int .i64 ti, .int .i64 re, .int .i64 save, .string le] 36) = W at *
  obtain ⟨y0, y1, y2, y3, y4, y5, y6, y7, y8, y9, y10⟩ := KB.elevenC
  go_wp2_with (first
    | (go_at_call 144; with_reducible refine (B1.out _).mono ?_; clear B1; rintro e W9 ⟨rfl, rfl⟩)
    | (go_at_call 144; with_reducible refine (B2.out _).mono ?_; clear B2; rintro e W9 ⟨rfl, rfl⟩)
    | (go_at_call 51; refine (SR.out _).mono ?_; clear SR; rintro e W9 ⟨rfl, hk⟩; replace hb := below_thru hb hk; replace KB := KB.below hk; clear hk y0 y1 y2 y3 y4 y5 y6 y7 y8 y9 y10; obtain ⟨y0, y1, y2, y3, y4, y5, y6, y7, y8, y9, y10⟩ := KB.elevenC))
  go_ret
  exact ⟨rfl, hb⟩
theorem rrE_c (nm le : ByteArray) (fr last mo ki wd da ti re save : Int) (B1 : Hid (∀ W, Calls Tryz.prog 144 #[.int .i64 fr, .int .i64 1, .int .i64 9999] W (fun e w' => e = .returned (.bool true) ∧ W = w'))) (B2 : Hid (∀ W, Calls Tryz.prog 144 #[.int .i64 last, .int .i64 1, .int .i64 9999] W (fun e w' => e = .returned (.bool false) ∧ W = w'))) (d : (last == 1000000) = true) (SR : Hid (∀ W, Calls Tryz.prog 51 #[.agg #[.int .i64 mo, .int .i64 ki, .int .i64 wd, .int .i64 da, .int .i64 ti, .int .i64 re]] W (RetV W (.bool false)))) (w : World) : Calls Tryz.prog 130 #[.agg #[.string nm, .int .i64 fr, .int .i64 last, .int .i64 mo, .int .i64 ki, .int .i64 wd, .int .i64 da, .int .i64 ti, .int .i64 re, .int .i64 save, .string le]] w (RetV w (.bool false)) := by
  go_enter Tryz.func130, Tryz.ntmps130
  go_upto_region 1 with (fail)
  have KB := blk_lit w 36 [.string nm, .int .i64 fr, .int .i64 last, .int .i64 mo, .int .i64 ki, .int .i64 wd, .int .i64 da, .int .i64 ti, .int .i64 re, .int .i64 save, .string le]
  have hb := (below_box w (.cells #[.string nm, .int .i64 fr, .int .i64 last, .int .i64 mo, .int .i64 ki, .int .i64 wd, .int .i64 da, .int .i64 ti, .int .i64 re, .int .i64 save, .string le] 36))
  generalize w.alloc (.cells #[.string nm, .int .i64 fr, .int .i64 last, .int .i64 mo, .int .i64 ki, .int .i64 wd, .int .i64 da, .int .i64 ti, .int .i64 re, .int .i64 save, .string le] 36) = W at *
  obtain ⟨y0, y1, y2, y3, y4, y5, y6, y7, y8, y9, y10⟩ := KB.elevenC
  go_wp2_with (first
    | (go_at_call 144; with_reducible refine (B1.out _).mono ?_; clear B1; rintro e W9 ⟨rfl, rfl⟩)
    | (go_at_call 144; with_reducible refine (B2.out _).mono ?_; clear B2; rintro e W9 ⟨rfl, rfl⟩)
    | (go_at_call 51; refine (SR.out _).mono ?_; clear SR; rintro e W9 ⟨rfl, hk⟩; replace hb := below_thru hb hk; replace KB := KB.below hk; clear hk y0 y1 y2 y3 y4 y5 y6 y7 y8 y9 y10; obtain ⟨y0, y1, y2, y3, y4, y5, y6, y7, y8, y9, y10⟩ := KB.elevenC))
  go_ret
  exact ⟨rfl, hb⟩
theorem rrE_d (nm le : ByteArray) (fr last mo ki wd da ti re save : Int) (B1 : Hid (∀ W, Calls Tryz.prog 144 #[.int .i64 fr, .int .i64 1, .int .i64 9999] W (fun e w' => e = .returned (.bool true) ∧ W = w'))) (B2 : Hid (∀ W, Calls Tryz.prog 144 #[.int .i64 last, .int .i64 1, .int .i64 9999] W (fun e w' => e = .returned (.bool true) ∧ W = w'))) (SR : Hid (∀ W, Calls Tryz.prog 51 #[.agg #[.int .i64 mo, .int .i64 ki, .int .i64 wd, .int .i64 da, .int .i64 ti, .int .i64 re]] W (RetV W (.bool false)))) (w : World) : Calls Tryz.prog 130 #[.agg #[.string nm, .int .i64 fr, .int .i64 last, .int .i64 mo, .int .i64 ki, .int .i64 wd, .int .i64 da, .int .i64 ti, .int .i64 re, .int .i64 save, .string le]] w (RetV w (.bool false)) := by
  go_enter Tryz.func130, Tryz.ntmps130
  go_upto_region 1 with (fail)
  have KB := blk_lit w 36 [.string nm, .int .i64 fr, .int .i64 last, .int .i64 mo, .int .i64 ki, .int .i64 wd, .int .i64 da, .int .i64 ti, .int .i64 re, .int .i64 save, .string le]
  have hb := (below_box w (.cells #[.string nm, .int .i64 fr, .int .i64 last, .int .i64 mo, .int .i64 ki, .int .i64 wd, .int .i64 da, .int .i64 ti, .int .i64 re, .int .i64 save, .string le] 36))
  generalize w.alloc (.cells #[.string nm, .int .i64 fr, .int .i64 last, .int .i64 mo, .int .i64 ki, .int .i64 wd, .int .i64 da, .int .i64 ti, .int .i64 re, .int .i64 save, .string le] 36) = W at *
  obtain ⟨y0, y1, y2, y3, y4, y5, y6, y7, y8, y9, y10⟩ := KB.elevenC
  go_wp2_with (first
    | (go_at_call 144; with_reducible refine (B1.out _).mono ?_; clear B1; rintro e W9 ⟨rfl, rfl⟩)
    | (go_at_call 144; with_reducible refine (B2.out _).mono ?_; clear B2; rintro e W9 ⟨rfl, rfl⟩)
    | (go_at_call 51; refine (SR.out _).mono ?_; clear SR; rintro e W9 ⟨rfl, hk⟩; replace hb := below_thru hb hk; replace KB := KB.below hk; clear hk y0 y1 y2 y3 y4 y5 y6 y7 y8 y9 y10; obtain ⟨y0, y1, y2, y3, y4, y5, y6, y7, y8, y9, y10⟩ := KB.elevenC))
  go_ret
  exact ⟨rfl, hb⟩
theorem rrE_e (nm le : ByteArray) (fr last mo ki wd da ti re save : Int) (B1 : Hid (∀ W, Calls Tryz.prog 144 #[.int .i64 fr, .int .i64 1, .int .i64 9999] W (fun e w' => e = .returned (.bool true) ∧ W = w'))) (B2 : Hid (∀ W, Calls Tryz.prog 144 #[.int .i64 last, .int .i64 1, .int .i64 9999] W (fun e w' => e = .returned (.bool false) ∧ W = w'))) (d : (last == 1000000) = true) (SR : Hid (∀ W, Calls Tryz.prog 51 #[.agg #[.int .i64 mo, .int .i64 ki, .int .i64 wd, .int .i64 da, .int .i64 ti, .int .i64 re]] W (RetV W (.bool true)))) (b : Bool) (B3 : Hid (∀ W, Calls Tryz.prog 144 #[.int .i64 save, .int .i64 (-43200), .int .i64 43200] W (fun e w' => e = .returned (.bool b) ∧ W = w'))) (w : World) : Calls Tryz.prog 130 #[.agg #[.string nm, .int .i64 fr, .int .i64 last, .int .i64 mo, .int .i64 ki, .int .i64 wd, .int .i64 da, .int .i64 ti, .int .i64 re, .int .i64 save, .string le]] w (RetV w (.bool b)) := by
  go_enter Tryz.func130, Tryz.ntmps130
  go_upto_region 1 with (fail)
  have KB := blk_lit w 36 [.string nm, .int .i64 fr, .int .i64 last, .int .i64 mo, .int .i64 ki, .int .i64 wd, .int .i64 da, .int .i64 ti, .int .i64 re, .int .i64 save, .string le]
  have hb := (below_box w (.cells #[.string nm, .int .i64 fr, .int .i64 last, .int .i64 mo, .int .i64 ki, .int .i64 wd, .int .i64 da, .int .i64 ti, .int .i64 re, .int .i64 save, .string le] 36))
  generalize w.alloc (.cells #[.string nm, .int .i64 fr, .int .i64 last, .int .i64 mo, .int .i64 ki, .int .i64 wd, .int .i64 da, .int .i64 ti, .int .i64 re, .int .i64 save, .string le] 36) = W at *
  obtain ⟨y0, y1, y2, y3, y4, y5, y6, y7, y8, y9, y10⟩ := KB.elevenC
  go_wp2_with (first
    | (go_at_call 144; with_reducible refine (B1.out _).mono ?_; clear B1; rintro e W9 ⟨rfl, rfl⟩)
    | (go_at_call 144; with_reducible refine (B2.out _).mono ?_; clear B2; rintro e W9 ⟨rfl, rfl⟩)
    | (go_at_call 144; with_reducible refine (B3.out _).mono ?_; clear B3; rintro e W9 ⟨rfl, rfl⟩)
    | (go_at_call 51; refine (SR.out _).mono ?_; clear SR; rintro e W9 ⟨rfl, hk⟩; replace hb := below_thru hb hk; replace KB := KB.below hk; clear hk y0 y1 y2 y3 y4 y5 y6 y7 y8 y9 y10; obtain ⟨y0, y1, y2, y3, y4, y5, y6, y7, y8, y9, y10⟩ := KB.elevenC))
  go_ret
  exact ⟨rfl, hb⟩
theorem rrE_f (nm le : ByteArray) (fr last mo ki wd da ti re save : Int) (B1 : Hid (∀ W, Calls Tryz.prog 144 #[.int .i64 fr, .int .i64 1, .int .i64 9999] W (fun e w' => e = .returned (.bool true) ∧ W = w'))) (B2 : Hid (∀ W, Calls Tryz.prog 144 #[.int .i64 last, .int .i64 1, .int .i64 9999] W (fun e w' => e = .returned (.bool true) ∧ W = w'))) (SR : Hid (∀ W, Calls Tryz.prog 51 #[.agg #[.int .i64 mo, .int .i64 ki, .int .i64 wd, .int .i64 da, .int .i64 ti, .int .i64 re]] W (RetV W (.bool true)))) (b : Bool) (B3 : Hid (∀ W, Calls Tryz.prog 144 #[.int .i64 save, .int .i64 (-43200), .int .i64 43200] W (fun e w' => e = .returned (.bool b) ∧ W = w'))) (w : World) : Calls Tryz.prog 130 #[.agg #[.string nm, .int .i64 fr, .int .i64 last, .int .i64 mo, .int .i64 ki, .int .i64 wd, .int .i64 da, .int .i64 ti, .int .i64 re, .int .i64 save, .string le]] w (RetV w (.bool b)) := by
  go_enter Tryz.func130, Tryz.ntmps130
  go_upto_region 1 with (fail)
  have KB := blk_lit w 36 [.string nm, .int .i64 fr, .int .i64 last, .int .i64 mo, .int .i64 ki, .int .i64 wd, .int .i64 da, .int .i64 ti, .int .i64 re, .int .i64 save, .string le]
  have hb := (below_box w (.cells #[.string nm, .int .i64 fr, .int .i64 last, .int .i64 mo, .int .i64 ki, .int .i64 wd, .int .i64 da, .int .i64 ti, .int .i64 re, .int .i64 save, .string le] 36))
  generalize w.alloc (.cells #[.string nm, .int .i64 fr, .int .i64 last, .int .i64 mo, .int .i64 ki, .int .i64 wd, .int .i64 da, .int .i64 ti, .int .i64 re, .int .i64 save, .string le] 36) = W at *
  obtain ⟨y0, y1, y2, y3, y4, y5, y6, y7, y8, y9, y10⟩ := KB.elevenC
  go_wp2_with (first
    | (go_at_call 144; with_reducible refine (B1.out _).mono ?_; clear B1; rintro e W9 ⟨rfl, rfl⟩)
    | (go_at_call 144; with_reducible refine (B2.out _).mono ?_; clear B2; rintro e W9 ⟨rfl, rfl⟩)
    | (go_at_call 144; with_reducible refine (B3.out _).mono ?_; clear B3; rintro e W9 ⟨rfl, rfl⟩)
    | (go_at_call 51; refine (SR.out _).mono ?_; clear SR; rintro e W9 ⟨rfl, hk⟩; replace hb := below_thru hb hk; replace KB := KB.below hk; clear hk y0 y1 y2 y3 y4 y5 y6 y7 y8 y9 y10; obtain ⟨y0, y1, y2, y3, y4, y5, y6, y7, y8, y9, y10⟩ := KB.elevenC))
  go_ret
  exact ⟨rfl, hb⟩
theorem rightRuleE (x : Rl) (w : World) : Calls Tryz.prog 130 #[x.val] w (RetV w (.bool (rlEB x))) := by
  obtain ⟨nm, fr, last, ⟨mo, ki, wd, da, ti, re⟩, save, le⟩ := x
  have B1 := fun W => withinE fr 1 9999 W
  have B2 := fun W => withinE last 1 9999 W
  have B3 := fun W => withinE save (-43200) 43200 W
  have SR := fun W => rightMP ⟨mo, ki, wd, da, ti, re⟩ W
  show Calls Tryz.prog 130 #[.agg #[.string nm, .int .i64 fr, .int .i64 last, .int .i64 mo, .int .i64 ki, .int .i64 wd, .int .i64 da, .int .i64 ti, .int .i64 re, .int .i64 save, .string le]] w (RetV w (.bool (wiB fr 1 9999 && ((wiB last 1 9999 || last == 1000000) && (decide (Sp.ok ⟨mo, ki, wd, da, ti, re⟩) && wiB save (-43200) 43200)))))
  cases h1 : wiB fr 1 9999 with
  | false => rw [h1] at B1; exact rrE_a _ _ _ _ _ _ _ _ _ _ _ (Lib.hid B1) w
  | true =>
    rw [h1] at B1
    cases h2 : wiB last 1 9999 with
    | false =>
      rw [h2] at B2
      cases h3 : (last == 1000000) with
      | false => exact rrE_b _ _ _ _ _ _ _ _ _ _ _ (Lib.hid B1) (Lib.hid B2) h3 w
      | true =>
        cases h4 : decide (Sp.ok ⟨mo, ki, wd, da, ti, re⟩) with
        | false => rw [h4] at SR; exact rrE_c _ _ _ _ _ _ _ _ _ _ _ (Lib.hid B1) (Lib.hid B2) h3 (Lib.hid SR) w
        | true => rw [h4] at SR; exact rrE_e _ _ _ _ _ _ _ _ _ _ _ (Lib.hid B1) (Lib.hid B2) h3 (Lib.hid SR) _ (Lib.hid B3) w
    | true =>
      rw [h2] at B2
      cases h4 : decide (Sp.ok ⟨mo, ki, wd, da, ti, re⟩) with
      | false => rw [h4] at SR; exact rrE_d _ _ _ _ _ _ _ _ _ _ _ (Lib.hid B1) (Lib.hid B2) (Lib.hid SR) w
      | true => rw [h4] at SR; exact rrE_f _ _ _ _ _ _ _ _ _ _ _ (Lib.hid B1) (Lib.hid B2) (Lib.hid SR) _ (Lib.hid B3) w
theorem rightPE (L : List Rl) (A : Option Addr) (n c : Nat) (w : World) (hm : RulV w A n c L) : Calls Tryz.prog 113 #[.slice A n c] w (RetV w (.bool (fitB L))) := by
  have mx : n ≤ 9223372036854775807 := Nat.le_trans hm.cap hm.max
  have LN := Lib.hid (show L.length = n by have := hm.len; simpa using this)
  have HA := Lib.hid hm
  clear hm
  go_enter Tryz.func113, Tryz.ntmps113
  go_wp2_with fail
  go_loopw [7] (fun v7 wr => ∃ k : Nat, k ≤ n ∧ v7 = .int .i64 k ∧ (∀ j x, j < k → L[j]? = some x → x.fit) ∧ Below w.heap.size w wr) (fun v _ => n - (intOf v).toNat)
  case atStart => exact ⟨0, by omega, rfl, fun j x h => absurd h (by omega), Below.refl _ _⟩
  case round =>
    obtain ⟨k, hk, rfl, hR, hbel⟩ := hrel
    have HR := Lib.hid hR
    clear hR
    by_cases h4 : k < n
    · obtain ⟨x, hxx⟩ : ∃ x, L[k]? = some x := ⟨_, List.getElem?_eq_getElem (by rw [LN.out]; exact h4)⟩
      obtain ⟨g, o, ea0, hg, ca⟩ := (HA.out.below hbel).cells (by omega)
      subst ea0
      have ra := row_at ca (show (L.map Rl.vals)[k]? = some (Rl.vals x) by rw [List.getElem?_map, hxx]; rfl)
      have STEP := Lib.hid (show x.fit → ∀ j y, j < k + 1 → L[j]? = some y → y.fit from fun h j y hj hy => by
        by_cases e : j = k
        · subst e; rw [hxx] at hy; cases hy; exact h
        · exact HR.out j y (by omega) hy)
      have BAD := Lib.hid (fun h : ¬ x.fit => fit_no hxx h)
      have RB := rlEB_is x
      have RR := fun W => rightRuleE x W
      generalize rlEB x = b at *
      obtain ⟨X, hX⟩ : ∃ X, X = x := ⟨_, rfl⟩
      rw [← hX] at STEP BAD RB
      clear hX
      obtain ⟨nm, fr, last, ⟨mo, ki, wd, da, ti, re⟩, save, le⟩ := x
      replace RR := Lib.hid (fun W => (show Calls Tryz.prog 130 #[.agg #[.string nm, .int .i64 fr, .int .i64 last, .int .i64 mo, .int .i64 ki, .int .i64 wd, .int .i64 da, .int .i64 ti, .int .i64 re, .int .i64 save, .string le]] W (RetV W (.bool b)) from RR W))
      have x0 : wr.cell? ⟨g, o + k * 11, none⟩ = some (.string nm) := ra 0 _ rfl
      have x1 : wr.cell? ⟨g, o + k * 11 + 1, none⟩ = some (.int .i64 fr) := ra 1 _ rfl
      have x2 : wr.cell? ⟨g, o + k * 11 + 2, none⟩ = some (.int .i64 last) := ra 2 _ rfl
      have x3 : wr.cell? ⟨g, o + k * 11 + 3, none⟩ = some (.int .i64 mo) := ra 3 _ rfl
      have x4 : wr.cell? ⟨g, o + k * 11 + 4, none⟩ = some (.int .i64 ki) := ra 4 _ rfl
      have x5 : wr.cell? ⟨g, o + k * 11 + 5, none⟩ = some (.int .i64 wd) := ra 5 _ rfl
      have x6 : wr.cell? ⟨g, o + k * 11 + 6, none⟩ = some (.int .i64 da) := ra 6 _ rfl
      have x7 : wr.cell? ⟨g, o + k * 11 + 7, none⟩ = some (.int .i64 ti) := ra 7 _ rfl
      have x8 : wr.cell? ⟨g, o + k * 11 + 8, none⟩ = some (.int .i64 re) := ra 8 _ rfl
      have x9 : wr.cell? ⟨g, o + k * 11 + 9, none⟩ = some (.int .i64 save) := ra 9 _ rfl
      have x10 : wr.cell? ⟨g, o + k * 11 + 10, none⟩ = some (.string le) := ra 10 _ rfl
      clear ca ra hxx
      go_upto_region 4 with (fail)
      have KB := blk_lit wr 36 [.string nm, .int .i64 fr, .int .i64 last, .int .i64 mo, .int .i64 ki, .int .i64 wd, .int .i64 da, .int .i64 ti, .int .i64 re, .int .i64 save, .string le]
      have hb := below_thru hbel (below_box wr (.cells #[.string nm, .int .i64 fr, .int .i64 last, .int .i64 mo, .int .i64 ki, .int .i64 wd, .int .i64 da, .int .i64 ti, .int .i64 re, .int .i64 save, .string le] 36))
      generalize wr.alloc (.cells #[.string nm, .int .i64 fr, .int .i64 last, .int .i64 mo, .int .i64 ki, .int .i64 wd, .int .i64 da, .int .i64 ti, .int .i64 re, .int .i64 save, .string le] 36) = W at *
      generalize wr.heap.size = bb at *
      obtain ⟨y0, y1, y2, y3, y4, y5, y6, y7, y8, y9, y10⟩ := KB.elevenC
      clear x0 x1 x2 x3 x4 x5 x6 x7 x8 x9 x10 hg hbel
      cases b with
      | false =>
        have EN := Lib.hid (show fitB L = false from BAD.out (fun c => absurd (RB.2 c) (by decide)))
        clear BAD STEP RB
        go_wp2_with (go_at_call 130; refine (RR.out _).mono ?_; clear RR; rintro e W9 ⟨rfl, hk⟩; replace hb := below_thru hb hk; clear hk)
        go_ret
        exact ⟨by rw [EN.out]; rfl, hb⟩
      | true =>
        have ST := Lib.hid (STEP.out (RB.1 rfl))
        clear BAD STEP RB
        go_wp2_with (go_at_call 130; refine (RR.out _).mono ?_; clear RR; rintro e W9 ⟨rfl, hk⟩; replace hb := below_thru hb hk; clear hk)
        go_roundw
        case rel => exact ⟨k + 1, by omega, int_eqS (by omega), ST.out, hb⟩
        case measure => simp only [intOf]; omega
    · obtain rfl : k = n := by omega
      have Y := Lib.hid (show fitB L = true from fit_yes.2 fun x hx => by
        obtain ⟨j, hj⟩ := List.getElem?_of_mem hx
        exact HR.out j x (by rw [← LN.out]; exact (List.getElem?_eq_some_iff.1 hj).1) hj)
      go_wp2
      go_ret
      exact ⟨by rw [Y.out]; rfl, hbel⟩
def cntY (L : List Rl) (y : Int) (k : Nat) : Nat := countY (L.take k) y
theorem cntY_zero (L : List Rl) (y : Int) : cntY L y 0 = 0 := by unfold cntY countY; simp
theorem cntY_all (L : List Rl) (y : Int) : cntY L y L.length = countY L y := by unfold cntY; rw [List.take_length]
theorem cntY_le (L : List Rl) (y : Int) (k : Nat) : cntY L y k ≤ k := by
  unfold cntY countY
  exact Nat.le_trans List.countP_le_length (by rw [List.length_take]; omega)
theorem cntY_next {L : List Rl} {z : Rl} {k : Nat} (hz : L[k]? = some z) (y : Int) : cntY L y (k + 1) = cntY L y k + (if wiB y z.fr z.last then 1 else 0) := by
  unfold cntY countY
  rw [List.take_add_one, hz, List.countP_append]
  by_cases h : z.fr ≤ y ∧ y ≤ z.last
  · have e : wiB y z.fr z.last = true := wiB_is.2 h
    rw [e]
    simp [h]
  · have e : wiB y z.fr z.last = false := by
      rw [← Bool.not_eq_true, wiB_is]; exact h
    rw [e]
    simp [h]
theorem crowd_asks {L : List Rl} : crowdP L ↔ ∃ x ∈ L, 10 < countY L x.fr := by
  constructor
  · rintro ⟨y, h⟩
    obtain ⟨x, hx, hxy, top⟩ := top_rule y L (by omega)
    refine ⟨x, hx, Nat.lt_of_lt_of_le h ?_⟩
    unfold countY
    refine List.countP_mono_left fun z hz hzy => ?_
    have hzy' : z.fr ≤ y ∧ y ≤ z.last := by simpa using hzy
    have := top z hz hzy'
    simp only [decide_eq_true_eq]
    omega
  · rintro ⟨x, _, h⟩
    exact ⟨x.fr, h⟩
theorem countE (L : List Rl) (y : Int) (A : Option Addr) (n c : Nat) (w : World) (hm : RulV w A n c L) : Calls Tryz.prog 114 #[.slice A n c, .int .i64 y] w (RetV w (.int .i64 (countY L y))) := by
  have mx : n ≤ maxLen := Nat.le_trans hm.cap hm.max
  have LN := Lib.hid (show L.length = n by have := hm.len; simpa using this)
  have HA := Lib.hid hm
  clear hm
  unfold maxLen at mx
  go_enter Tryz.func114, Tryz.ntmps114
  go_wp2_with fail
  go_loopw [5, 10] (fun v5 v10 wr => ∃ k m : Nat, k ≤ n ∧ m = cntY L y k ∧ v5 = .int .i64 m ∧ v10 = .int .i64 k ∧ Below w.heap.size w wr) (fun _ v _ => n - (intOf v).toNat)
  case atStart => exact ⟨0, 0, by omega, (cntY_zero L y).symm, rfl, rfl, Below.refl _ _⟩
  case round =>
    obtain ⟨k, m, hk, hM, rfl, rfl, hbel⟩ := hrel
    have mle : m ≤ k := by rw [hM]; exact cntY_le L y k
    have HM := Lib.hid hM
    clear hM
    by_cases h4 : k < n
    · obtain ⟨x, hxx⟩ : ∃ x, L[k]? = some x := ⟨_, List.getElem?_eq_getElem (by rw [LN.out]; exact h4)⟩
      obtain ⟨g, o, ea0, hg, ca⟩ := (HA.out.below hbel).cells (by omega)
      subst ea0
      have ra := row_at ca (show (L.map Rl.vals)[k]? = some (Rl.vals x) by rw [List.getElem?_map, hxx]; rfl)
      have NX := cntY_next hxx y
      rw [← HM.out] at NX
      have IF := fun W => inForceE x y W
      generalize wiB y x.fr x.last = b at *
      have NX := Lib.hid NX
      clear HM
      obtain ⟨nm, fr, last, ⟨mo, ki, wd, da, ti, re⟩, save, le⟩ := x
      replace IF := Lib.hid (fun W => (show Calls Tryz.prog 131 #[.agg #[.string nm, .int .i64 fr, .int .i64 last, .int .i64 mo, .int .i64 ki, .int .i64 wd, .int .i64 da, .int .i64 ti, .int .i64 re, .int .i64 save, .string le], .int .i64 y] W (RetV W (.bool b)) from IF W))
      have x0 : wr.cell? ⟨g, o + k * 11, none⟩ = some (.string nm) := ra 0 _ rfl
      have x1 : wr.cell? ⟨g, o + k * 11 + 1, none⟩ = some (.int .i64 fr) := ra 1 _ rfl
      have x2 : wr.cell? ⟨g, o + k * 11 + 2, none⟩ = some (.int .i64 last) := ra 2 _ rfl
      have x3 : wr.cell? ⟨g, o + k * 11 + 3, none⟩ = some (.int .i64 mo) := ra 3 _ rfl
      have x4 : wr.cell? ⟨g, o + k * 11 + 4, none⟩ = some (.int .i64 ki) := ra 4 _ rfl
      have x5 : wr.cell? ⟨g, o + k * 11 + 5, none⟩ = some (.int .i64 wd) := ra 5 _ rfl
      have x6 : wr.cell? ⟨g, o + k * 11 + 6, none⟩ = some (.int .i64 da) := ra 6 _ rfl
      have x7 : wr.cell? ⟨g, o + k * 11 + 7, none⟩ = some (.int .i64 ti) := ra 7 _ rfl
      have x8 : wr.cell? ⟨g, o + k * 11 + 8, none⟩ = some (.int .i64 re) := ra 8 _ rfl
      have x9 : wr.cell? ⟨g, o + k * 11 + 9, none⟩ = some (.int .i64 save) := ra 9 _ rfl
      have x10 : wr.cell? ⟨g, o + k * 11 + 10, none⟩ = some (.string le) := ra 10 _ rfl
      clear ca ra hxx
      go_upto_region 5 with (fail)
      have KB := blk_lit wr 36 [.string nm, .int .i64 fr, .int .i64 last, .int .i64 mo, .int .i64 ki, .int .i64 wd, .int .i64 da, .int .i64 ti, .int .i64 re, .int .i64 save, .string le]
      have hb := below_thru hbel (below_box wr (.cells #[.string nm, .int .i64 fr, .int .i64 last, .int .i64 mo, .int .i64 ki, .int .i64 wd, .int .i64 da, .int .i64 ti, .int .i64 re, .int .i64 save, .string le] 36))
      generalize wr.alloc (.cells #[.string nm, .int .i64 fr, .int .i64 last, .int .i64 mo, .int .i64 ki, .int .i64 wd, .int .i64 da, .int .i64 ti, .int .i64 re, .int .i64 save, .string le] 36) = W at *
      generalize wr.heap.size = bb at *
      obtain ⟨y0, y1, y2, y3, y4, y5, y6, y7, y8, y9, y10⟩ := KB.elevenC
      clear x0 x1 x2 x3 x4 x5 x6 x7 x8 x9 x10 hg hbel
      cases b with
      | false =>
        go_wp2_with (go_at_call 131; refine (IF.out _).mono ?_; clear IF; rintro e W9 ⟨rfl, hk⟩; replace hb := below_thru hb hk; clear hk)
        go_roundw
        case rel => exact ⟨k + 1, m, by omega, NX.out.symm, rfl, int_eqS (by omega), hb⟩
        case measure => simp only [intOf]; omega
      | true =>
        go_wp2_with (go_at_call 131; refine (IF.out _).mono ?_; clear IF; rintro e W9 ⟨rfl, hk⟩; replace hb := below_thru hb hk; clear hk)
        go_roundw
        case rel => exact ⟨k + 1, m + 1, by omega, NX.out.symm, int_eqS (by omega), int_eqS (by omega), hb⟩
        case measure => simp only [intOf]; omega
    · obtain rfl : k = n := by omega
      have Y := Lib.hid (show countY L y = m from by rw [← cntY_all, LN.out]; exact HM.out.symm)
      go_wp2
      go_ret
      exact ⟨by rw [Y.out]; rfl, hbel⟩
theorem crowdB_no {L : List Rl} (h : fitB L = false) : crowdB L = false := by unfold crowdB; rw [h]; rfl
theorem crowdB_is {L : List Rl} (h : fitB L = true) {b : Bool} (k : b = true ↔ crowdP L) : crowdB L = b := by
  unfold crowdB
  rw [h, Bool.true_and, Bool.eq_iff_iff, @decide_eq_true_iff _ (Classical.propDecidable _)]
  exact k.symm
theorem crowdedE (L : List Rl) (A : Option Addr) (n c : Nat) (w : World) (hm : RulV w A n c L) : Calls Tryz.prog 88 #[.slice A n c] w (RetV w (.bool (crowdB L))) := by
  have mx : n ≤ 9223372036854775807 := Nat.le_trans hm.cap hm.max
  have LN := Lib.hid (show L.length = n by have := hm.len; simpa using this)
  have HA := Lib.hid hm
  have RP := Lib.hid (fun W (h : RulV W A n c L) => rightPE L A n c W h)
  have CO := Lib.hid (fun y W (h : RulV W A n c L) => countE L y A n c W h)
  clear hm
  cases hf : fitB L with
  | false =>
    have EN := Lib.hid (crowdB_no hf)
    rw [hf] at RP
    clear hf CO
    go_enter Tryz.func88, Tryz.ntmps88
    go_wp2_with (go_at_call 113; refine (RP.out _ HA.out).mono ?_; clear RP; rintro e W9 ⟨rfl, hb⟩)
    go_ret
    exact ⟨by rw [EN.out]; rfl, hb⟩
  | true =>
    have FB := Lib.hid hf
    rw [hf] at RP
    clear hf
    go_enter Tryz.func88, Tryz.ntmps88
    go_wp2_with (go_at_call 113; refine (RP.out _ HA.out).mono ?_; clear RP; rintro e W9 ⟨rfl, hb0⟩)
    go_loopw [10] (fun v10 wr => ∃ k : Nat, k ≤ n ∧ v10 = .int .i64 k ∧ (∀ j x, j < k → L[j]? = some x → ¬ 10 < countY L x.fr) ∧ Below w.heap.size w wr) (fun v _ => n - (intOf v).toNat)
    case atStart => exact ⟨0, by omega, rfl, fun j x h => absurd h (by omega), hb0⟩
    case round =>
      clear hb0
      obtain ⟨k, hk, rfl, hR, hbel⟩ := hrel
      have HR := Lib.hid hR
      clear hR
      by_cases h4 : k < n
      · obtain ⟨x, hxx⟩ : ∃ x, L[k]? = some x := ⟨_, List.getElem?_eq_getElem (by rw [LN.out]; exact h4)⟩
        obtain ⟨g, o, ea0, hg, ca⟩ := (HA.out.below hbel).cells (by omega)
        subst ea0
        have ra := row_at ca (show (L.map Rl.vals)[k]? = some (Rl.vals x) by rw [List.getElem?_map, hxx]; rfl)
        have STEP := Lib.hid (show ¬ 10 < countY L x.fr → ∀ j y, j < k + 1 → L[j]? = some y → ¬ 10 < countY L y.fr from fun h j y hj hy => by
          by_cases e : j = k
          · subst e; rw [hxx] at hy; cases hy; exact h
          · exact HR.out j y (by omega) hy)
        have YES := Lib.hid (fun h : 10 < countY L x.fr => crowdB_is FB.out (b := true) (by simp only [true_iff]; exact crowd_asks.2 ⟨x, List.mem_of_getElem? hxx, h⟩))
        have CC := fun W h => CO.out x.fr W h
        have ml : countY L x.fr ≤ n := by rw [← LN.out]; exact List.countP_le_length
        obtain ⟨nm, fr, last, ⟨mo, ki, wd, da, ti, re⟩, save, le⟩ := x
        simp only at STEP YES CC ml
        generalize countY L fr = m at STEP YES CC ml
        have CC := Lib.hid CC
        have x0 : wr.cell? ⟨g, o + k * 11, none⟩ = some (.string nm) := ra 0 _ rfl
        have x1 : wr.cell? ⟨g, o + k * 11 + 1, none⟩ = some (.int .i64 fr) := ra 1 _ rfl
        have x2 : wr.cell? ⟨g, o + k * 11 + 2, none⟩ = some (.int .i64 last) := ra 2 _ rfl
        have x3 : wr.cell? ⟨g, o + k * 11 + 3, none⟩ = some (.int .i64 mo) := ra 3 _ rfl
        have x4 : wr.cell? ⟨g, o + k * 11 + 4, none⟩ = some (.int .i64 ki) := ra 4 _ rfl
        have x5 : wr.cell? ⟨g, o + k * 11 + 5, none⟩ = some (.int .i64 wd) := ra 5 _ rfl
        have x6 : wr.cell? ⟨g, o + k * 11 + 6, none⟩ = some (.int .i64 da) := ra 6 _ rfl
        have x7 : wr.cell? ⟨g, o + k * 11 + 7, none⟩ = some (.int .i64 ti) := ra 7 _ rfl
        have x8 : wr.cell? ⟨g, o + k * 11 + 8, none⟩ = some (.int .i64 re) := ra 8 _ rfl
        have x9 : wr.cell? ⟨g, o + k * 11 + 9, none⟩ = some (.int .i64 save) := ra 9 _ rfl
        have x10 : wr.cell? ⟨g, o + k * 11 + 10, none⟩ = some (.string le) := ra 10 _ rfl
        clear ca ra hxx
        go_upto_region 6 with (fail)
        have KB := blk_lit wr 36 [.string nm, .int .i64 fr, .int .i64 last, .int .i64 mo, .int .i64 ki, .int .i64 wd, .int .i64 da, .int .i64 ti, .int .i64 re, .int .i64 save, .string le]
        have hb := below_thru hbel (below_box wr (.cells #[.string nm, .int .i64 fr, .int .i64 last, .int .i64 mo, .int .i64 ki, .int .i64 wd, .int .i64 da, .int .i64 ti, .int .i64 re, .int .i64 save, .string le] 36))
        generalize wr.alloc (.cells #[.string nm, .int .i64 fr, .int .i64 last, .int .i64 mo, .int .i64 ki, .int .i64 wd, .int .i64 da, .int .i64 ti, .int .i64 re, .int .i64 save, .string le] 36) = W at *
        generalize wr.heap.size = bb at *
        obtain ⟨y0, y1, y2, y3, y4, y5, y6, y7, y8, y9, y10⟩ := KB.elevenC
        clear x0 x1 x2 x3 x4 x5 x6 x7 x8 x9 x10 hg hbel
        have HV := HA.out.below hb
        by_cases h5 : 10 < m
        · have d5 : decide ((10 : Int) < (m : Int)) = true := decide_eq_true (by omega)
          have EN := Lib.hid (YES.out h5)
          clear YES STEP
          go_wp2_with (go_at_call 114; refine (CC.out _ HV).mono ?_; clear CC; rintro e W9 ⟨rfl, hk⟩; replace hb := below_thru hb hk; clear hk)
          go_ret
          exact ⟨by rw [EN.out]; rfl, hb⟩
        · have d5 : decide ((10 : Int) < (m : Int)) = false := decide_eq_false (by omega)
          have ST := Lib.hid (STEP.out h5)
          clear YES STEP
          go_wp2_with (go_at_call 114; refine (CC.out _ HV).mono ?_; clear CC; rintro e W9 ⟨rfl, hk⟩; replace hb := below_thru hb hk; clear hk)
          go_roundw
          case rel => exact ⟨k + 1, by omega, int_eqS (by omega), ST.out, hb⟩
          case measure => simp only [intOf]; omega
      · obtain rfl : k = n := by omega
        have Y := Lib.hid (show crowdB L = false from crowdB_is FB.out (b := false) (by
          simp only [Bool.false_eq_true, false_iff]
          rintro h
          obtain ⟨x, hx, h⟩ := crowd_asks.1 h
          obtain ⟨j, hj⟩ := List.getElem?_of_mem hx
          exact HR.out j x (by rw [← LN.out]; exact (List.getElem?_eq_some_iff.1 hj).1) hj h))
        go_wp2
        go_ret
        exact ⟨by rw [Y.out]; rfl, hbel⟩
theorem tn_a (nm le : ByteArray) (fr last mo ki wd da ti re save y : Int) (IF : Hid (∀ W, Calls Tryz.prog 131 #[.agg #[.string nm, .int .i64 fr, .int .i64 last, .int .i64 mo, .int .i64 ki, .int .i64 wd, .int .i64 da, .int .i64 ti, .int .i64 re, .int .i64 save, .string le], .int .i64 y] W (RetV W (.bool false)))) (w : World) (_LE : Lens w) :
    Calls Tryz.prog 174 #[.agg #[.string nm, .int .i64 fr, .int .i64 last, .int .i64 mo, .int .i64 ki, .int .i64 wd, .int .i64 da, .int .i64 ti, .int .i64 re, .int .i64 save, .string le], .int .i64 y] w fun e w' => e = .returned (.tuple #[.agg #[.int .i64 0, .int .i64 0, .int .i64 0, .string ⟨#[]⟩], .bool false]) ∧ Below w.heap.size w w' := by
  go_enter Tryz.func174, Tryz.ntmps174
  go_upto_region 1 with (fail)
  have k1 := below_box w (.cells #[.string nm, .int .i64 fr, .int .i64 last, .int .i64 mo, .int .i64 ki, .int .i64 wd, .int .i64 da, .int .i64 ti, .int .i64 re, .int .i64 save, .string le] 36)
  have kb := blk_lit w 36 [.string nm, .int .i64 fr, .int .i64 last, .int .i64 mo, .int .i64 ki, .int .i64 wd, .int .i64 da, .int .i64 ti, .int .i64 re, .int .i64 save, .string le]
  have k2 := below_box (w.alloc (.cells #[.string nm, .int .i64 fr, .int .i64 last, .int .i64 mo, .int .i64 ki, .int .i64 wd, .int .i64 da, .int .i64 ti, .int .i64 re, .int .i64 save, .string le] 36)) (.cells #[.int .i64 0, .int .i64 0, .int .i64 0, .string ⟨#[]⟩] 95)
  have kr := Blk.new4 (w.alloc (.cells #[.string nm, .int .i64 fr, .int .i64 last, .int .i64 mo, .int .i64 ki, .int .i64 wd, .int .i64 da, .int .i64 ti, .int .i64 re, .int .i64 save, .string le] 36)) (.int .i64 0) (.int .i64 0) (.int .i64 0) (.string ⟨#[]⟩) 95
  simp only [World.size_alloc] at kr
  have KB := kb.below k2
  have hb := below_thru k1 k2
  generalize ((w.alloc (.cells #[.string nm, .int .i64 fr, .int .i64 last, .int .i64 mo, .int .i64 ki, .int .i64 wd, .int .i64 da, .int .i64 ti, .int .i64 re, .int .i64 save, .string le] 36)).alloc (.cells #[.int .i64 0, .int .i64 0, .int .i64 0, .string ⟨#[]⟩] 95)) = W at *
  clear k1 k2 kb
  obtain ⟨x0, x1, x2, x3, x4, x5, x6, x7, x8, x9, x10⟩ := KB.elevenC
  obtain ⟨_, r0, r1, r2, r3, f0, f1, f2, f3⟩ := kr.four
  have i5 : w.heap.size + 1 ≠ w.heap.size := by omega
  have i6 := Ne.symm i5
  go_wp2_with (go_at_call 131; refine (IF.out _).mono ?_; clear IF; rintro e W9 ⟨rfl, hk⟩; replace KB := KB.below hk; replace kr := kr.below hk; replace hb := below_thru hb hk; clear hk x0 x1 x2 x3 x4 x5 x6 x7 x8 x9 x10 r0 r1 r2 r3 f0 f1 f2 f3; obtain ⟨x0, x1, x2, x3, x4, x5, x6, x7, x8, x9, x10⟩ := KB.elevenC; obtain ⟨_, r0, r1, r2, r3, f0, f1, f2, f3⟩ := kr.four)
  obtain ⟨_, P0, P1, P2, P3, _⟩ := (kr.self4 (.int .i64 0) (.int .i64 0) (.int .i64 0) (.string ⟨#[]⟩)).four
  have HB := (((hb.setCell (p := ⟨w.heap.size + 1, 0, none⟩) (by show _ ≤ w.heap.size + 1; omega) (.int .i64 0)).setCell (p := ⟨w.heap.size + 1, 1, none⟩) (by show _ ≤ w.heap.size + 1; omega) (.int .i64 0)).setCell (p := ⟨w.heap.size + 1, 2, none⟩) (by show _ ≤ w.heap.size + 1; omega) (.int .i64 0)).setCell (p := ⟨w.heap.size + 1, 3, none⟩) (by show _ ≤ w.heap.size + 1; omega) (.string ⟨#[]⟩)
  exact bodyPost_ret (v := .tuple #[.agg #[.int .i64 0, .int .i64 0, .int .i64 0, .string ⟨#[]⟩], .bool false]) (by simp [results, Tryz.results174, go_sem, P0, P1, P2, P3]) rfl ⟨rfl, HB⟩
theorem tn_b (nm le : ByteArray) (fr last mo ki wd da ti re save y : Int) (IF : Hid (∀ W, Calls Tryz.prog 131 #[.agg #[.string nm, .int .i64 fr, .int .i64 last, .int .i64 mo, .int .i64 ki, .int .i64 wd, .int .i64 da, .int .i64 ti, .int .i64 re, .int .i64 save, .string le], .int .i64 y] W (RetV W (.bool true)))) (a : Int) (LO : Hid (∀ W, Lens W → Calls Tryz.prog 132 #[.agg #[.int .i64 mo, .int .i64 ki, .int .i64 wd, .int .i64 da, .int .i64 ti, .int .i64 re], .int .i64 y] W (RetNumB W a false))) (w : World) (LE : Lens w) :
    Calls Tryz.prog 174 #[.agg #[.string nm, .int .i64 fr, .int .i64 last, .int .i64 mo, .int .i64 ki, .int .i64 wd, .int .i64 da, .int .i64 ti, .int .i64 re, .int .i64 save, .string le], .int .i64 y] w fun e w' => e = .returned (.tuple #[.agg #[.int .i64 0, .int .i64 0, .int .i64 0, .string ⟨#[]⟩], .bool false]) ∧ Below w.heap.size w w' := by
  go_enter Tryz.func174, Tryz.ntmps174
  go_upto_region 1 with (fail)
  have k1 := below_box w (.cells #[.string nm, .int .i64 fr, .int .i64 last, .int .i64 mo, .int .i64 ki, .int .i64 wd, .int .i64 da, .int .i64 ti, .int .i64 re, .int .i64 save, .string le] 36)
  have kb := blk_lit w 36 [.string nm, .int .i64 fr, .int .i64 last, .int .i64 mo, .int .i64 ki, .int .i64 wd, .int .i64 da, .int .i64 ti, .int .i64 re, .int .i64 save, .string le]
  have k2 := below_box (w.alloc (.cells #[.string nm, .int .i64 fr, .int .i64 last, .int .i64 mo, .int .i64 ki, .int .i64 wd, .int .i64 da, .int .i64 ti, .int .i64 re, .int .i64 save, .string le] 36)) (.cells #[.int .i64 0, .int .i64 0, .int .i64 0, .string ⟨#[]⟩] 95)
  have kr := Blk.new4 (w.alloc (.cells #[.string nm, .int .i64 fr, .int .i64 last, .int .i64 mo, .int .i64 ki, .int .i64 wd, .int .i64 da, .int .i64 ti, .int .i64 re, .int .i64 save, .string le] 36)) (.int .i64 0) (.int .i64 0) (.int .i64 0) (.string ⟨#[]⟩) 95
  simp only [World.size_alloc] at kr
  have KB := kb.below k2
  have hb := below_thru k1 k2
  generalize ((w.alloc (.cells #[.string nm, .int .i64 fr, .int .i64 last, .int .i64 mo, .int .i64 ki, .int .i64 wd, .int .i64 da, .int .i64 ti, .int .i64 re, .int .i64 save, .string le] 36)).alloc (.cells #[.int .i64 0, .int .i64 0, .int .i64 0, .string ⟨#[]⟩] 95)) = W at *
  clear k1 k2 kb
  obtain ⟨x0, x1, x2, x3, x4, x5, x6, x7, x8, x9, x10⟩ := KB.elevenC
  obtain ⟨_, r0, r1, r2, r3, f0, f1, f2, f3⟩ := kr.four
  have i5 : w.heap.size + 1 ≠ w.heap.size := by omega
  have i6 := Ne.symm i5
  go_wp2_with (first | (go_at_call 131; refine (IF.out _).mono ?_; clear IF; rintro e W9 ⟨rfl, hk⟩; replace KB := KB.below hk; replace kr := kr.below hk; replace hb := below_thru hb hk; clear hk x0 x1 x2 x3 x4 x5 x6 x7 x8 x9 x10 r0 r1 r2 r3 f0 f1 f2 f3; obtain ⟨x0, x1, x2, x3, x4, x5, x6, x7, x8, x9, x10⟩ := KB.elevenC; obtain ⟨_, r0, r1, r2, r3, f0, f1, f2, f3⟩ := kr.four) | (go_at_call 132; refine (LO.out _ (LE.mono hb)).mono ?_; clear LO; rintro e W9 ⟨rfl, hk⟩; replace KB := KB.below hk; replace kr := kr.below hk; replace hb := below_thru hb hk; clear hk x0 x1 x2 x3 x4 x5 x6 x7 x8 x9 x10 r0 r1 r2 r3 f0 f1 f2 f3; obtain ⟨x0, x1, x2, x3, x4, x5, x6, x7, x8, x9, x10⟩ := KB.elevenC; obtain ⟨_, r0, r1, r2, r3, f0, f1, f2, f3⟩ := kr.four))
  obtain ⟨_, P0, P1, P2, P3, _⟩ := (kr.self4 (.int .i64 0) (.int .i64 0) (.int .i64 0) (.string ⟨#[]⟩)).four
  have HB := (((hb.setCell (p := ⟨w.heap.size + 1, 0, none⟩) (by show _ ≤ w.heap.size + 1; omega) (.int .i64 0)).setCell (p := ⟨w.heap.size + 1, 1, none⟩) (by show _ ≤ w.heap.size + 1; omega) (.int .i64 0)).setCell (p := ⟨w.heap.size + 1, 2, none⟩) (by show _ ≤ w.heap.size + 1; omega) (.int .i64 0)).setCell (p := ⟨w.heap.size + 1, 3, none⟩) (by show _ ≤ w.heap.size + 1; omega) (.string ⟨#[]⟩)
  exact bodyPost_ret (v := .tuple #[.agg #[.int .i64 0, .int .i64 0, .int .i64 0, .string ⟨#[]⟩], .bool false]) (by simp [results, Tryz.results174, go_sem, P0, P1, P2, P3]) rfl ⟨rfl, HB⟩
theorem tn_c (nm le : ByteArray) (fr last mo ki wd da ti re save y : Int) (IF : Hid (∀ W, Calls Tryz.prog 131 #[.agg #[.string nm, .int .i64 fr, .int .i64 last, .int .i64 mo, .int .i64 ki, .int .i64 wd, .int .i64 da, .int .i64 ti, .int .i64 re, .int .i64 save, .string le], .int .i64 y] W (RetV W (.bool true)))) (a : Int) (LO : Hid (∀ W, Lens W → Calls Tryz.prog 132 #[.agg #[.int .i64 mo, .int .i64 ki, .int .i64 wd, .int .i64 da, .int .i64 ti, .int .i64 re], .int .i64 y] W (RetNumB W a true))) (w : World) (LE : Lens w) :
    Calls Tryz.prog 174 #[.agg #[.string nm, .int .i64 fr, .int .i64 last, .int .i64 mo, .int .i64 ki, .int .i64 wd, .int .i64 da, .int .i64 ti, .int .i64 re, .int .i64 save, .string le], .int .i64 y] w fun e w' => e = .returned (.tuple #[.agg #[.int .i64 a, .int .i64 re, .int .i64 save, .string le], .bool true]) ∧ Below w.heap.size w w' := by
  go_enter Tryz.func174, Tryz.ntmps174
  go_upto_region 1 with (fail)
  have k1 := below_box w (.cells #[.string nm, .int .i64 fr, .int .i64 last, .int .i64 mo, .int .i64 ki, .int .i64 wd, .int .i64 da, .int .i64 ti, .int .i64 re, .int .i64 save, .string le] 36)
  have kb := blk_lit w 36 [.string nm, .int .i64 fr, .int .i64 last, .int .i64 mo, .int .i64 ki, .int .i64 wd, .int .i64 da, .int .i64 ti, .int .i64 re, .int .i64 save, .string le]
  have k2 := below_box (w.alloc (.cells #[.string nm, .int .i64 fr, .int .i64 last, .int .i64 mo, .int .i64 ki, .int .i64 wd, .int .i64 da, .int .i64 ti, .int .i64 re, .int .i64 save, .string le] 36)) (.cells #[.int .i64 0, .int .i64 0, .int .i64 0, .string ⟨#[]⟩] 95)
  have kr := Blk.new4 (w.alloc (.cells #[.string nm, .int .i64 fr, .int .i64 last, .int .i64 mo, .int .i64 ki, .int .i64 wd, .int .i64 da, .int .i64 ti, .int .i64 re, .int .i64 save, .string le] 36)) (.int .i64 0) (.int .i64 0) (.int .i64 0) (.string ⟨#[]⟩) 95
  simp only [World.size_alloc] at kr
  have KB := kb.below k2
  have hb := below_thru k1 k2
  generalize ((w.alloc (.cells #[.string nm, .int .i64 fr, .int .i64 last, .int .i64 mo, .int .i64 ki, .int .i64 wd, .int .i64 da, .int .i64 ti, .int .i64 re, .int .i64 save, .string le] 36)).alloc (.cells #[.int .i64 0, .int .i64 0, .int .i64 0, .string ⟨#[]⟩] 95)) = W at *
  clear k1 k2 kb
  obtain ⟨x0, x1, x2, x3, x4, x5, x6, x7, x8, x9, x10⟩ := KB.elevenC
  obtain ⟨_, r0, r1, r2, r3, f0, f1, f2, f3⟩ := kr.four
  have i5 : w.heap.size + 1 ≠ w.heap.size := by omega
  have i6 := Ne.symm i5
  go_wp2_with (first | (go_at_call 131; refine (IF.out _).mono ?_; clear IF; rintro e W9 ⟨rfl, hk⟩; replace KB := KB.below hk; replace kr := kr.below hk; replace hb := below_thru hb hk; clear hk x0 x1 x2 x3 x4 x5 x6 x7 x8 x9 x10 r0 r1 r2 r3 f0 f1 f2 f3; obtain ⟨x0, x1, x2, x3, x4, x5, x6, x7, x8, x9, x10⟩ := KB.elevenC; obtain ⟨_, r0, r1, r2, r3, f0, f1, f2, f3⟩ := kr.four) | (go_at_call 132; refine (LO.out _ (LE.mono hb)).mono ?_; clear LO; rintro e W9 ⟨rfl, hk⟩; replace KB := KB.below hk; replace kr := kr.below hk; replace hb := below_thru hb hk; clear hk x0 x1 x2 x3 x4 x5 x6 x7 x8 x9 x10 r0 r1 r2 r3 f0 f1 f2 f3; obtain ⟨x0, x1, x2, x3, x4, x5, x6, x7, x8, x9, x10⟩ := KB.elevenC; obtain ⟨_, r0, r1, r2, r3, f0, f1, f2, f3⟩ := kr.four))
  obtain ⟨_, P0, P1, P2, P3, _⟩ := (kr.self4 (.int .i64 a) (.int .i64 re) (.int .i64 save) (.string le)).four
  have HB := (((hb.setCell (p := ⟨w.heap.size + 1, 0, none⟩) (by show _ ≤ w.heap.size + 1; omega) (.int .i64 a)).setCell (p := ⟨w.heap.size + 1, 1, none⟩) (by show _ ≤ w.heap.size + 1; omega) (.int .i64 re)).setCell (p := ⟨w.heap.size + 1, 2, none⟩) (by show _ ≤ w.heap.size + 1; omega) (.int .i64 save)).setCell (p := ⟨w.heap.size + 1, 3, none⟩) (by show _ ≤ w.heap.size + 1; omega) (.string le)
  exact bodyPost_ret (v := .tuple #[.agg #[.int .i64 a, .int .i64 re, .int .i64 save, .string le], .bool true]) (by simp [results, Tryz.results174, go_sem, P0, P1, P2, P3]) rfl ⟨rfl, HB⟩
theorem turnE (x : Rl) (y : Int) (w : World) (LE : Lens w) : Calls Tryz.prog 174 #[x.val, .int .i64 y] w (RetTB w (turnO x y)) := by
  have lo := fun W (L : Lens W) => localMP x.sp y W L
  have inn := fun W => inForceE x y W
  obtain ⟨nm, fr, last, ⟨mo, ki, wd, da, ti, re⟩, save, le⟩ := x
  cases h1 : wiB y fr last with
  | false =>
    have inn' := fun W => (h1 ▸ inn W : Calls Tryz.prog 131 #[.agg #[.string nm, .int .i64 fr, .int .i64 last, .int .i64 mo, .int .i64 ki, .int .i64 wd, .int .i64 da, .int .i64 ti, .int .i64 re, .int .i64 save, .string le], .int .i64 y] W (RetV W (.bool false)))
    rw [turnO_none (fun c => by have := wiB_is.2 c.1; simp only at this; rw [h1] at this; cases this)]
    exact tn_a _ _ _ _ _ _ _ _ _ _ _ _ (Lib.hid inn') w LE
  | true =>
    have inn' := fun W => (h1 ▸ inn W : Calls Tryz.prog 131 #[.agg #[.string nm, .int .i64 fr, .int .i64 last, .int .i64 mo, .int .i64 ki, .int .i64 wd, .int .i64 da, .int .i64 ti, .int .i64 re, .int .i64 save, .string le], .int .i64 y] W (RetV W (.bool true)))
    by_cases h3 : onOk ⟨mo, ki, wd, da, ti, re⟩ y
    · rw [turnO_some ⟨wiB_is.1 h1, h3⟩]
      rw [decide_eq_true h3] at lo
      exact tn_c _ _ _ _ _ _ _ _ _ _ _ _ (Lib.hid inn') _ (Lib.hid lo) w LE
    · rw [turnO_none (fun c => h3 c.2)]
      rw [decide_eq_false h3] at lo
      exact tn_b _ _ _ _ _ _ _ _ _ _ _ _ (Lib.hid inn') _ (Lib.hid lo) w LE
structure TwoW (w : World) (a b : List Value) (X : World) : Prop where
  hb : Below w.heap.size w X
  ka : Blk X w.heap.size a
  kb : Blk X (w.heap.size + 1) b
theorem TwoW.below {w : World} {a b : List Value} {X X' : World} (h : TwoW w a b X) (k : Below X.heap.size X X') : TwoW w a b X' := ⟨below_thru h.hb k, h.ka.below k, h.kb.below k⟩
theorem twoE_boxes (w : World) (a b : List Value) (s t : TypeId) : TwoW w a b ((w.alloc (.cells a.toArray s)).alloc (.cells b.toArray t)) := by
  have k1 := below_box w (.cells a.toArray s)
  have k2 := below_box (w.alloc (.cells a.toArray s)) (.cells b.toArray t)
  have b2 := blk_lit (w.alloc (.cells a.toArray s)) t b
  simp only [World.size_alloc] at b2
  exact ⟨below_thru k1 k2, (blk_lit w s a).below k2, b2⟩
theorem turn_small {x : Rl} {y : Int} (h : turnIn x y) : -100000000000 ≤ (turnT x y).at_ ∧ (turnT x y).at_ ≤ 10000000000000 := by
  have t := turn_year h
  have y1 := onOk_year h.2
  have j1 := jan_le y1.1
  have j2 := jan_le (show y + 1 ≤ 275761 by omega)
  have c1 : jan 1 = -719162 := by decide
  have c2 : jan 275761 ≤ 100010000 := by decide
  omega
theorem near_lo {a : Rl} {y : Int} (_h : turnIn a y) : loN a.sp y = (turnT a y).at_ := rfl
theorem meetE {a b : Rl} (fa : a.fit) (fb : b.fit) {on : Int} (hon : on = 0 ∨ on = 1) {q : Bool} (hq : q = true ↔ meetP a b on) (w : World) (LE : Lens w) : Calls Tryz.prog 115 #[a.val, b.val, .int .i64 on] w (RetV w (.bool q)) := by
  have MT := Lib.hid (fun y => @meet_turns a b fa fb on hon y)
  have MN := Lib.hid (fun y => @meet_none a b fa fb on hon y)
  have SW := Lib.hid (fun y => @meet_sway a b on hon y)
  have HQ := Lib.hid hq
  have LE := Lib.hid LE
  have LOA := Lib.hid (fun y W (L : Lens W) => localMP a.sp y W L)
  have LOB := Lib.hid (fun y W (L : Lens W) => localMP b.sp y W L)
  have fa1 := fa.1
  have fb1 := fb.1
  have fa2 := fa.2.1
  have fb2 := fb.2.1
  clear fa fb hq
  obtain ⟨X, hX⟩ : ∃ X, X = a := ⟨_, rfl⟩
  obtain ⟨Y, hY⟩ : ∃ Y, Y = b := ⟨_, rfl⟩
  rw [← hX, ← hY] at MT MN HQ
  rw [← hX, ← hY] at SW
  rw [← hX] at LOA
  rw [← hY] at LOB
  obtain ⟨nm, fr, last, ⟨mo, ki, wd, da, ti, re⟩, save, le⟩ := a
  obtain ⟨nm2, fr2, last2, ⟨mo2, ki2, wd2, da2, ti2, re2⟩, save2, le2⟩ := b
  have ex : X.sp = ⟨mo, ki, wd, da, ti, re⟩ := by rw [hX]
  have ey : Y.sp = ⟨mo2, ki2, wd2, da2, ti2, re2⟩ := by rw [hY]
  replace LOA := Lib.hid (fun y W (L : Lens W) => (show Calls Tryz.prog 132 #[.agg #[.int .i64 mo, .int .i64 ki, .int .i64 wd, .int .i64 da, .int .i64 ti, .int .i64 re], .int .i64 y] W (RetNumB W (loN X.sp y) (decide (onOk X.sp y))) from by have := LOA.out y W L; rw [show X.sp.val = .agg #[.int .i64 mo, .int .i64 ki, .int .i64 wd, .int .i64 da, .int .i64 ti, .int .i64 re] from by rw [ex]; rfl] at this; exact this))
  replace LOB := Lib.hid (fun y W (L : Lens W) => (show Calls Tryz.prog 132 #[.agg #[.int .i64 mo2, .int .i64 ki2, .int .i64 wd2, .int .i64 da2, .int .i64 ti2, .int .i64 re2], .int .i64 y] W (RetNumB W (loN Y.sp y) (decide (onOk Y.sp y))) from by have := LOB.out y W L; rw [show Y.sp.val = .agg #[.int .i64 mo2, .int .i64 ki2, .int .i64 wd2, .int .i64 da2, .int .i64 ti2, .int .i64 re2] from by rw [ey]; rfl] at this; exact this))
  replace MT := Lib.hid (show ∀ y, max fr (fr2 - on) ≤ y → y ≤ min (min last (last2 - on)) (max fr (fr2 - on) + 399) → turnIn X y ∧ turnIn Y (y + on) from by rw [show fr = X.fr from by rw [hX], show fr2 = Y.fr from by rw [hY], show last = X.last from by rw [hX], show last2 = Y.last from by rw [hY]]; exact MT.out)
  replace MN := Lib.hid (show ∀ y, min (min last (last2 - on)) (max fr (fr2 - on) + 399) < y → noMeet X Y on (max fr (fr2 - on)) y → ¬ meetP X Y on from by rw [show fr = X.fr from by rw [hX], show fr2 = Y.fr from by rw [hY], show last = X.last from by rw [hX], show last2 = Y.last from by rw [hY]]; exact MN.out)
  clear hX hY ex ey
  simp only at fa1 fb1 fa2 fb2
  have o1 : 0 ≤ on := by omega
  have o2 : on ≤ 1 := by omega
  clear hon
  show Calls Tryz.prog 115 #[.agg #[.string nm, .int .i64 fr, .int .i64 last, .int .i64 mo, .int .i64 ki, .int .i64 wd, .int .i64 da, .int .i64 ti, .int .i64 re, .int .i64 save, .string le], .agg #[.string nm2, .int .i64 fr2, .int .i64 last2, .int .i64 mo2, .int .i64 ki2, .int .i64 wd2, .int .i64 da2, .int .i64 ti2, .int .i64 re2, .int .i64 save2, .string le2], .int .i64 on] w (RetV w (.bool q))
  go_enter Tryz.func115, Tryz.ntmps115
  go_upto_region 1 with (fail)
  have HW : TwoW w [.string nm, .int .i64 fr, .int .i64 last, .int .i64 mo, .int .i64 ki, .int .i64 wd, .int .i64 da, .int .i64 ti, .int .i64 re, .int .i64 save, .string le] [.string nm2, .int .i64 fr2, .int .i64 last2, .int .i64 mo2, .int .i64 ki2, .int .i64 wd2, .int .i64 da2, .int .i64 ti2, .int .i64 re2, .int .i64 save2, .string le2] ((w.alloc (.cells #[.string nm, .int .i64 fr, .int .i64 last, .int .i64 mo, .int .i64 ki, .int .i64 wd, .int .i64 da, .int .i64 ti, .int .i64 re, .int .i64 save, .string le] 36)).alloc (.cells #[.string nm2, .int .i64 fr2, .int .i64 last2, .int .i64 mo2, .int .i64 ki2, .int .i64 wd2, .int .i64 da2, .int .i64 ti2, .int .i64 re2, .int .i64 save2, .string le2] 36)) := twoE_boxes w _ _ _ _
  generalize ((w.alloc (.cells #[.string nm, .int .i64 fr, .int .i64 last, .int .i64 mo, .int .i64 ki, .int .i64 wd, .int .i64 da, .int .i64 ti, .int .i64 re, .int .i64 save, .string le] 36)).alloc (.cells #[.string nm2, .int .i64 fr2, .int .i64 last2, .int .i64 mo2, .int .i64 ki2, .int .i64 wd2, .int .i64 da2, .int .i64 ti2, .int .i64 re2, .int .i64 save2, .string le2] 36)) = W0 at *
  obtain ⟨y0, y1, y2, y3, y4, y5, y6, y7, y8, y9, y10⟩ := HW.ka.elevenC
  obtain ⟨z0, z1, z2, z3, z4, z5, z6, z7, z8, z9, z10⟩ := HW.kb.elevenC
  obtain ⟨f, hf⟩ : ∃ f, f = max fr (fr2 - on) := ⟨_, rfl⟩
  obtain ⟨l, hl⟩ : ∃ l, l = min (min last (last2 - on)) (f + 399) := ⟨_, rfl⟩
  have f1 : 1 ≤ f := by omega
  have f2 : f ≤ 9999 := by omega
  have l1 : -10 ≤ l := by omega
  have l2 : l ≤ 20000 := by omega
  rw [← hf] at MT MN
  rw [← hl] at MT MN
  go_upto_region 2 with (fail)
  rw [← hf]
  clear hf
  have hmin3 : ∀ (ts : Array TypeId) (t : TypeId) (W : World), (Builtin.min_ ts t #[.int .i64 last, .int .i64 (last2 - on), .int .i64 (f + 400 - 1)]).run Tryz.prog W = .ok (.int .i64 l) W := fun ts t W => by
    rw [run_min_int3]
    have e : (if f + 400 - 1 < (if last2 - on < last then last2 - on else last) then f + 400 - 1 else (if last2 - on < last then last2 - on else last)) = l := by
      rw [hl]; split <;> split <;> omega
    rw [e]
  have HL := Lib.hid hl
  clear hl
  go_wp2_with fail
  go_loopw [9] (fun v9 wr => ∃ y : Int, v9 = .int .i64 y ∧ f ≤ y ∧ y ≤ 20001 ∧ noMeet X Y on f y ∧ TwoW w [.string nm, .int .i64 fr, .int .i64 last, .int .i64 mo, .int .i64 ki, .int .i64 wd, .int .i64 da, .int .i64 ti, .int .i64 re, .int .i64 save, .string le] [.string nm2, .int .i64 fr2, .int .i64 last2, .int .i64 mo2, .int .i64 ki2, .int .i64 wd2, .int .i64 da2, .int .i64 ti2, .int .i64 re2, .int .i64 save2, .string le2] wr) (fun v _ => (l + 1 - intOf v).toNat)
  case atStart => exact ⟨f, rfl, Int.le_refl _, by omega, fun z h1 h2 => by omega, HW⟩
  case round =>
    clear HW y0 y1 y2 y3 y4 y5 y6 y7 y8 y9 y10 z0 z1 z2 z3 z4 z5 z6 z7 z8 z9 z10 hmin3
    obtain ⟨y, rfl, bd1, bd2, hN, HW⟩ := hrel
    obtain ⟨y0, y1, y2, y3, y4, y5, y6, y7, y8, y9, y10⟩ := HW.ka.elevenC
    obtain ⟨z0, z1, z2, z3, z4, z5, z6, z7, z8, z9, z10⟩ := HW.kb.elevenC
    have HN := Lib.hid hN
    clear hN
    by_cases h5 : y ≤ l
    · obtain ⟨tx, ty⟩ := MT.out y bd1 h5
      have sx := turn_small tx
      have sy := turn_small ty
      have LA := fun W L => LOA.out y W L
      have LB := fun W L => LOB.out (y + on) W L
      rw [near_lo tx, decide_eq_true tx.2] at LA
      rw [near_lo ty, decide_eq_true ty.2] at LB
      have STEP := Lib.hid (fun k => noMeet_next (y := y) HN.out k)
      have YES := Lib.hid (fun k : nearT (turnT X y) (turnT Y (y + on)) => HQ.out.2 ⟨y, tx, ty, k⟩)
      have NO := Lib.hid (SW.out y tx ty)
      unfold nearT at STEP YES
      generalize (turnT X y).at_ = p at *
      generalize (turnT Y (y + on)).at_ = r at *
      have LA := Lib.hid LA
      have LB := Lib.hid LB
      clear HN tx ty
      have d5 : decide (y ≤ l) = true := decide_eq_true h5
      obtain ⟨m, hm⟩ : ∃ m, m = max (p - r) (r - p) := ⟨_, rfl⟩
      by_cases c1 : m < 172800
      · have d6 : decide (m < 172800) = true := decide_eq_true c1
        have EQ := Lib.hid (YES.out (by omega))
        clear YES STEP NO
        go_upto_region 9 with (first | (go_at_call 132; (with_reducible refine (LA.out _ (LE.out.mono HW.hb)).mono ?_); clear LA; rintro e W9 ⟨rfl, hk⟩; replace HW := HW.below hk; clear hk y0 y1 y2 y3 y4 y5 y6 y7 y8 y9 y10 z0 z1 z2 z3 z4 z5 z6 z7 z8 z9 z10; obtain ⟨y0, y1, y2, y3, y4, y5, y6, y7, y8, y9, y10⟩ := HW.ka.elevenC; obtain ⟨z0, z1, z2, z3, z4, z5, z6, z7, z8, z9, z10⟩ := HW.kb.elevenC) | (go_at_call 132; (with_reducible refine (LB.out _ (LE.out.mono HW.hb)).mono ?_); clear LB; rintro e W9 ⟨rfl, hk⟩; replace HW := HW.below hk; clear hk y0 y1 y2 y3 y4 y5 y6 y7 y8 y9 y10 z0 z1 z2 z3 z4 z5 z6 z7 z8 z9 z10; obtain ⟨y0, y1, y2, y3, y4, y5, y6, y7, y8, y9, y10⟩ := HW.ka.elevenC; obtain ⟨z0, z1, z2, z3, z4, z5, z6, z7, z8, z9, z10⟩ := HW.kb.elevenC))
        rw [← hm]
        clear hm
        go_wp2_with fail
        go_ret
        exact ⟨by rw [EQ.out]; rfl, HW.hb⟩
      · have d6 : decide (m < 172800) = false := decide_eq_false c1
        by_cases c2 : 2764800 ≤ m
        · have d7 : decide (2764800 ≤ m) = true := decide_eq_true c2
          have EQ := Lib.hid (show q = false from by rw [← Bool.not_eq_true, HQ.out]; exact NO.out (by omega))
          clear YES STEP NO
          go_upto_region 9 with (first | (go_at_call 132; (with_reducible refine (LA.out _ (LE.out.mono HW.hb)).mono ?_); clear LA; rintro e W9 ⟨rfl, hk⟩; replace HW := HW.below hk; clear hk y0 y1 y2 y3 y4 y5 y6 y7 y8 y9 y10 z0 z1 z2 z3 z4 z5 z6 z7 z8 z9 z10; obtain ⟨y0, y1, y2, y3, y4, y5, y6, y7, y8, y9, y10⟩ := HW.ka.elevenC; obtain ⟨z0, z1, z2, z3, z4, z5, z6, z7, z8, z9, z10⟩ := HW.kb.elevenC) | (go_at_call 132; (with_reducible refine (LB.out _ (LE.out.mono HW.hb)).mono ?_); clear LB; rintro e W9 ⟨rfl, hk⟩; replace HW := HW.below hk; clear hk y0 y1 y2 y3 y4 y5 y6 y7 y8 y9 y10 z0 z1 z2 z3 z4 z5 z6 z7 z8 z9 z10; obtain ⟨y0, y1, y2, y3, y4, y5, y6, y7, y8, y9, y10⟩ := HW.ka.elevenC; obtain ⟨z0, z1, z2, z3, z4, z5, z6, z7, z8, z9, z10⟩ := HW.kb.elevenC))
          rw [← hm]
          clear hm
          go_wp2_with fail
          go_ret
          exact ⟨by rw [EQ.out]; rfl, HW.hb⟩
        · have d7 : decide (2764800 ≤ m) = false := decide_eq_false c2
          have ST := Lib.hid (STEP.out (by omega))
          clear YES STEP NO
          go_upto_region 9 with (first | (go_at_call 132; (with_reducible refine (LA.out _ (LE.out.mono HW.hb)).mono ?_); clear LA; rintro e W9 ⟨rfl, hk⟩; replace HW := HW.below hk; clear hk y0 y1 y2 y3 y4 y5 y6 y7 y8 y9 y10 z0 z1 z2 z3 z4 z5 z6 z7 z8 z9 z10; obtain ⟨y0, y1, y2, y3, y4, y5, y6, y7, y8, y9, y10⟩ := HW.ka.elevenC; obtain ⟨z0, z1, z2, z3, z4, z5, z6, z7, z8, z9, z10⟩ := HW.kb.elevenC) | (go_at_call 132; (with_reducible refine (LB.out _ (LE.out.mono HW.hb)).mono ?_); clear LB; rintro e W9 ⟨rfl, hk⟩; replace HW := HW.below hk; clear hk y0 y1 y2 y3 y4 y5 y6 y7 y8 y9 y10 z0 z1 z2 z3 z4 z5 z6 z7 z8 z9 z10; obtain ⟨y0, y1, y2, y3, y4, y5, y6, y7, y8, y9, y10⟩ := HW.ka.elevenC; obtain ⟨z0, z1, z2, z3, z4, z5, z6, z7, z8, z9, z10⟩ := HW.kb.elevenC))
          rw [← hm]
          clear hm
          go_wp2_with fail
          go_roundw
          case rel => exact ⟨y + 1, by first | rfl | exact int_eqS (by omega), by omega, by omega, ST.out, HW⟩
          case measure => simp only [intOf]; omega
    · have EQ := Lib.hid (show q = false from by rw [← Bool.not_eq_true, HQ.out]; exact MN.out y (by omega) HN.out)
      have d5 : decide (y ≤ l) = false := decide_eq_false h5
      go_wp2
      go_ret
      exact ⟨by rw [EQ.out]; rfl, HW.hb⟩
def pairP (L : List Rl) (i j : Nat) : Prop := ∃ a b, L[i]? = some a ∧ L[j]? = some b ∧ (meetP a b 0 ∨ meetP a b 1 ∨ meetP b a 1)
theorem near_pairs {L : List Rl} : nearP L ↔ ∃ i j : Nat, j < i ∧ pairP L i j := by
  rw [near_meet]
  exact ⟨fun ⟨i, j, a, b, l, ha, hb, h⟩ => ⟨i, j, l, a, b, ha, hb, h⟩, fun ⟨i, j, l, a, b, ha, hb, h⟩ => ⟨i, j, a, b, l, ha, hb, h⟩⟩
theorem bool_of (p : Prop) : ∃ q : Bool, q = true ↔ p := ⟨@decide p (Classical.propDecidable p), @decide_eq_true_iff p (Classical.propDecidable p)⟩
theorem nearB_a {L : List Rl} (h : fitB L = false) : nearB L = false := by unfold nearB; rw [h]; rfl
theorem nearB_b {L : List Rl} (h : crowdB L = true) : nearB L = false := by unfold nearB; rw [h]; simp
theorem nearB_is {L : List Rl} (h : fitB L = true) (k : crowdB L = false) {b : Bool} (m : b = true ↔ nearP L) : nearB L = b := by
  unfold nearB
  rw [h, k, Bool.not_false, Bool.and_true, Bool.true_and, Bool.eq_iff_iff, @decide_eq_true_iff _ (Classical.propDecidable _)]
  exact m.symm
structure RoW (w : World) (q : Nat) (a : List Value) (X : World) : Prop where
  hb : Below w.heap.size w X
  ka : Blk X q a
structure PaW (w : World) (q : Nat) (a : List Value) (r : Nat) (b : List Value) (X : World) : Prop where
  hb : Below w.heap.size w X
  ka : Blk X q a
  kb : Blk X r b
theorem PaW.below {w : World} {q r : Nat} {a b : List Value} {X X' : World} (h : PaW w q a r b X) (k : Below X.heap.size X X') : PaW w q a r b X' := ⟨below_thru h.hb k, h.ka.below k, h.kb.below k⟩
theorem RoW.more {w : World} {q : Nat} {a : List Value} {X : World} (h : RoW w q a X) (b : List Value) (t : TypeId) : PaW w q a X.heap.size b (X.alloc (.cells b.toArray t)) :=
  ⟨below_thru h.hb (below_box X _), h.ka.below (below_box X _), blk_lit X t b⟩
theorem PaW.row {w : World} {q r : Nat} {a b : List Value} {X : World} (h : PaW w q a r b X) : RoW w q a X := ⟨h.hb, h.ka⟩
theorem row_box {w X : World} (h : Below w.heap.size w X) (a : List Value) (t : TypeId) : RoW w X.heap.size a (X.alloc (.cells a.toArray t)) := ⟨below_thru h (below_box X _), blk_lit X t a⟩
theorem nearE (L : List Rl) (A : Option Addr) (n c : Nat) (w : World) (hm : RulV w A n c L) (LE : Lens w) : Calls Tryz.prog 90 #[.slice A n c] w (RetV w (.bool (nearB L))) := by
  have mx : n ≤ 9223372036854775807 := Nat.le_trans hm.cap hm.max
  have nc : n ≤ c := hm.cap
  have cm : c ≤ 9223372036854775807 := hm.max
  have LN := Lib.hid (show L.length = n by have := hm.len; simpa using this)
  have HA := Lib.hid hm
  have LE := Lib.hid LE
  have RP := Lib.hid (fun W (h : RulV W A n c L) => rightPE L A n c W h)
  have CR := Lib.hid (fun W (h : RulV W A n c L) => crowdedE L A n c W h)
  clear hm
  cases hf : fitB L with
  | false =>
    have EN := Lib.hid (nearB_a hf)
    rw [hf] at RP
    clear hf CR
    go_enter Tryz.func90, Tryz.ntmps90
    go_wp2_with (go_at_call 113; refine (RP.out _ HA.out).mono ?_; clear RP; rintro e W9 ⟨rfl, hb⟩)
    go_ret
    exact ⟨by rw [EN.out]; rfl, hb⟩
  | true =>
    have FB := Lib.hid hf
    have FIT := Lib.hid (fit_yes.1 hf)
    rw [hf] at RP
    clear hf
    cases hc : crowdB L with
    | true =>
      have EN := Lib.hid (nearB_b hc)
      rw [hc] at CR
      clear hc FIT FB
      go_enter Tryz.func90, Tryz.ntmps90
      go_wp2_with (first | (go_at_call 113; refine (RP.out _ HA.out).mono ?_; clear RP; rintro e W9 ⟨rfl, hb⟩) | (go_at_call 88; refine (CR.out _ (HA.out.below hb)).mono ?_; clear CR; rintro e W9 ⟨rfl, hk⟩; replace hb := below_thru hb hk; clear hk))
      go_ret
      exact ⟨by rw [EN.out]; rfl, hb⟩
    | false =>
      have CB := Lib.hid hc
      rw [hc] at CR
      clear hc
      go_enter Tryz.func90, Tryz.ntmps90
      go_wp2_with (first | (go_at_call 113; refine (RP.out _ HA.out).mono ?_; clear RP; rintro e W9 ⟨rfl, hb⟩) | (go_at_call 88; refine (CR.out _ (HA.out.below hb)).mono ?_; clear CR; rintro e W9 ⟨rfl, hk⟩; replace hb := below_thru hb hk; clear hk))
      go_loopw [16] (fun v16 wr => ∃ i : Nat, i ≤ n ∧ v16 = .int .i64 i ∧ (∀ a b : Nat, a < i → b < a → ¬ pairP L a b) ∧ Below w.heap.size w wr) (fun v _ => n - (intOf v).toNat)
      case atStart => exact ⟨0, by omega, rfl, fun a b h => absurd h (by omega), hb⟩
      case round =>
        clear hb
        obtain ⟨i, hi, rfl, hR, hbel⟩ := hrel
        have HR := Lib.hid hR
        clear hR
        by_cases h4 : i < n
        · obtain ⟨x, hxx⟩ : ∃ x, L[i]? = some x := ⟨_, List.getElem?_eq_getElem (by rw [LN.out]; exact h4)⟩
          obtain ⟨g, o, ea0, hg, ca⟩ := HA.out.cells (by omega)
          subst ea0
          have ra := row_at ca (show (L.map Rl.vals)[i]? = some (Rl.vals x) by rw [List.getElem?_map, hxx]; rfl)
          have fx := FIT.out x (List.mem_of_getElem? hxx)
          obtain ⟨X, hX⟩ : ∃ X, X = x := ⟨_, rfl⟩
          have HX := Lib.hid hX
          have HXX := Lib.hid (show L[i]? = some X by rw [hX]; exact hxx)
          have FX := Lib.hid (show X.fit by rw [hX]; exact fx)
          clear hX fx hxx
          obtain ⟨nm, fr, last, ⟨mo, ki, wd, da, ti, re⟩, save, le⟩ := x
          have x0 : wr.cell? ⟨g, o + i * 11, none⟩ = some (.string nm) := (hbel.cell (p := ⟨g, o + i * 11, none⟩) hg).trans (ra 0 _ rfl)
          have x1 : wr.cell? ⟨g, o + i * 11 + 1, none⟩ = some (.int .i64 fr) := (hbel.cell (p := ⟨g, o + i * 11 + 1, none⟩) hg).trans (ra 1 _ rfl)
          have x2 : wr.cell? ⟨g, o + i * 11 + 2, none⟩ = some (.int .i64 last) := (hbel.cell (p := ⟨g, o + i * 11 + 2, none⟩) hg).trans (ra 2 _ rfl)
          have x3 : wr.cell? ⟨g, o + i * 11 + 3, none⟩ = some (.int .i64 mo) := (hbel.cell (p := ⟨g, o + i * 11 + 3, none⟩) hg).trans (ra 3 _ rfl)
          have x4 : wr.cell? ⟨g, o + i * 11 + 4, none⟩ = some (.int .i64 ki) := (hbel.cell (p := ⟨g, o + i * 11 + 4, none⟩) hg).trans (ra 4 _ rfl)
          have x5 : wr.cell? ⟨g, o + i * 11 + 5, none⟩ = some (.int .i64 wd) := (hbel.cell (p := ⟨g, o + i * 11 + 5, none⟩) hg).trans (ra 5 _ rfl)
          have x6 : wr.cell? ⟨g, o + i * 11 + 6, none⟩ = some (.int .i64 da) := (hbel.cell (p := ⟨g, o + i * 11 + 6, none⟩) hg).trans (ra 6 _ rfl)
          have x7 : wr.cell? ⟨g, o + i * 11 + 7, none⟩ = some (.int .i64 ti) := (hbel.cell (p := ⟨g, o + i * 11 + 7, none⟩) hg).trans (ra 7 _ rfl)
          have x8 : wr.cell? ⟨g, o + i * 11 + 8, none⟩ = some (.int .i64 re) := (hbel.cell (p := ⟨g, o + i * 11 + 8, none⟩) hg).trans (ra 8 _ rfl)
          have x9 : wr.cell? ⟨g, o + i * 11 + 9, none⟩ = some (.int .i64 save) := (hbel.cell (p := ⟨g, o + i * 11 + 9, none⟩) hg).trans (ra 9 _ rfl)
          have x10 : wr.cell? ⟨g, o + i * 11 + 10, none⟩ = some (.string le) := (hbel.cell (p := ⟨g, o + i * 11 + 10, none⟩) hg).trans (ra 10 _ rfl)
          have CA := Lib.hid ca
          clear ra ca
          go_upto_region 6 with (fail)
          have HW : RoW w wr.heap.size [.string nm, .int .i64 fr, .int .i64 last, .int .i64 mo, .int .i64 ki, .int .i64 wd, .int .i64 da, .int .i64 ti, .int .i64 re, .int .i64 save, .string le] (wr.alloc (.cells #[.string nm, .int .i64 fr, .int .i64 last, .int .i64 mo, .int .i64 ki, .int .i64 wd, .int .i64 da, .int .i64 ti, .int .i64 re, .int .i64 save, .string le] 36)) := row_box hbel _ _
          generalize wr.alloc (.cells #[.string nm, .int .i64 fr, .int .i64 last, .int .i64 mo, .int .i64 ki, .int .i64 wd, .int .i64 da, .int .i64 ti, .int .i64 re, .int .i64 save, .string le] 36) = W at *
          generalize wr.heap.size = q at *
          clear x0 x1 x2 x3 x4 x5 x6 x7 x8 x9 x10 hbel
          go_wp2_with fail
          go_loopw [25] (fun v25 wr => ∃ j : Nat, j ≤ i ∧ v25 = .int .i64 j ∧ (∀ b : Nat, b < j → ¬ pairP L i b) ∧ RoW w q [.string nm, .int .i64 fr, .int .i64 last, .int .i64 mo, .int .i64 ki, .int .i64 wd, .int .i64 da, .int .i64 ti, .int .i64 re, .int .i64 save, .string le] wr) (fun v _ => i - (intOf v).toNat)
          case atStart => exact ⟨0, by omega, rfl, fun b h => absurd h (by omega), HW⟩
          case round =>
            clear HW
            obtain ⟨j, hj, rfl, hS, HW⟩ := hrel
            have HS := Lib.hid hS
            clear hS
            by_cases h5 : j < i
            · obtain ⟨z, hz⟩ : ∃ z, L[j]? = some z := ⟨_, List.getElem?_eq_getElem (by rw [LN.out]; omega)⟩
              have ra := row_at CA.out (show (L.map Rl.vals)[j]? = some (Rl.vals z) by rw [List.getElem?_map, hz]; rfl)
              have fz := FIT.out z (List.mem_of_getElem? hz)
              obtain ⟨b0, e0⟩ := bool_of (meetP X z 0)
              obtain ⟨b1, e1⟩ := bool_of (meetP X z 1)
              obtain ⟨b2, e2⟩ := bool_of (meetP z X 1)
              have M0 := fun W L => meetE FX.out fz (.inl rfl) e0 W L
              have M1 := fun W L => meetE FX.out fz (.inr rfl) e1 W L
              have M2 := fun W L => meetE fz FX.out (.inr rfl) e2 W L
              have YES := Lib.hid (fun h : b0 = true ∨ b1 = true ∨ b2 = true => nearB_is FB.out CB.out (b := true) (by
                simp only [true_iff]
                exact near_pairs.2 ⟨i, j, h5, X, z, HXX.out, hz, h.imp e0.1 (Or.imp e1.1 e2.1)⟩))
              have STEP := Lib.hid (fun h : ¬ (b0 = true ∨ b1 = true ∨ b2 = true) => (show ∀ b : Nat, b < j + 1 → ¬ pairP L i b from fun b hb => by
                by_cases e : b = j
                · subst e
                  rintro ⟨a', b', ha, hb, k⟩
                  rw [HXX.out] at ha
                  rw [hz] at hb
                  cases ha
                  cases hb
                  exact h (k.imp e0.2 (Or.imp e1.2 e2.2))
                · exact HS.out b (by omega)))
              clear e0 e1 e2 fz hz
              obtain ⟨nm2, fr2, last2, ⟨mo2, ki2, wd2, da2, ti2, re2⟩, save2, le2⟩ := z
              replace M0 := Lib.hid (fun W (L : Lens W) => (show Calls Tryz.prog 115 #[.agg #[.string nm, .int .i64 fr, .int .i64 last, .int .i64 mo, .int .i64 ki, .int .i64 wd, .int .i64 da, .int .i64 ti, .int .i64 re, .int .i64 save, .string le], .agg #[.string nm2, .int .i64 fr2, .int .i64 last2, .int .i64 mo2, .int .i64 ki2, .int .i64 wd2, .int .i64 da2, .int .i64 ti2, .int .i64 re2, .int .i64 save2, .string le2], .int .i64 0] W (RetV W (.bool b0)) from by rw [show (Value.agg #[.string nm, .int .i64 fr, .int .i64 last, .int .i64 mo, .int .i64 ki, .int .i64 wd, .int .i64 da, .int .i64 ti, .int .i64 re, .int .i64 save, .string le]) = X.val from by rw [HX.out]; rfl]; exact M0 W L))
              replace M1 := Lib.hid (fun W (L : Lens W) => (show Calls Tryz.prog 115 #[.agg #[.string nm, .int .i64 fr, .int .i64 last, .int .i64 mo, .int .i64 ki, .int .i64 wd, .int .i64 da, .int .i64 ti, .int .i64 re, .int .i64 save, .string le], .agg #[.string nm2, .int .i64 fr2, .int .i64 last2, .int .i64 mo2, .int .i64 ki2, .int .i64 wd2, .int .i64 da2, .int .i64 ti2, .int .i64 re2, .int .i64 save2, .string le2], .int .i64 1] W (RetV W (.bool b1)) from by rw [show (Value.agg #[.string nm, .int .i64 fr, .int .i64 last, .int .i64 mo, .int .i64 ki, .int .i64 wd, .int .i64 da, .int .i64 ti, .int .i64 re, .int .i64 save, .string le]) = X.val from by rw [HX.out]; rfl]; exact M1 W L))
              replace M2 := Lib.hid (fun W (L : Lens W) => (show Calls Tryz.prog 115 #[.agg #[.string nm2, .int .i64 fr2, .int .i64 last2, .int .i64 mo2, .int .i64 ki2, .int .i64 wd2, .int .i64 da2, .int .i64 ti2, .int .i64 re2, .int .i64 save2, .string le2], .agg #[.string nm, .int .i64 fr, .int .i64 last, .int .i64 mo, .int .i64 ki, .int .i64 wd, .int .i64 da, .int .i64 ti, .int .i64 re, .int .i64 save, .string le], .int .i64 1] W (RetV W (.bool b2)) from by rw [show (Value.agg #[.string nm, .int .i64 fr, .int .i64 last, .int .i64 mo, .int .i64 ki, .int .i64 wd, .int .i64 da, .int .i64 ti, .int .i64 re, .int .i64 save, .string le]) = X.val from by rw [HX.out]; rfl]; exact M2 W L))
              have x0 : wr.cell? ⟨g, o + j * 11, none⟩ = some (.string nm2) := (HW.hb.cell (p := ⟨g, o + j * 11, none⟩) hg).trans (ra 0 _ rfl)
              have x1 : wr.cell? ⟨g, o + j * 11 + 1, none⟩ = some (.int .i64 fr2) := (HW.hb.cell (p := ⟨g, o + j * 11 + 1, none⟩) hg).trans (ra 1 _ rfl)
              have x2 : wr.cell? ⟨g, o + j * 11 + 2, none⟩ = some (.int .i64 last2) := (HW.hb.cell (p := ⟨g, o + j * 11 + 2, none⟩) hg).trans (ra 2 _ rfl)
              have x3 : wr.cell? ⟨g, o + j * 11 + 3, none⟩ = some (.int .i64 mo2) := (HW.hb.cell (p := ⟨g, o + j * 11 + 3, none⟩) hg).trans (ra 3 _ rfl)
              have x4 : wr.cell? ⟨g, o + j * 11 + 4, none⟩ = some (.int .i64 ki2) := (HW.hb.cell (p := ⟨g, o + j * 11 + 4, none⟩) hg).trans (ra 4 _ rfl)
              have x5 : wr.cell? ⟨g, o + j * 11 + 5, none⟩ = some (.int .i64 wd2) := (HW.hb.cell (p := ⟨g, o + j * 11 + 5, none⟩) hg).trans (ra 5 _ rfl)
              have x6 : wr.cell? ⟨g, o + j * 11 + 6, none⟩ = some (.int .i64 da2) := (HW.hb.cell (p := ⟨g, o + j * 11 + 6, none⟩) hg).trans (ra 6 _ rfl)
              have x7 : wr.cell? ⟨g, o + j * 11 + 7, none⟩ = some (.int .i64 ti2) := (HW.hb.cell (p := ⟨g, o + j * 11 + 7, none⟩) hg).trans (ra 7 _ rfl)
              have x8 : wr.cell? ⟨g, o + j * 11 + 8, none⟩ = some (.int .i64 re2) := (HW.hb.cell (p := ⟨g, o + j * 11 + 8, none⟩) hg).trans (ra 8 _ rfl)
              have x9 : wr.cell? ⟨g, o + j * 11 + 9, none⟩ = some (.int .i64 save2) := (HW.hb.cell (p := ⟨g, o + j * 11 + 9, none⟩) hg).trans (ra 9 _ rfl)
              have x10 : wr.cell? ⟨g, o + j * 11 + 10, none⟩ = some (.string le2) := (HW.hb.cell (p := ⟨g, o + j * 11 + 10, none⟩) hg).trans (ra 10 _ rfl)
              clear ra HS
              go_upto_region 9 with (fail)
              replace HW : PaW w q [.string nm, .int .i64 fr, .int .i64 last, .int .i64 mo, .int .i64 ki, .int .i64 wd, .int .i64 da, .int .i64 ti, .int .i64 re, .int .i64 save, .string le] wr.heap.size [.string nm2, .int .i64 fr2, .int .i64 last2, .int .i64 mo2, .int .i64 ki2, .int .i64 wd2, .int .i64 da2, .int .i64 ti2, .int .i64 re2, .int .i64 save2, .string le2] (wr.alloc (.cells #[.string nm2, .int .i64 fr2, .int .i64 last2, .int .i64 mo2, .int .i64 ki2, .int .i64 wd2, .int .i64 da2, .int .i64 ti2, .int .i64 re2, .int .i64 save2, .string le2] 36)) := HW.more _ _
              generalize wr.alloc (.cells #[.string nm2, .int .i64 fr2, .int .i64 last2, .int .i64 mo2, .int .i64 ki2, .int .i64 wd2, .int .i64 da2, .int .i64 ti2, .int .i64 re2, .int .i64 save2, .string le2] 36) = W1 at *
              generalize wr.heap.size = r at *
              clear x0 x1 x2 x3 x4 x5 x6 x7 x8 x9 x10
              obtain ⟨y0, y1, y2, y3, y4, y5, y6, y7, y8, y9, y10⟩ := HW.ka.elevenC
              obtain ⟨z0, z1, z2, z3, z4, z5, z6, z7, z8, z9, z10⟩ := HW.kb.elevenC
              cases b0 with
              | true =>
                have EQ := Lib.hid (YES.out (.inl rfl))
                clear YES STEP
                go_wp2_with (go_at_call 115; (with_reducible refine (M0.out _ (LE.out.mono HW.hb)).mono ?_); clear M0; rintro e W9 ⟨rfl, hk⟩; replace HW := HW.below hk; clear hk y0 y1 y2 y3 y4 y5 y6 y7 y8 y9 y10 z0 z1 z2 z3 z4 z5 z6 z7 z8 z9 z10; obtain ⟨y0, y1, y2, y3, y4, y5, y6, y7, y8, y9, y10⟩ := HW.ka.elevenC; obtain ⟨z0, z1, z2, z3, z4, z5, z6, z7, z8, z9, z10⟩ := HW.kb.elevenC)
                go_ret
                exact ⟨by rw [EQ.out]; rfl, HW.hb⟩
              | false =>
                cases b1 with
                | true =>
                  have EQ := Lib.hid (YES.out (.inr (.inl rfl)))
                  clear YES STEP
                  go_wp2_with (first | (go_at_call 115; (with_reducible refine (M0.out _ (LE.out.mono HW.hb)).mono ?_); clear M0; rintro e W9 ⟨rfl, hk⟩; replace HW := HW.below hk; clear hk y0 y1 y2 y3 y4 y5 y6 y7 y8 y9 y10 z0 z1 z2 z3 z4 z5 z6 z7 z8 z9 z10; obtain ⟨y0, y1, y2, y3, y4, y5, y6, y7, y8, y9, y10⟩ := HW.ka.elevenC; obtain ⟨z0, z1, z2, z3, z4, z5, z6, z7, z8, z9, z10⟩ := HW.kb.elevenC) | (go_at_call 115; (with_reducible refine (M1.out _ (LE.out.mono HW.hb)).mono ?_); clear M1; rintro e W9 ⟨rfl, hk⟩; replace HW := HW.below hk; clear hk y0 y1 y2 y3 y4 y5 y6 y7 y8 y9 y10 z0 z1 z2 z3 z4 z5 z6 z7 z8 z9 z10; obtain ⟨y0, y1, y2, y3, y4, y5, y6, y7, y8, y9, y10⟩ := HW.ka.elevenC; obtain ⟨z0, z1, z2, z3, z4, z5, z6, z7, z8, z9, z10⟩ := HW.kb.elevenC))
                  go_ret
                  exact ⟨by rw [EQ.out]; rfl, HW.hb⟩
                | false =>
                  cases b2 with
                  | true =>
                    have EQ := Lib.hid (YES.out (.inr (.inr rfl)))
                    clear YES STEP
                    go_wp2_with (first | (go_at_call 115; (with_reducible refine (M0.out _ (LE.out.mono HW.hb)).mono ?_); clear M0; rintro e W9 ⟨rfl, hk⟩; replace HW := HW.below hk; clear hk y0 y1 y2 y3 y4 y5 y6 y7 y8 y9 y10 z0 z1 z2 z3 z4 z5 z6 z7 z8 z9 z10; obtain ⟨y0, y1, y2, y3, y4, y5, y6, y7, y8, y9, y10⟩ := HW.ka.elevenC; obtain ⟨z0, z1, z2, z3, z4, z5, z6, z7, z8, z9, z10⟩ := HW.kb.elevenC) | (go_at_call 115; (with_reducible refine (M1.out _ (LE.out.mono HW.hb)).mono ?_); clear M1; rintro e W9 ⟨rfl, hk⟩; replace HW := HW.below hk; clear hk y0 y1 y2 y3 y4 y5 y6 y7 y8 y9 y10 z0 z1 z2 z3 z4 z5 z6 z7 z8 z9 z10; obtain ⟨y0, y1, y2, y3, y4, y5, y6, y7, y8, y9, y10⟩ := HW.ka.elevenC; obtain ⟨z0, z1, z2, z3, z4, z5, z6, z7, z8, z9, z10⟩ := HW.kb.elevenC) | (go_at_call 115; (with_reducible refine (M2.out _ (LE.out.mono HW.hb)).mono ?_); clear M2; rintro e W9 ⟨rfl, hk⟩; replace HW := HW.below hk; clear hk y0 y1 y2 y3 y4 y5 y6 y7 y8 y9 y10 z0 z1 z2 z3 z4 z5 z6 z7 z8 z9 z10; obtain ⟨y0, y1, y2, y3, y4, y5, y6, y7, y8, y9, y10⟩ := HW.ka.elevenC; obtain ⟨z0, z1, z2, z3, z4, z5, z6, z7, z8, z9, z10⟩ := HW.kb.elevenC))
                    go_ret
                    exact ⟨by rw [EQ.out]; rfl, HW.hb⟩
                  | false =>
                    have ST := Lib.hid (STEP.out (by decide))
                    clear YES STEP
                    go_wp2_with (first | (go_at_call 115; (with_reducible refine (M0.out _ (LE.out.mono HW.hb)).mono ?_); clear M0; rintro e W9 ⟨rfl, hk⟩; replace HW := HW.below hk; clear hk y0 y1 y2 y3 y4 y5 y6 y7 y8 y9 y10 z0 z1 z2 z3 z4 z5 z6 z7 z8 z9 z10; obtain ⟨y0, y1, y2, y3, y4, y5, y6, y7, y8, y9, y10⟩ := HW.ka.elevenC; obtain ⟨z0, z1, z2, z3, z4, z5, z6, z7, z8, z9, z10⟩ := HW.kb.elevenC) | (go_at_call 115; (with_reducible refine (M1.out _ (LE.out.mono HW.hb)).mono ?_); clear M1; rintro e W9 ⟨rfl, hk⟩; replace HW := HW.below hk; clear hk y0 y1 y2 y3 y4 y5 y6 y7 y8 y9 y10 z0 z1 z2 z3 z4 z5 z6 z7 z8 z9 z10; obtain ⟨y0, y1, y2, y3, y4, y5, y6, y7, y8, y9, y10⟩ := HW.ka.elevenC; obtain ⟨z0, z1, z2, z3, z4, z5, z6, z7, z8, z9, z10⟩ := HW.kb.elevenC) | (go_at_call 115; (with_reducible refine (M2.out _ (LE.out.mono HW.hb)).mono ?_); clear M2; rintro e W9 ⟨rfl, hk⟩; replace HW := HW.below hk; clear hk y0 y1 y2 y3 y4 y5 y6 y7 y8 y9 y10 z0 z1 z2 z3 z4 z5 z6 z7 z8 z9 z10; obtain ⟨y0, y1, y2, y3, y4, y5, y6, y7, y8, y9, y10⟩ := HW.ka.elevenC; obtain ⟨z0, z1, z2, z3, z4, z5, z6, z7, z8, z9, z10⟩ := HW.kb.elevenC))
                    go_roundw
                    case rel => exact ⟨j + 1, by omega, int_eqS (by omega), ST.out, HW.row⟩
                    case measure => simp only [intOf]; omega
            · obtain rfl : j = i := by omega
              have ST := Lib.hid (show ∀ a b : Nat, a < j + 1 → b < a → ¬ pairP L a b from fun a b ha hb => by
                by_cases e : a = j
                · subst e; exact HS.out b hb
                · exact HR.out a b (by omega) hb)
              clear HS HR
              go_wp2
              go_roundw
              case rel => exact ⟨j + 1, by omega, int_eqS (by omega), ST.out, HW.hb⟩
              case measure => simp only [intOf]; omega
        · obtain rfl : i = n := by omega
          have Y := Lib.hid (show nearB L = false from nearB_is FB.out CB.out (b := false) (by
            simp only [Bool.false_eq_true, false_iff]
            intro h
            obtain ⟨a, b, hab, k⟩ := near_pairs.1 h
            obtain ⟨u, v, hu, _⟩ := k
            refine HR.out a b ?_ hab ⟨u, v, hu, ‹_›⟩
            rw [← LN.out]
            exact (List.getElem?_eq_some_iff.1 hu).1))
          go_wp2
          go_ret
          exact ⟨by rw [Y.out]; rfl, hbel⟩
end Go.Proofs.YtmhpnmlgfdomkaaGreatDoor
namespace Go.Proofs.YtmhpnmlgfdomkaaGreatDoor
open Go.RowKit Go.Shelf
attribute [local go_sem] Oper.semAt_some
def yearTop (T Y : Int) : Prop := T < jan (Y + 1) * 86400 ∨ Y = 275760
theorem top_turn {T Y : Int} (h : yearTop T Y) {x : Rl} {y : Int} (hy : turnIn x y) (l : Y + 1 < y) : T + 200000 < (turnT x y).at_ := by
  have t := (turn_year hy).1
  have y1 := onOk_year hy.2
  rcases h with h | rfl
  · have a := jan_lt (a := Y + 1) (b := Y + 2) (by omega)
    have b := jan_le (a := Y + 2) (b := y) (by omega)
    omega
  · omega
theorem noneFrom_head {x : Rl} {P : Tn → Prop} {T Y : Int} (h : yearTop T Y) (hP : ∀ t : Tn, P t → t.at_ ≤ T + 200000) : noneFrom x P (min (Y + 1) x.last) := fun z hz l p => by
  by_cases c : x.last < z
  · have := hz.1.2; omega
  · have := top_turn h hz (by omega)
    have := hP _ p
    omega
theorem tdiv_both (T : Int) : T.tdiv 86400 * 86400 - 86400 < T ∧ T < T.tdiv 86400 * 86400 + 86400 := by
  by_cases s : 0 ≤ T
  · rw [Int.tdiv_eq_ediv_of_nonneg s]; omega
  · have := (tdiv_neg_day (T := T) (by omega)).1
    omega
theorem tdiv_neg (T : Int) (h : T < 0) : T ≤ T.tdiv 86400 * 86400 := by
  have := (tdiv_neg_day (T := T) h).1
  omega
theorem yrE_core (T q : Int) (q1 : -106751991167301 ≤ q) (q2 : q ≤ 106751991167301) (hq : T.tdiv 86400 = q) (y m d : Int) (OFR : Hid (∀ W, Lens W → Calls Tryz.prog 157 #[.int .i64 (min (max q (-100000001)) 100000000)] W (RetDateB W y m d true))) (w : World) (LE : Lens w) : Calls Tryz.prog 176 #[.int .i64 T] w (RetN w y) := by
  have LE := Lib.hid LE
  have hw : IntKind.i64.wrap (T.tdiv 86400) = q := by rw [hq]; exact IntWalk.i64_in _ (by omega)
  clear hq
  go_enter Tryz.func176, Tryz.ntmps176
  go_wp2_with (go_at_call 157; refine (OFR.out _ LE.out).mono ?_; clear OFR; rintro e W9 ⟨rfl, hk⟩)
  go_ret
  exact ⟨rfl, below_thru hk (below_box _ _)⟩
theorem yearE (T : Int) (h : In64 T) : ∃ Y, (yearTop T Y ∧ -271821 ≤ Y ∧ Y ≤ 275760) ∧ ∀ w, Lens w → Calls Tryz.prog 176 #[.int .i64 T] w (RetN w Y) := by
  have b := tdiv_both T
  have ng := tdiv_neg T
  obtain ⟨q, hq⟩ : ∃ q, q = T.tdiv 86400 := ⟨_, rfl⟩
  rw [← hq] at b ng
  obtain ⟨n, hn⟩ : ∃ n, n = min (max q (-100000001)) 100000000 := ⟨_, rfl⟩
  obtain ⟨y, m, d, k, e⟩ := day_of n
  have yr := num_year k
  rw [e] at yr
  unfold In64 at h
  have c1 : jan 275760 ≤ 100000000 ∧ 100000000 < jan 275761 := by decide
  have c3 : jan (-271821) < -100000001 := by decide
  refine ⟨y, ⟨?_, ?_, ?_⟩, fun w L => yrE_core T q (by omega) (by omega) hq.symm y m d (Lib.hid fun W LW => by rw [← hn]; exact ofP_yes n y m d ⟨k, by omega, by omega⟩ e W LW) w L⟩
  · by_cases c : q ≤ 100000000
    · left
      by_cases s : 0 ≤ T
      · omega
      · have := ng (by omega); omega
    · right
      apply Classical.byContradiction
      intro ne
      rcases Int.lt_or_gt_of_ne ne with l | l
      · have := jan_le (show y + 1 ≤ 275760 by omega); omega
      · have := jan_le (show 275761 ≤ y by omega); omega
  · apply Classical.byContradiction
    intro l
    have := jan_le (show y + 1 ≤ -271821 by omega)
    omega
  · apply Classical.byContradiction
    intro l
    have := jan_le (show 275761 ≤ y by omega)
    omega
abbrev Yr : Type := { y : Int // -300000 ≤ y ∧ y ≤ 300000 }
def yrs (l : List Yr) : List Int := l.map (·.1)
theorem yrs_snoc (l : List Yr) (x : Yr) : yrs (l ++ [x]) = yrs l ++ [x.1] := by simp [yrs]
def downs (top : Int) (k : Nat) : List Int := (List.range k).map (fun i : Nat => top - (i : Int))
theorem downs_succ (top : Int) (k : Nat) : downs top (k + 1) = downs top k ++ [top - (k : Int)] := by simp [downs, List.range_succ]
theorem downs_mem {top : Int} {k : Nat} {y : Int} : y ∈ downs top k ↔ y ≤ top ∧ top - (k : Int) < y := by
  unfold downs
  rw [List.mem_map]
  constructor
  · rintro ⟨i, hi, rfl⟩
    have := List.mem_range.1 hi
    omega
  · rintro ⟨h1, h2⟩
    exact ⟨(top - y).toNat, List.mem_range.2 (by omega), by omega⟩
theorem lastYearsE (x : Rl) (T : Int) (w : World) : Calls Tryz.prog 173 #[x.val, .int .i64 T] w (fun e w' => e = .returned (.func (.func 175) #[] #[.pointer (some ⟨w.heap.size + 1, 0, none⟩), .pointer (some ⟨w.heap.size, 0, none⟩)]) ∧ w' = (w.alloc (.cells x.vals.toArray 36)).alloc (.cells #[.int .i64 T] 2)) := by
  obtain ⟨nm, fr, last, ⟨mo, ki, wd, da, ti, re⟩, save, le⟩ := x
  show Calls Tryz.prog 173 #[.agg #[.string nm, .int .i64 fr, .int .i64 last, .int .i64 mo, .int .i64 ki, .int .i64 wd, .int .i64 da, .int .i64 ti, .int .i64 re, .int .i64 save, .string le], .int .i64 T] w (fun e w' => e = .returned (.func (.func 175) #[] #[.pointer (some ⟨w.heap.size + 1, 0, none⟩), .pointer (some ⟨w.heap.size, 0, none⟩)]) ∧ w' = (w.alloc (.cells #[.string nm, .int .i64 fr, .int .i64 last, .int .i64 mo, .int .i64 ki, .int .i64 wd, .int .i64 da, .int .i64 ti, .int .i64 re, .int .i64 save, .string le] 36)).alloc (.cells #[.int .i64 T] 2))
  go_enter Tryz.func173, Tryz.ntmps173
  go_wp2
  go_ret
  exact ⟨rfl, rfl⟩
def topS (top fr : Int) (ys : List Yr) : Prop := yrs ys = downs top (top - fr + 1).toNat
def topP (top fr : Int) (ys : List Yr) : Prop := ∃ k : Nat, yrs ys = downs top (k + 1) ∧ fr ≤ top - k
theorem ly_iter (n : Nat) (hn : 1 ≤ n) (l Bt Br n₀ : Nat) (fr last T Y : Int) (f1 : 1 ≤ fr) (f2 : fr ≤ 9999) (l1 : 1 ≤ last) (l2 : last ≤ 1000000) (YR : ∀ w, Lens w → Calls Tryz.prog 176 #[.int .i64 T] w (RetN w Y)) (y1 : -271821 ≤ Y) (y2 : Y ≤ 275760)
    (J Jx : List Yr → World → Prop) (W : World) (LE : Lens W) (hJ : AbidesFrom W.heap.size J)
    (hY : ∀ pre x W1, J pre W1 → pre.length < 300000 → YieldAt Fence.wide (n - 1) Tryz.prog l #[.int .i64 x.1] W1 fun e W' => (e = .returned (.bool true) ∧ J (pre ++ [x]) W' ∧ Below n₀ W1 W') ∨ (e = .returned (.bool false) ∧ Jx (pre ++ [x]) W'))
    (hr : Br < n₀) (hn0 : n₀ ≤ W.heap.size) (ct : W.cell? ⟨Bt, 0, none⟩ = some (.int .i64 T)) (c1 : W.cell? ⟨Br, 1, none⟩ = some (.int .i64 fr)) (c2 : W.cell? ⟨Br, 2, none⟩ = some (.int .i64 last)) (h0 : J [] W) :
    CallsIn Fence.wide n Tryz.prog 175 #[.func (.yield l) #[] #[], .pointer (some ⟨Bt, 0, none⟩), .pointer (some ⟨Br, 0, none⟩)] W fun e W' => (∃ v, e = .returned v) ∧ ((∃ ys, topS (min (Y + 1) last) fr ys ∧ J ys W') ∨ (∃ pre, topP (min (Y + 1) last) fr pre ∧ Jx pre W')) := by
  have mixed : Tryz.prog.follows Departure.mixedOrders = true := by kernel_rfl
  have YC := Lib.hid (fun (W' : World) (h : Below W.heap.size W W') => (callsIn_wide.2 (YR W' (LE.mono h)) : CallsIn Fence.wide (n - 1) Tryz.prog 176 #[.int .i64 T] W' (RetN W' Y)))
  have brW : Br < W.heap.size := by omega
  clear YR LE
  refine callsIn_of_wp Tryz.func175 rfl trivial ?_ rfl
  simp only [Tryz.ntmps175, List.size_toArray, List.length_cons, List.length_nil, Nat.reduceAdd, Nat.reduceSub, Array.replicate_succ, Array.replicate_zero, List.push_toArray, List.append_toArray, List.nil_append, List.cons_append]
  gi_upto_region 0 with (fail)
  gi_cut [4] from 5 (fun v4 wx => v4 = .int .i64 (min (Y + 1) last) ∧ Below W.heap.size W wx)
  case first =>
    gi_region_with_o
      (refine ⟨trivial, ?_⟩
       gi_at_call 176
       refine (YC.out _ (by first | exact Below.refl _ _ | exact (Below.refl _ _).drew | exact below_drewN (Below.refl _ _) _)).mono ?_
       rintro e W1 ⟨rfl, hk⟩
       have hb1 : Below W.heap.size W W1 := by first | exact hk | exact (below_drewN (Below.refl W.heap.size W) _).trans hk
       have c2' := (hb1.cell (p := ⟨Br, 2, none⟩) brW).trans c2)
    all_goals gi_wp2
    all_goals gi_meet
    all_goals exact ⟨by rw [IntWalk.i64_in _ (by omega)], hb1⟩
  case rest =>
    obtain ⟨rfl, hbx⟩ := hcut
    have hJx := hJ _ _ _ none h0 (below_own hbx) (fun r c => by cases c)
    have d1 := (hbx.cell (p := ⟨Br, 1, none⟩) brW).trans c1
    obtain ⟨top, htop⟩ : ∃ top, top = min (Y + 1) last := ⟨_, rfl⟩
    have t1 : -300000 ≤ top := by omega
    have t2 : top ≤ 275761 := by omega
    rw [← htop]
    have HT := Lib.hid htop
    clear htop c1 c2 ct YC hbx
    gi_wp2
    gi_loopw [4] (fun p wr => ∃ (pre : List Yr) (y : Int), p = .int .i64 y ∧ y = top - (pre.length : Int) ∧ yrs pre = downs top pre.length ∧ (pre.length = 0 ∨ fr - 1 ≤ y) ∧ J pre wr ∧ wr.cell? ⟨Br, 1, none⟩ = some (.int .i64 fr)) (fun p _ => (intOf p - fr + 1).toNat)
    case atStart => exact ⟨[], top, rfl, by simp, rfl, .inl rfl, hJx, d1⟩
    case round =>
      clear hJx d1
      obtain ⟨pre, y, rfl, hy0, hx, hp, hJs, z1⟩ := hrel
      have HX := Lib.hid hx
      have HP := Lib.hid hp
      clear hx hp
      by_cases h : fr ≤ y
      · have hl : pre.length < 300000 := by omega
        have hy1 : -300000 ≤ y := by omega
        have hy2 : y ≤ 300000 := by omega
        obtain ⟨fn, tmps, assign, body, hy, hR⟩ := hY pre ⟨y, hy1, hy2⟩ wr hJs hl
        dsimp only at hy
        have HY0 := Lib.hid hy0
        clear hy0
        gi_wp2
        refine hR.mono ?_
        rintro e W3 (⟨rfl, hJ3, hk3⟩ | ⟨rfl, hJx3⟩)
        · have z3 := (hk3.cell (p := ⟨Br, 1, none⟩) hr).trans z1
          have NX := Lib.hid (show yrs (pre ++ [⟨y, hy1, hy2⟩]) = downs top (pre ++ [(⟨y, hy1, hy2⟩ : Yr)]).length from by rw [yrs_snoc, List.length_append, List.length_singleton, downs_succ, ← HX.out, ← HY0.out])
          gi_wp2
          go_roundw
          case rel => exact ⟨pre ++ [⟨y, hy1, hy2⟩], y - 1, by first | rfl | exact int_eqS (by omega), by have := HY0.out; rw [List.length_append, List.length_singleton]; push_cast; omega, NX.out, .inr (by omega), hJ3, z3⟩
          case measure => simp only [intOf]; omega
        · have ST := Lib.hid (show topP top fr (pre ++ [⟨y, hy1, hy2⟩]) from ⟨pre.length, by rw [yrs_snoc, downs_succ, ← HX.out, ← HY0.out], by rw [← HY0.out]; exact h⟩)
          gi_wp2
          refine bodyPost_ret (results_none rfl _ _ _) rfl ?_
          exact ⟨⟨_, rfl⟩, .inr ⟨_, HT.out ▸ ST.out, hJx3⟩⟩
      · have ST := Lib.hid (show topS top fr pre from by
          have hp := HP.out
          unfold topS
          rw [HX.out, show (top - fr + 1).toNat = pre.length by omega])
        gi_wp2
        go_end0
        exact ⟨⟨_, rfl⟩, .inl ⟨pre, HT.out ▸ ST.out, hJs⟩⟩
theorem ly_stops (n : Nat) (hn : 1 ≤ n) (Bt Br n₀ : Nat) (fr last T Y : Int) (f1 : 1 ≤ fr) (f2 : fr ≤ 9999) (l1 : 1 ≤ last) (l2 : last ≤ 1000000) (YR : ∀ w, Lens w → Calls Tryz.prog 176 #[.int .i64 T] w (RetN w Y)) (y1 : -271821 ≤ Y) (y2 : Y ≤ 275760)
    (w : World) (LE : Lens w) (hr : Br < n₀) (ht : Bt < n₀) (hn0 : n₀ ≤ w.heap.size) (ct : w.cell? ⟨Bt, 0, none⟩ = some (.int .i64 T)) (c1 : w.cell? ⟨Br, 1, none⟩ = some (.int .i64 fr)) (c2 : w.cell? ⟨Br, 2, none⟩ = some (.int .i64 last)) :
    SeqStopsK Fence.wide n Tryz.prog 175 #[.pointer (some ⟨Bt, 0, none⟩), .pointer (some ⟨Br, 0, none⟩)] (fun x : Yr => #[Value.int .i64 x.1]) (Below n₀) (topS (min (Y + 1) last) fr) (topP (min (Y + 1) last) fr) 300000 w := fun l J Jx W hW hJ _ hY h0 =>
  ly_iter n hn l Bt Br n₀ fr last T Y f1 f2 l1 l2 YR y1 y2 J Jx W (LE.mono hW) hJ hY hr (Nat.le_trans hn0 hW.size) ((hW.cell (p := ⟨Bt, 0, none⟩) (by show Bt < _; omega)).trans ct) ((hW.cell (p := ⟨Br, 1, none⟩) (by show Br < _; omega)).trans c1) ((hW.cell (p := ⟨Br, 2, none⟩) (by show Br < _; omega)).trans c2) h0
end Go.Proofs.YtmhpnmlgfdomkaaGreatDoor
namespace Go.Proofs.YtmhpnmlgfdomkaaGreatDoor
open Go.RowKit Go.Shelf
attribute [local go_sem] Oper.semAt_some
structure LaW (w : World) (a : List Value) (tk : Value) (r : List Value) (f : Value) (X : World) : Prop where
  hb : Below w.heap.size w X
  k0 : Blk X w.heap.size a
  k1 : Blk X (w.heap.size + 1) [tk]
  k2 : Blk X (w.heap.size + 1 + 1) r
  k3 : Blk X (w.heap.size + 1 + 1 + 1) [f]
theorem LaW.below {w : World} {a : List Value} {tk : Value} {r : List Value} {f : Value} {X X' : World} (h : LaW w a tk r f X) (k : Below X.heap.size X X') : LaW w a tk r f X' := ⟨below_thru h.hb k, h.k0.below k, h.k1.below k, h.k2.below k, h.k3.below k⟩
theorem LaW.grown {w : World} {a : List Value} {tk : Value} {r : List Value} {f : Value} {X X' : World} {row : Option Nat} {b : Nat} (h : LaW w a tk r f X) (G : X.grownBy X' row) (hr : ∀ q, row = some q → b ≤ q) (hq : w.heap.size + 4 ≤ b) : LaW w a tk r f X' :=
  ⟨h.hb.grown G h.hb.size (fun k e => by have := hr k e; omega), blk_grown G (fun q e => by have := hr q e; omega) h.k0, blk_grown G (fun q e => by have := hr q e; omega) h.k1, blk_grown G (fun q e => by have := hr q e; omega) h.k2, blk_grown G (fun q e => by have := hr q e; omega) h.k3⟩
theorem la_boxes (w : World) (a : List Value) (tk : Value) (r : List Value) (f : Value) (s t u v : TypeId) : LaW w a tk r f ((((w.alloc (.cells a.toArray s)).alloc (.cells #[tk] t)).alloc (.cells r.toArray u)).alloc (.cells #[f] v)) := by
  have k1 := below_box w (.cells a.toArray s)
  have k2 := below_box (w.alloc (.cells a.toArray s)) (.cells #[tk] t)
  have k3 := below_box ((w.alloc (.cells a.toArray s)).alloc (.cells #[tk] t)) (.cells r.toArray u)
  have k4 := below_box (((w.alloc (.cells a.toArray s)).alloc (.cells #[tk] t)).alloc (.cells r.toArray u)) (.cells #[f] v)
  have b1 := blk_lit (w.alloc (.cells a.toArray s)) t [tk]
  have b2 := blk_lit ((w.alloc (.cells a.toArray s)).alloc (.cells #[tk] t)) u r
  have b3 := blk_lit (((w.alloc (.cells a.toArray s)).alloc (.cells #[tk] t)).alloc (.cells r.toArray u)) v [f]
  simp only [World.size_alloc] at b1 b2 b3
  exact ⟨below_thru (below_thru (below_thru k1 k2) k3) k4, (((blk_lit w s a).below k2).below k3).below k4, (b1.below k3).below k4, b2.below k4, b3⟩
theorem LaW.store {w : World} {a : List Value} {tk r0 r1 r2 r3 f : Value} {X : World} (h : LaW w a tk [r0, r1, r2, r3] f X) (u v x y g : Value) : LaW w a tk [u, v, x, y] g (((((X.setCell ⟨w.heap.size + 1 + 1, 0, none⟩ u).setCell ⟨w.heap.size + 1 + 1, 1, none⟩ v).setCell ⟨w.heap.size + 1 + 1, 2, none⟩ x).setCell ⟨w.heap.size + 1 + 1, 3, none⟩ y).setCell ⟨w.heap.size + 1 + 1 + 1, 0, none⟩ g) :=
  ⟨((((h.hb.setCell (p := ⟨w.heap.size + 1 + 1, 0, none⟩) (by show _ ≤ w.heap.size + 1 + 1; omega) u).setCell (p := ⟨w.heap.size + 1 + 1, 1, none⟩) (by show _ ≤ w.heap.size + 1 + 1; omega) v).setCell (p := ⟨w.heap.size + 1 + 1, 2, none⟩) (by show _ ≤ w.heap.size + 1 + 1; omega) x).setCell (p := ⟨w.heap.size + 1 + 1, 3, none⟩) (by show _ ≤ w.heap.size + 1 + 1; omega) y).setCell (p := ⟨w.heap.size + 1 + 1 + 1, 0, none⟩) (by show _ ≤ w.heap.size + 1 + 1 + 1; omega) g,
    ((((h.k0.far (by omega) 0 u).far (by omega) 1 v).far (by omega) 2 x).far (by omega) 3 y).far (by omega) 0 g, ((((h.k1.far (by omega) 0 u).far (by omega) 1 v).far (by omega) 2 x).far (by omega) 3 y).far (by omega) 0 g, (h.k2.self4 u v x y).far (by omega) 0 g, ((((h.k3.far (by omega) 0 u).far (by omega) 1 v).far (by omega) 2 x).far (by omega) 3 y).self1 g⟩
theorem others_of (W W' : World) (b : Below W.heap.size W W') : KeepsOthers W W' := ⟨b.size, fun k _ h _ => (b.block k (Array.getElem?_eq_some_iff.1 h).1).trans h⟩
theorem others_five (X : World) (p1 p2 p3 p4 p5 : Addr) (u v x y g : Value) : KeepsOthers X (((((X.setCell p1 u).setCell p2 v).setCell p3 x).setCell p4 y).setCell p5 g) :=
  ((((KeepsOthers.setCell _ _ _).trans (KeepsOthers.setCell _ _ _)).trans (KeepsOthers.setCell _ _ _)).trans (KeepsOthers.setCell _ _ _)).trans (KeepsOthers.setCell _ _ _)
theorem latest_none {x : Rl} {P : Tn → Prop} {top : Int} (h : noneFrom x P top) {ys : List Yr} (hS : topS top x.fr ys) (no : ∀ z ∈ yrs ys, ¬ (turnIn x z ∧ P (turnT x z))) : LatestOf x P none := fun z hz p => by
  by_cases l : top < z
  · exact h z hz l p
  · refine no z ?_ ⟨hz, p⟩
    rw [show yrs ys = _ from hS, downs_mem]
    have := hz.1.1
    omega
theorem latest_some {x : Rl} {P : Tn → Prop} {top : Int} (h : noneFrom x P top) {ys ys' : List Yr} {z : Int} (hS : topP top x.fr ys) (e : yrs ys = yrs ys' ++ [z]) (no : ∀ u ∈ yrs ys', ¬ (turnIn x u ∧ P (turnT x u))) (hit : turnIn x z ∧ P (turnT x z)) : LatestOf x P (some z) := by
  obtain ⟨k, hk, _⟩ := hS
  rw [hk, downs_succ] at e
  obtain ⟨e1, e2⟩ := List.append_inj' e rfl
  have e3 : top - (k : Int) = z := by simpa using e2
  refine ⟨hit.1, hit.2, fun u hu p => ?_⟩
  apply Classical.byContradiction
  intro l
  by_cases l2 : top < u
  · exact h u hu l2 p
  · refine no u ?_ ⟨hu, p⟩
    rw [← e1, downs_mem]
    omega
theorem lastE (x : Rl) (fx : x.fit) (T : Int) (hT : In64 T) (gT : Nat) (lbT : Array Value) (eg : ∀ args w, (callFunc gT args).run Tryz.prog w = .ok (.enter gT args) w) (PB : Tn → Bool) (hP : ∀ t, PB t = true → t.at_ ≤ T + 200000) (w : World) (LE : Lens w)
    (TK : ∀ W, Below w.heap.size w W → ∀ y, turnIn x y → Calls Tryz.prog gT (#[(turnT x y).val] ++ lbT) W (RetV W (.bool (PB (turnT x y))))) :
    Calls Tryz.prog 171 #[x.val, .int .i64 T, .func (.func gT) #[] lbT] w (fun e w' => ∃ r, LatestOf x (fun t => PB t = true) r ∧ RetTB w (r.map (turnT x)) e w') := by
  obtain ⟨Y, ⟨hY, y1, y2⟩, YR⟩ := yearE T hT
  have NT := Lib.hid (noneFrom_head (x := x) (P := fun t => PB t = true) hY hP)
  have LY := fun W => lastYearsE x T W
  have TE := Lib.hid (fun y W (L : Lens W) => turnE x y W L)
  have LE := Lib.hid LE
  have YR := Lib.hid YR
  have f1 := fx.1.1
  have f2 := fx.1.2
  have l1 := fx.2.1.1
  have l2 : x.last ≤ 1000000 := by have := fx.2.1.2; omega
  clear hY hT fx
  obtain ⟨X, hX⟩ : ∃ X, X = x := ⟨_, rfl⟩
  rw [← hX] at NT TE TK ⊢
  have HX := Lib.hid hX
  have TK := Lib.hid TK
  have FR := Lib.hid (show x.fr = X.fr by rw [hX])
  have LA := Lib.hid (show x.last = X.last by rw [hX])
  clear hX
  obtain ⟨nm, fr, last, ⟨mo, ki, wd, da, ti, re⟩, save, le⟩ := x
  simp only at f1 f2 l1 l2
  replace LY := Lib.hid (fun W => (show Calls Tryz.prog 173 #[.agg #[.string nm, .int .i64 fr, .int .i64 last, .int .i64 mo, .int .i64 ki, .int .i64 wd, .int .i64 da, .int .i64 ti, .int .i64 re, .int .i64 save, .string le], .int .i64 T] W (fun e w' => e = .returned (.func (.func 175) #[] #[.pointer (some ⟨W.heap.size + 1, 0, none⟩), .pointer (some ⟨W.heap.size, 0, none⟩)]) ∧ w' = (W.alloc (.cells #[.string nm, .int .i64 fr, .int .i64 last, .int .i64 mo, .int .i64 ki, .int .i64 wd, .int .i64 da, .int .i64 ti, .int .i64 re, .int .i64 save, .string le] 36)).alloc (.cells #[.int .i64 T] 2)) from LY W))
  rw [show X.val = .agg #[.string nm, .int .i64 fr, .int .i64 last, .int .i64 mo, .int .i64 ki, .int .i64 wd, .int .i64 da, .int .i64 ti, .int .i64 re, .int .i64 save, .string le] from by rw [HX.out]; rfl]
  refine (callsIn_wide (n := 7)).1 ?_
  refine callsIn_of_wp_marks Tryz.func171 rfl trivial ?_ rfl
  simp only [Tryz.ntmps171, List.size_toArray, List.length_cons, List.length_nil, Nat.reduceAdd, Nat.reduceSub, Array.replicate_succ, Array.replicate_zero, List.push_toArray, List.append_toArray, List.nil_append, List.cons_append]
  gi_upto_region 1 with (fail)
  have HW : LaW w [.string nm, .int .i64 fr, .int .i64 last, .int .i64 mo, .int .i64 ki, .int .i64 wd, .int .i64 da, .int .i64 ti, .int .i64 re, .int .i64 save, .string le] (.func (.func gT) #[] lbT) [.int .i64 0, .int .i64 0, .int .i64 0, .string ⟨#[]⟩] (.bool false) ((((w.alloc (.cells #[.string nm, .int .i64 fr, .int .i64 last, .int .i64 mo, .int .i64 ki, .int .i64 wd, .int .i64 da, .int .i64 ti, .int .i64 re, .int .i64 save, .string le] 36)).alloc (.cells #[.func (.func gT) #[] lbT] 173)).alloc (.cells #[.int .i64 0, .int .i64 0, .int .i64 0, .string ⟨#[]⟩] 95)).alloc (.cells #[.bool false] 4)) := la_boxes w _ _ _ _ _ _ _ _
  have sz : ((((w.alloc (.cells #[.string nm, .int .i64 fr, .int .i64 last, .int .i64 mo, .int .i64 ki, .int .i64 wd, .int .i64 da, .int .i64 ti, .int .i64 re, .int .i64 save, .string le] 36)).alloc (.cells #[.func (.func gT) #[] lbT] 173)).alloc (.cells #[.int .i64 0, .int .i64 0, .int .i64 0, .string ⟨#[]⟩] 95)).alloc (.cells #[.bool false] 4)).heap.size = w.heap.size + 4 := by simp
  generalize ((((w.alloc (.cells #[.string nm, .int .i64 fr, .int .i64 last, .int .i64 mo, .int .i64 ki, .int .i64 wd, .int .i64 da, .int .i64 ti, .int .i64 re, .int .i64 save, .string le] 36)).alloc (.cells #[.func (.func gT) #[] lbT] 173)).alloc (.cells #[.int .i64 0, .int .i64 0, .int .i64 0, .string ⟨#[]⟩] 95)).alloc (.cells #[.bool false] 4)) = W at *
  obtain ⟨x0, x1, x2, x3, x4, x5, x6, x7, x8, x9, x10⟩ := HW.k0.elevenC
  gi_wp2_with (refine ⟨trivial, ?_⟩; gi_at_call 173; refine (callsIn_wide.2 (LY.out _)).mono ?_; clear LY; rintro e w' ⟨rfl, rfl⟩)
  have HT := twoE_boxes W [.string nm, .int .i64 fr, .int .i64 last, .int .i64 mo, .int .i64 ki, .int .i64 wd, .int .i64 da, .int .i64 ti, .int .i64 re, .int .i64 save, .string le] [.int .i64 T] 36 2
  have hbW := HT.hb
  have c1 : ((W.alloc (.cells #[.string nm, .int .i64 fr, .int .i64 last, .int .i64 mo, .int .i64 ki, .int .i64 wd, .int .i64 da, .int .i64 ti, .int .i64 re, .int .i64 save, .string le] 36)).alloc (.cells #[.int .i64 T] 2)).cell? ⟨w.heap.size + 4, 1, none⟩ = some (.int .i64 fr) := by obtain ⟨_, h, _⟩ := HT.ka.elevenC; rw [sz] at h; exact h
  have c2 : ((W.alloc (.cells #[.string nm, .int .i64 fr, .int .i64 last, .int .i64 mo, .int .i64 ki, .int .i64 wd, .int .i64 da, .int .i64 ti, .int .i64 re, .int .i64 save, .string le] 36)).alloc (.cells #[.int .i64 T] 2)).cell? ⟨w.heap.size + 4, 2, none⟩ = some (.int .i64 last) := by obtain ⟨_, _, h, _⟩ := HT.ka.elevenC; rw [sz] at h; exact h
  have ct : ((W.alloc (.cells #[.string nm, .int .i64 fr, .int .i64 last, .int .i64 mo, .int .i64 ki, .int .i64 wd, .int .i64 da, .int .i64 ti, .int .i64 re, .int .i64 save, .string le] 36)).alloc (.cells #[.int .i64 T] 2)).cell? ⟨w.heap.size + 4 + 1, 0, none⟩ = some (.int .i64 T) := by have h := HT.kb.one.2.1; rw [sz] at h; exact h
  have sz0 : ((W.alloc (.cells #[.string nm, .int .i64 fr, .int .i64 last, .int .i64 mo, .int .i64 ki, .int .i64 wd, .int .i64 da, .int .i64 ti, .int .i64 re, .int .i64 save, .string le] 36)).alloc (.cells #[.int .i64 T] 2)).heap.size = w.heap.size + 4 + 1 + 1 := by simp [sz]
  generalize ((W.alloc (.cells #[.string nm, .int .i64 fr, .int .i64 last, .int .i64 mo, .int .i64 ki, .int .i64 wd, .int .i64 da, .int .i64 ti, .int .i64 re, .int .i64 save, .string le] 36)).alloc (.cells #[.int .i64 T] 2)) = W0 at *
  replace HW := HW.below hbW
  have LE0 := LE.out.mono HW.hb
  clear x0 x1 x2 x3 x4 x5 x6 x7 x8 x9 x10 HT hbW
  refine wpIn_rangeFunc_ownG (n := 7) rfl (by omega) (gf := 175) (lb := #[.pointer (some ⟨w.heap.size + 4 + 1, 0, none⟩), .pointer (some ⟨w.heap.size + 4, 0, none⟩)]) rfl trivial (enters_of Tryz.func175 (by kernel_rfl) rfl)
    (ly_stops (7 - 1) (by omega) (w.heap.size + 4 + 1) (w.heap.size + 4) W0.heap.size fr last T Y f1 f2 l1 l2 YR.out y1 y2 W0 LE0 (by omega) (by omega) (Nat.le_refl _) ct c1 c2) belowK_t (belowK_b (Nat.le_refl _)) (Below.refl _ _) (fun _ => rfl)
    (fun pre V => LaW w [.string nm, .int .i64 fr, .int .i64 last, .int .i64 mo, .int .i64 ki, .int .i64 wd, .int .i64 da, .int .i64 ti, .int .i64 re, .int .i64 save, .string le] (.func (.func gT) #[] lbT) [.int .i64 0, .int .i64 0, .int .i64 0, .string ⟨#[]⟩] (.bool false) V ∧ Below W0.heap.size W0 V ∧ ∀ z ∈ yrs pre, ¬ (turnIn X z ∧ PB (turnT X z) = true))
    (fun c pre V => c = .ret ∧ ∃ (pre' : List Yr) (z : Int), yrs pre = yrs pre' ++ [z] ∧ (∀ u ∈ yrs pre', ¬ (turnIn X u ∧ PB (turnT X u) = true)) ∧ (turnIn X z ∧ PB (turnT X z) = true) ∧ LaW w [.string nm, .int .i64 fr, .int .i64 last, .int .i64 mo, .int .i64 ki, .int .i64 wd, .int .i64 da, .int .i64 ti, .int .i64 re, .int .i64 save, .string le] (.func (.func gT) #[] lbT) (turnT X z).vals (.bool true) V)
    (fun s A B row hs hg hr => ⟨hs.1.grown hg (fun q e => (hr q e).1) (by omega), hs.2.1.grown hg hs.2.1.size (fun q e => (hr q e).1), hs.2.2⟩)
    (fun c s A B row hs hg hr => by
      obtain ⟨e, pre', z, h1, h2, h3, h4⟩ := hs
      exact ⟨e, pre', z, h1, h2, h3, h4.grown hg (fun q e => (hr q e).1) (by omega)⟩)
    ⟨HW, Below.refl _ _, fun z hz => by simp [yrs] at hz⟩
    (fun y => { tmps := #[.agg #[.string nm, .int .i64 fr, .int .i64 last, .int .i64 mo, .int .i64 ki, .int .i64 wd, .int .i64 da, .int .i64 ti, .int .i64 re, .int .i64 save, .string le], .int .i64 T, .func (.func gT) #[] lbT, .pointer (some ⟨w.heap.size, 0, none⟩), undef, .pointer (some ⟨w.heap.size + 1, 0, none⟩), .pointer (some ⟨w.heap.size + 1 + 1, 0, none⟩), .pointer (some ⟨w.heap.size + 1 + 1 + 1, 0, none⟩), .int .i64 y.1, undef, undef, .agg #[.string nm, .int .i64 fr, .int .i64 last, .int .i64 mo, .int .i64 ki, .int .i64 wd, .int .i64 da, .int .i64 ti, .int .i64 re, .int .i64 save, .string le], .int .i64 T, .func (.func 175) #[] #[.pointer (some ⟨w.heap.size + 4 + 1, 0, none⟩), .pointer (some ⟨w.heap.size + 4, 0, none⟩)], .int .i64 y.1, undef, undef, undef, undef, undef, undef, undef, undef, undef, undef, undef, undef, undef, undef], defers := [] }) ?assign ?body ?done ?stop
  case assign =>
    intro l x W K hK
    gi_wp2
    exact hK
  case body =>
    rintro l pre ⟨y, hy⟩ V ⟨HV, hbV, hno⟩ hlt
    have NO := Lib.hid hno
    clear hno HW
    dsimp only
    have LEV := Lib.hid (LE.out.mono HV.hb)
    have TC := fun W L => TE.out y W L
    have szV := hbV.size
    obtain ⟨x0, x1, x2, x3, x4, x5, x6, x7, x8, x9, x10⟩ := HV.k0.elevenC
    by_cases h1 : turnIn X y
    · rw [turnO_some h1] at TC
      have TKy := fun V' (k : Below w.heap.size w V') => TK.out V' k y h1
      obtain ⟨t, ht⟩ : ∃ t, t = turnT X y := ⟨_, rfl⟩
      rw [← ht] at TC TKy
      have HTT := Lib.hid ht
      clear ht
      obtain ⟨b, hb0⟩ : ∃ b, b = PB t := ⟨_, rfl⟩
      rw [← hb0] at TKy
      have HB := Lib.hid hb0
      clear hb0
      obtain ⟨ta, tr, ts, tl⟩ := t
      replace TC := Lib.hid (fun W (L : Lens W) => (show Calls Tryz.prog 174 #[.agg #[.string nm, .int .i64 fr, .int .i64 last, .int .i64 mo, .int .i64 ki, .int .i64 wd, .int .i64 da, .int .i64 ti, .int .i64 re, .int .i64 save, .string le], .int .i64 y] W (fun e w' => e = .returned (.tuple #[.agg #[.int .i64 ta, .int .i64 tr, .int .i64 ts, .string tl], .bool true]) ∧ Below W.heap.size W w') from by rw [show (Value.agg #[.string nm, .int .i64 fr, .int .i64 last, .int .i64 mo, .int .i64 ki, .int .i64 wd, .int .i64 da, .int .i64 ti, .int .i64 re, .int .i64 save, .string le]) = X.val from by rw [HX.out]; rfl]; exact TC W L))
      replace TKy := Lib.hid (fun V' (k : Below w.heap.size w V') => (show Calls Tryz.prog gT (#[.agg #[.int .i64 ta, .int .i64 tr, .int .i64 ts, .string tl]] ++ lbT) V' (RetV V' (.bool b)) from TKy V' k))
      gi_upto_region 4 with (refine ⟨trivial, ?_⟩; gi_at_call 174; refine (CallsIn.inRound l (callsIn_wide.2 (TC.out _ LEV.out))).mono ?_; clear TC; rintro e V1 ⟨rfl, hk⟩)
      have KX := Blk.new4 V1 (.int .i64 ta) (.int .i64 tr) (.int .i64 ts) (.string tl) 95
      have hkV := below_thru hk (below_box V1 (.cells #[.int .i64 ta, .int .i64 tr, .int .i64 ts, .string tl] 95))
      generalize V1.alloc (.cells #[.int .i64 ta, .int .i64 tr, .int .i64 ts, .string tl] 95) = V2 at *
      generalize V1.heap.size = q at *
      have HV2 := HV.below hkV
      clear hk x0 x1 x2 x3 x4 x5 x6 x7 x8 x9 x10
      have g1 := HV2.k1.one.2.1
      obtain ⟨_, t0, t1, t2, t3, _⟩ := KX.four
      cases b with
      | true =>
        have HIT := Lib.hid (show turnIn X y ∧ PB (turnT X y) = true from ⟨h1, by rw [← HTT.out]; exact HB.out.symm⟩)
        gi_wp2_with (refine ⟨trivial, ?_⟩; gi_at_fn gT; refine (CallsIn.inRound l (callsIn_wide.2 (TKy.out _ HV2.hb))).mono ?_; clear TKy; rintro e V3 ⟨rfl, hk3⟩; have HV3 := HV2.below hk3; have K3 := KX.below hk3; have hk4 := below_thru hkV hk3; clear t0 t1 t2 t3 g1 hk3 hkV; obtain ⟨_, t0, t1, t2, t3, _⟩ := K3.four; obtain ⟨_, r0, r1, r2, r3, e0, e1, e2, e3⟩ := HV3.k2.four; obtain ⟨_, s0, s1⟩ := HV3.k3.one)
        exact ⟨((others_of _ _ hk4).trans (others_five _ _ _ _ _ _ _ _ _ _ _)).from _, rfl, pre, y, yrs_snoc _ _, NO.out, HIT.out, by rw [← HTT.out]; exact HV3.store _ _ _ _ _⟩
      | false =>
        have MISS := Lib.hid (show ¬ (turnIn X y ∧ PB (turnT X y) = true) from fun c => by have := c.2; rw [← HTT.out, ← HB.out] at this; cases this)
        gi_wp2_with (refine ⟨trivial, ?_⟩; gi_at_fn gT; refine (CallsIn.inRound l (callsIn_wide.2 (TKy.out _ HV2.hb))).mono ?_; clear TKy; rintro e V3 ⟨rfl, hk3⟩; have HV3 := HV2.below hk3; have hk4 := below_thru hkV hk3; clear t0 t1 t2 t3 g1 hk3 hkV)
        exact ⟨(others_of _ _ hk4).from _, hk4.mono szV, HV3, hbV.trans (hk4.mono szV), fun z hz => by
          rw [yrs_snoc, List.mem_append, List.mem_singleton] at hz
          rcases hz with hz | rfl
          · exact NO.out z hz
          · exact MISS.out⟩
    · rw [turnO_none h1] at TC
      have MISS := Lib.hid (show ¬ (turnIn X y ∧ PB (turnT X y) = true) from fun c => h1 c.1)
      replace TC := Lib.hid (fun W (L : Lens W) => (show Calls Tryz.prog 174 #[.agg #[.string nm, .int .i64 fr, .int .i64 last, .int .i64 mo, .int .i64 ki, .int .i64 wd, .int .i64 da, .int .i64 ti, .int .i64 re, .int .i64 save, .string le], .int .i64 y] W (fun e w' => e = .returned (.tuple #[.agg #[.int .i64 0, .int .i64 0, .int .i64 0, .string ⟨#[]⟩], .bool false]) ∧ Below W.heap.size W w') from by rw [show (Value.agg #[.string nm, .int .i64 fr, .int .i64 last, .int .i64 mo, .int .i64 ki, .int .i64 wd, .int .i64 da, .int .i64 ti, .int .i64 re, .int .i64 save, .string le]) = X.val from by rw [HX.out]; rfl]; exact TC W L))
      gi_upto_region 4 with (refine ⟨trivial, ?_⟩; gi_at_call 174; refine (CallsIn.inRound l (callsIn_wide.2 (TC.out _ LEV.out))).mono ?_; clear TC; rintro e V1 ⟨rfl, hk⟩)
      have hkV := below_thru hk (below_box V1 (.cells #[.int .i64 0, .int .i64 0, .int .i64 0, .string ⟨#[]⟩] 95))
      generalize V1.alloc (.cells #[.int .i64 0, .int .i64 0, .int .i64 0, .string ⟨#[]⟩] 95) = V2 at *
      generalize V1.heap.size = q at *
      have HV2 := HV.below hkV
      clear hk x0 x1 x2 x3 x4 x5 x6 x7 x8 x9 x10
      gi_wp2
      refine ⟨fun _ h => (by cases h), ?_⟩
      gi_wp2
      exact ⟨(others_of _ _ hkV).from _, hkV.mono szV, HV2, hbV.trans (hkV.mono szV), fun z hz => by
          rw [yrs_snoc, List.mem_append, List.mem_singleton] at hz
          rcases hz with hz | rfl
          · exact NO.out z hz
          · exact MISS.out⟩
  case done =>
    rintro D ysl V hD hS ⟨HV, hbV, hno⟩ hK
    clear HW
    obtain ⟨_, r0, r1, r2, r3, e0, e1, e2, e3⟩ := HV.k2.four
    obtain ⟨_, s0, s1⟩ := HV.k3.one
    gi_wp2
    have HV5 := HV.store (.int .i64 0) (.int .i64 0) (.int .i64 0) (.string ⟨#[]⟩) (.bool false)
    have hK5 := (others_five V ⟨w.heap.size + 1 + 1, 0, none⟩ ⟨w.heap.size + 1 + 1, 1, none⟩ ⟨w.heap.size + 1 + 1, 2, none⟩ ⟨w.heap.size + 1 + 1, 3, none⟩ ⟨w.heap.size + 1 + 1 + 1, 0, none⟩ (.int .i64 0) (.int .i64 0) (.int .i64 0) (.string ⟨#[]⟩) (.bool false)).same D _ hK rfl
    generalize (((((V.setCell ⟨w.heap.size + 1 + 1, 0, none⟩ (.int .i64 0)).setCell ⟨w.heap.size + 1 + 1, 1, none⟩ (.int .i64 0)).setCell ⟨w.heap.size + 1 + 1, 2, none⟩ (.int .i64 0)).setCell ⟨w.heap.size + 1 + 1, 3, none⟩ (.string ⟨#[]⟩)).setCell ⟨w.heap.size + 1 + 1 + 1, 0, none⟩ (.bool false)) = V5 at *
    refine ⟨by simp, .inl ⟨_, _, rfl, run_takeDeferred hK5, ?_⟩⟩
    have HV6 := HV5.grown (grownBy_putObj' V5 D (.deferred none)) (b := D) (fun q e => by cases e; exact Nat.le_refl _) (by omega)
    obtain ⟨_, P0, P1, P2, P3, _⟩ := HV6.k2.four
    obtain ⟨_, P4, _⟩ := HV6.k3.one
    refine ⟨.tuple #[.agg #[.int .i64 0, .int .i64 0, .int .i64 0, .string ⟨#[]⟩], .bool false], by simp [results, Tryz.results171, go_sem, P0, P1, P2, P3, P4], none, ?_, rfl, HV6.hb⟩
    refine latest_none NT.out (ys := ysl) ?_ hno
    rw [← FR.out, ← LA.out]
    exact hS
  case stop =>
    rintro D c pre V hD hS ⟨rfl, pre', z, e1, no, hit, HV⟩ hK
    clear HW
    gi_wp2
    refine ⟨by simp, .inl ⟨_, _, rfl, run_takeDeferred hK, ?_⟩⟩
    have HV6 := HV.grown (grownBy_putObj' V D (.deferred none)) (b := D) (fun q e => by cases e; exact Nat.le_refl _) (by omega)
    obtain ⟨_, P0, P1, P2, P3, _⟩ := HV6.k2.four
    obtain ⟨_, P4, _⟩ := HV6.k3.one
    refine ⟨.tuple #[(turnT X z).val, .bool true], by simp [results, Tryz.results171, go_sem, P0, P1, P2, P3, P4, Tn.val, Tn.vals], some z, ?_, rfl, HV6.hb⟩
    refine latest_some NT.out (ys := pre) ?_ e1 no hit
    rw [← FR.out, ← LA.out]
    exact hS
end Go.Proofs.YtmhpnmlgfdomkaaGreatDoor
namespace Go.Proofs.YtmhpnmlgfdomkaaGreatDoor
open Go.RowKit
theorem latestE (L : List Rl) (hL : fitL L) (T : Int) (hT : In64 T) (gT : Nat) (lbT : Array Value) (eg : ∀ args w, (callFunc gT args).run Tryz.prog w = .ok (.enter gT args) w) (PB : Tn → Bool) (hP : ∀ t, PB t = true → t.at_ ≤ T + 200000) (A : Option Addr) (n c : Nat) (w : World) (hm : RulV w A n c L) (LE : Lens w)
    (TK : ∀ W, Below w.heap.size w W → ∀ i y t, isTurn L i y t → Calls Tryz.prog gT (#[t.val] ++ lbT) W (RetV W (.bool (PB t)))) :
    Calls Tryz.prog 158 #[.slice A n c, .int .i64 T, .func (.func gT) #[] lbT] w (RetTB w (latestO L (fun t => PB t = true))) := by
  have mx : n ≤ 9223372036854775807 := Nat.le_trans hm.cap hm.max
  have LN := Lib.hid (show L.length = n by have := hm.len; simpa using this)
  have HA := Lib.hid hm
  have FIT := Lib.hid hL
  have LC := Lib.hid (fun (k : Nat) (x : Rl) (hx : L[k]? = some x) W (hW : Below w.heap.size w W) => lastE x (hL x (List.mem_of_getElem? hx)) T hT gT lbT eg PB hP W (LE.mono hW) (fun V hV y hy => TK V (below_thru hW hV) k y (turnT x y) ⟨x, hx, hy, rfl⟩))
  clear hm hL TK eg hP LE hT
  go_enter Tryz.func158, Tryz.ntmps158
  go_upto_region 2 with (fail)
  have HW : AhW w [.int .i64 0, .int .i64 0, .int .i64 0, .string ⟨#[]⟩] ((w.alloc (.cells #[.int .i64 0, .int .i64 0, .int .i64 0, .string ⟨#[]⟩] 95)).alloc (.cells #[.int .i64 0, .int .i64 0, .int .i64 0, .string ⟨#[]⟩] 95)) := by
    have k1 := below_box w (.cells #[.int .i64 0, .int .i64 0, .int .i64 0, .string ⟨#[]⟩] 95)
    have k2 := below_box (w.alloc (.cells #[.int .i64 0, .int .i64 0, .int .i64 0, .string ⟨#[]⟩] 95)) (.cells #[.int .i64 0, .int .i64 0, .int .i64 0, .string ⟨#[]⟩] 95)
    have b1 := Blk.new4 (w.alloc (.cells #[.int .i64 0, .int .i64 0, .int .i64 0, .string ⟨#[]⟩] 95)) (.int .i64 0) (.int .i64 0) (.int .i64 0) (.string ⟨#[]⟩) 95
    simp only [World.size_alloc] at b1
    exact ⟨below_thru k1 k2, (Blk.new4 w (.int .i64 0) (.int .i64 0) (.int .i64 0) (.string ⟨#[]⟩) 95).below k2, b1⟩
  generalize ((w.alloc (.cells #[.int .i64 0, .int .i64 0, .int .i64 0, .string ⟨#[]⟩] 95)).alloc (.cells #[.int .i64 0, .int .i64 0, .int .i64 0, .string ⟨#[]⟩] 95)) = W0 at *
  go_wp2_with fail
  go_loopw [9, 16] (fun v9 v16 wr => ∃ (k : Nat) (b : Option Tn), k ≤ n ∧ v9 = .bool b.isSome ∧ v16 = .int .i64 k ∧ Latest (L.take k) (fun t => PB t = true) b ∧ AhW w (b.getD Tn.zero).vals wr) (fun _ v _ => n - (intOf v).toNat)
  case atStart => exact ⟨0, none, by omega, rfl, rfl, Latest.zero L _, HW⟩
  case round =>
    clear HW
    obtain ⟨k, b, hk, rfl, rfl, hR, HW⟩ := hrel
    have HR := Lib.hid hR
    clear hR
    obtain ⟨⟨ba, br, bs, bl⟩, hq⟩ : ∃ q, q = b.getD Tn.zero := ⟨_, rfl⟩
    have HQ := Lib.hid hq
    rw [← hq] at HW
    clear hq
    by_cases h4 : k < n
    · obtain ⟨x, hxx⟩ : ∃ x, L[k]? = some x := ⟨_, List.getElem?_eq_getElem (by rw [LN.out]; exact h4)⟩
      obtain ⟨g, o, ea0, hg, ca⟩ := (HA.out.below HW.hb).cells (by omega)
      subst ea0
      have ra := row_at ca (show (L.map Rl.vals)[k]? = some (Rl.vals x) by rw [List.getElem?_map, hxx]; rfl)
      have HN := Lib.hid (fun r (hr : LatestOf x (fun t => PB t = true) r) => latest_next hxx HR.out r hr)
      have LX := fun W hW => LC.out k x hxx W hW
      obtain ⟨X, hX⟩ : ∃ X, X = x := ⟨_, rfl⟩
      rw [← hX] at HN LX
      have HX := Lib.hid hX
      clear hX
      obtain ⟨nm, fr, last, ⟨mo, ki, wd, da, ti, re⟩, save, le⟩ := x
      replace LX := Lib.hid (fun W (hW : Below w.heap.size w W) => (show Calls Tryz.prog 171 #[.agg #[.string nm, .int .i64 fr, .int .i64 last, .int .i64 mo, .int .i64 ki, .int .i64 wd, .int .i64 da, .int .i64 ti, .int .i64 re, .int .i64 save, .string le], .int .i64 T, .func (.func gT) #[] lbT] W (fun e w' => ∃ r ta tr ts tl f, LatestOf X (fun t => PB t = true) r ∧ (⟨ta, tr, ts, tl⟩ : Tn) = (r.map (turnT X)).getD Tn.zero ∧ f = r.isSome ∧ e = .returned (.tuple #[.agg #[.int .i64 ta, .int .i64 tr, .int .i64 ts, .string tl], .bool f]) ∧ Below W.heap.size W w') from by
        rw [show (Value.agg #[.string nm, .int .i64 fr, .int .i64 last, .int .i64 mo, .int .i64 ki, .int .i64 wd, .int .i64 da, .int .i64 ti, .int .i64 re, .int .i64 save, .string le]) = X.val from by rw [HX.out]; rfl]
        refine (LX W hW).mono ?_
        rintro e w' ⟨r, hr, rfl, hk⟩
        exact ⟨r, _, _, _, _, _, hr, rfl, rfl, by cases r <;> rfl, hk⟩))
      have x0 : wr.cell? ⟨g, o + k * 11, none⟩ = some (.string nm) := ra 0 _ rfl
      have x1 : wr.cell? ⟨g, o + k * 11 + 1, none⟩ = some (.int .i64 fr) := ra 1 _ rfl
      have x2 : wr.cell? ⟨g, o + k * 11 + 2, none⟩ = some (.int .i64 last) := ra 2 _ rfl
      have x3 : wr.cell? ⟨g, o + k * 11 + 3, none⟩ = some (.int .i64 mo) := ra 3 _ rfl
      have x4 : wr.cell? ⟨g, o + k * 11 + 4, none⟩ = some (.int .i64 ki) := ra 4 _ rfl
      have x5 : wr.cell? ⟨g, o + k * 11 + 5, none⟩ = some (.int .i64 wd) := ra 5 _ rfl
      have x6 : wr.cell? ⟨g, o + k * 11 + 6, none⟩ = some (.int .i64 da) := ra 6 _ rfl
      have x7 : wr.cell? ⟨g, o + k * 11 + 7, none⟩ = some (.int .i64 ti) := ra 7 _ rfl
      have x8 : wr.cell? ⟨g, o + k * 11 + 8, none⟩ = some (.int .i64 re) := ra 8 _ rfl
      have x9 : wr.cell? ⟨g, o + k * 11 + 9, none⟩ = some (.int .i64 save) := ra 9 _ rfl
      have x10 : wr.cell? ⟨g, o + k * 11 + 10, none⟩ = some (.string le) := ra 10 _ rfl
      clear ca ra hxx
      go_upto_region 6 with (fail)
      have KR := blk_lit wr 36 [.string nm, .int .i64 fr, .int .i64 last, .int .i64 mo, .int .i64 ki, .int .i64 wd, .int .i64 da, .int .i64 ti, .int .i64 re, .int .i64 save, .string le]
      have hkR := below_box wr (.cells #[.string nm, .int .i64 fr, .int .i64 last, .int .i64 mo, .int .i64 ki, .int .i64 wd, .int .i64 da, .int .i64 ti, .int .i64 re, .int .i64 save, .string le] 36)
      replace HW := HW.below hkR
      clear x0 x1 x2 x3 x4 x5 x6 x7 x8 x9 x10 hkR
      generalize wr.alloc (.cells #[.string nm, .int .i64 fr, .int .i64 last, .int .i64 mo, .int .i64 ki, .int .i64 wd, .int .i64 da, .int .i64 ti, .int .i64 re, .int .i64 save, .string le] 36) = W at *
      generalize wr.heap.size = q at *
      obtain ⟨y0, y1, y2, y3, y4, y5, y6, y7, y8, y9, y10⟩ := KR.elevenC
      go_upto_region 7 with (go_at_call 171; refine (LX.out _ HW.hb).mono ?_; clear LX; rintro e W9 ⟨r, ta, tr, ts, tl, f, hr, ht, hf, rfl, hk⟩; replace HW := HW.below hk; clear y0 y1 y2 y3 y4 y5 y6 y7 y8 y9 y10 hk KR)
      have KT := Blk.new4 W9 (.int .i64 ta) (.int .i64 tr) (.int .i64 ts) (.string tl) 95
      replace HW := HW.alloc (.cells #[.int .i64 ta, .int .i64 tr, .int .i64 ts, .string tl] 95)
      generalize W9.alloc (.cells #[.int .i64 ta, .int .i64 tr, .int .i64 ts, .string tl] 95) = W1 at *
      generalize W9.heap.size = q2 at *
      obtain ⟨_, q0, q1, q2, q3, _⟩ := KT.four
      obtain ⟨_, b0, b1, b2, b3, e0, e1, e2, e3⟩ := HW.k1.four
      have LO := Lib.hid (HN.out r hr)
      clear HN hr
      cases r with
      | none =>
        obtain rfl : f = false := hf
        clear ht
        go_wp2
        go_roundw
        case rel => exact ⟨k + 1, b, by omega, rfl, int_eqS (by omega), LO.out, HQ.out ▸ HW⟩
        case measure => simp only [intOf]; omega
      | some y =>
        obtain rfl : f = true := hf
        have HT := Lib.hid (show (⟨ta, tr, ts, tl⟩ : Tn) = turnT X y from ht)
        clear ht
        cases b with
        | none =>
          go_wp2
          go_roundw
          case rel => exact ⟨k + 1, some ⟨ta, tr, ts, tl⟩, by omega, rfl, int_eqS (by omega), by rw [HT.out]; exact LO.out, HW.store _ _ _ _⟩
          case measure => simp only [intOf]; omega
        | some bt =>
          by_cases h8 : ba ≤ ta
          · have d8 : decide (ba ≤ ta) = true := decide_eq_true h8
            have L2 := Lib.hid (show Latest (L.take (k + 1)) (fun t => PB t = true) (some ⟨ta, tr, ts, tl⟩) from by
              rw [HT.out, ← nextO_up (x := X) (y := y) (b := bt) (by rw [← HT.out, show bt = ⟨ba, br, bs, bl⟩ from HQ.out.symm]; exact h8)]
              exact LO.out)
            go_wp2
            go_roundw
            case rel => exact ⟨k + 1, some ⟨ta, tr, ts, tl⟩, by omega, rfl, int_eqS (by omega), L2.out, HW.store _ _ _ _⟩
            case measure => simp only [intOf]; omega
          · have d8 : decide (ba ≤ ta) = false := decide_eq_false h8
            have L2 := Lib.hid (show Latest (L.take (k + 1)) (fun t => PB t = true) (some bt) from by
              rw [← nextO_old (x := X) (y := y) (b := bt) (by rw [← HT.out, show bt = ⟨ba, br, bs, bl⟩ from HQ.out.symm]; exact h8)]
              exact LO.out)
            go_wp2
            go_roundw
            case rel => exact ⟨k + 1, some bt, by omega, rfl, int_eqS (by omega), L2.out, HQ.out ▸ HW⟩
            case measure => simp only [intOf]; omega
    · obtain rfl : k = n := by omega
      have E := Lib.hid (show latestO L (fun t => PB t = true) = b from latestO_of (by have := HR.out; rw [← LN.out, List.take_length] at this; exact this))
      clear HR
      obtain ⟨_, b0, b1, b2, b3, _⟩ := HW.k1.four
      obtain ⟨_, r0, r1, r2, r3, f0, f1, f2, f3⟩ := HW.k0.four
      go_wp2
      obtain ⟨_, P0, P1, P2, P3, _⟩ := (HW.k0.self4 (.int .i64 ba) (.int .i64 br) (.int .i64 bs) (.string bl)).four
      have HB := (((HW.hb.setCell (p := ⟨w.heap.size, 0, none⟩) (Nat.le_refl _) (.int .i64 ba)).setCell (p := ⟨w.heap.size, 1, none⟩) (Nat.le_refl _) (.int .i64 br)).setCell (p := ⟨w.heap.size, 2, none⟩) (Nat.le_refl _) (.int .i64 bs)).setCell (p := ⟨w.heap.size, 3, none⟩) (Nat.le_refl _) (.string bl)
      exact bodyPost_ret (v := .tuple #[.agg #[.int .i64 ba, .int .i64 br, .int .i64 bs, .string bl], .bool b.isSome]) (by simp [results, Tryz.results158, go_sem, P0, P1, P2, P3]) rfl ⟨by rw [E.out, ← HQ.out]; rfl, HB⟩
theorem aheadKE (t : Tn) (a : Int) (B : Nat) (W : World) (hc : W.cell? ⟨B, 0, none⟩ = some (.int .i64 a)) : Calls Tryz.prog 159 (#[t.val] ++ #[.pointer (some ⟨B, 0, none⟩)]) W (RetV W (.bool (decide (t.at_ < a)))) := by
  obtain ⟨ta, tr, ts, tl⟩ := t
  show Calls Tryz.prog 159 #[.agg #[.int .i64 ta, .int .i64 tr, .int .i64 ts, .string tl], .pointer (some ⟨B, 0, none⟩)] W (RetV W (.bool (decide (ta < a))))
  have lt := World.block_lt_of_cell? _ _ hc
  go_enter Tryz.func159, Tryz.ntmps159
  go_upto_region 1 with (fail)
  have KB := Blk.new4 W (.int .i64 ta) (.int .i64 tr) (.int .i64 ts) (.string tl) 95
  have hb := below_box W (.cells #[.int .i64 ta, .int .i64 tr, .int .i64 ts, .string tl] 95)
  have hc2 := (hb.cell (p := ⟨B, 0, none⟩) lt).trans hc
  generalize W.alloc (.cells #[.int .i64 ta, .int .i64 tr, .int .i64 ts, .string tl] 95) = W1 at *
  obtain ⟨_, b0, _⟩ := KB.four
  go_wp2
  go_ret
  exact ⟨rfl, hb⟩
theorem aheadO_B (L : List Rl) (a : Int) : latestO L (fun t => decide (t.at_ < a) = true) = aheadO L a := by
  unfold aheadO
  congr 1
  funext t
  exact propext decide_eq_true_iff
theorem RetTB.lit {o : Option Tn} {ta tr ts : Int} {tl : ByteArray} {f : Bool} (h : (⟨ta, tr, ts, tl⟩ : Tn) = o.getD Tn.zero) (k : f = o.isSome) {w : World} {e : Ending} {w' : World} (r : RetTB w o e w') : e = .returned (.tuple #[.agg #[.int .i64 ta, .int .i64 tr, .int .i64 ts, .string tl], .bool f]) ∧ Below w.heap.size w w' := by
  obtain ⟨h1, h2⟩ := r
  refine ⟨?_, h2⟩
  rw [h1, ← h, k]
  rfl
theorem aheadIE (L : List Rl) (hL : fitL L) (a : Int) (ha : In64 a) (A : Option Addr) (n c : Nat) (w : World) (hm : RulV w A n c L) (LE : Lens w) : Calls Tryz.prog 149 #[.slice A n c, .int .i64 a] w (RetTB w (aheadO L a)) := by
  have LC := fun W (hW : Below w.heap.size w W) B (hB : W.cell? ⟨B, 0, none⟩ = some (.int .i64 a)) => latestE L hL a ha 159 #[.pointer (some ⟨B, 0, none⟩)] (enters_of Tryz.func159 (by kernel_rfl) rfl) (fun t => decide (t.at_ < a)) (fun t h => by have := of_decide_eq_true h; omega) A n c W (hm.below hW) (LE.mono hW)
    (fun V hV _ _ t _ => aheadKE t a B V ((hV.cell (p := ⟨B, 0, none⟩) (World.block_lt_of_cell? _ _ hB)).trans hB))
  rw [aheadO_B] at LC
  clear hm hL LE ha
  generalize aheadO L a = r at *
  obtain ⟨⟨ta, tr, ts, tl⟩, hq⟩ : ∃ q, q = r.getD Tn.zero := ⟨_, rfl⟩
  obtain ⟨f, hf⟩ : ∃ f, f = r.isSome := ⟨_, rfl⟩
  have EN := Lib.hid (show ∀ w', Below w.heap.size w w' → RetTB w r (.returned (.tuple #[.agg #[.int .i64 ta, .int .i64 tr, .int .i64 ts, .string tl], .bool f])) w' from fun w' h => ⟨by rw [← hq, hf]; rfl, h⟩)
  replace LC := Lib.hid (fun W (hW : Below w.heap.size w W) B (hB : W.cell? ⟨B, 0, none⟩ = some (.int .i64 a)) => (LC W hW B hB).mono (fun _ _ h => h.lit hq hf))
  clear hq hf
  go_enter Tryz.func149, Tryz.ntmps149
  go_upto_region 1 with (fail)
  have HT := twoE_boxes w [.int .i64 a] [.int .i64 0, .int .i64 0, .int .i64 0, .string ⟨#[]⟩] 2 95
  rw [show ([.int .i64 a] : List Value).toArray = #[.int .i64 a] from rfl, show ([.int .i64 0, .int .i64 0, .int .i64 0, .string ⟨#[]⟩] : List Value).toArray = #[.int .i64 0, .int .i64 0, .int .i64 0, .string ⟨#[]⟩] from rfl] at HT
  generalize ((w.alloc (.cells #[.int .i64 a] 2)).alloc (.cells #[.int .i64 0, .int .i64 0, .int .i64 0, .string ⟨#[]⟩] 95)) = W0 at *
  have a0 := HT.ka.one.2.1
  go_wp2_with (go_at_call 158; refine (LC.out _ HT.hb _ a0).mono ?_; clear LC; rintro e W9 ⟨rfl, hk⟩; replace HT := HT.below hk; clear hk a0; obtain ⟨_, r0, r1, r2, r3, f0, f1, f2, f3⟩ := HT.kb.four)
  obtain ⟨_, P0, P1, P2, P3, _⟩ := (HT.kb.self4 (.int .i64 ta) (.int .i64 tr) (.int .i64 ts) (.string tl)).four
  have HB := (((HT.hb.setCell (p := ⟨w.heap.size + 1, 0, none⟩) (by show _ ≤ w.heap.size + 1; omega) (.int .i64 ta)).setCell (p := ⟨w.heap.size + 1, 1, none⟩) (by show _ ≤ w.heap.size + 1; omega) (.int .i64 tr)).setCell (p := ⟨w.heap.size + 1, 2, none⟩) (by show _ ≤ w.heap.size + 1; omega) (.int .i64 ts)).setCell (p := ⟨w.heap.size + 1, 3, none⟩) (by show _ ≤ w.heap.size + 1; omega) (.string tl)
  exact bodyPost_ret (v := .tuple #[.agg #[.int .i64 ta, .int .i64 tr, .int .i64 ts, .string tl], .bool f]) (by simp [results, Tryz.results149, go_sem, P0, P1, P2, P3]) rfl (EN.out _ HB)
theorem aheadAE (L : List Rl) (a : Int) (ha : In64 a) (A : Option Addr) (n c : Nat) (w : World) (hm : RulV w A n c L) (LE : Lens w) : Calls Tryz.prog 137 #[.slice A n c, .int .i64 a] w (RetTB w (aheadR L a)) := by
  have RP := fun W (h : RulV W A n c L) => rightPE L A n c W h
  have HA := Lib.hid hm
  cases hf : fitB L with
  | false =>
    rw [hf] at RP
    have EN := Lib.hid (show aheadR L a = none from by unfold aheadR; rw [if_neg (by rw [hf]; decide)])
    have RP := Lib.hid RP
    clear hf hm LE
    go_enter Tryz.func137, Tryz.ntmps137
    go_upto_region 1 with (fail)
    have KB := Blk.new4 w (.int .i64 0) (.int .i64 0) (.int .i64 0) (.string ⟨#[]⟩) 95
    have hb := below_box w (.cells #[.int .i64 0, .int .i64 0, .int .i64 0, .string ⟨#[]⟩] 95)
    generalize w.alloc (.cells #[.int .i64 0, .int .i64 0, .int .i64 0, .string ⟨#[]⟩] 95) = W0 at *
    go_wp2_with (go_at_call 113; refine (RP.out _ (HA.out.below hb)).mono ?_; clear RP; rintro e W9 ⟨rfl, hk⟩; replace hb := below_thru hb hk; replace KB := KB.below hk; clear hk; obtain ⟨_, r0, r1, r2, r3, f0, f1, f2, f3⟩ := KB.four)
    obtain ⟨_, P0, P1, P2, P3, _⟩ := (KB.self4 (.int .i64 0) (.int .i64 0) (.int .i64 0) (.string ⟨#[]⟩)).four
    have HB := (((hb.setCell (p := ⟨w.heap.size, 0, none⟩) (Nat.le_refl _) (.int .i64 0)).setCell (p := ⟨w.heap.size, 1, none⟩) (Nat.le_refl _) (.int .i64 0)).setCell (p := ⟨w.heap.size, 2, none⟩) (Nat.le_refl _) (.int .i64 0)).setCell (p := ⟨w.heap.size, 3, none⟩) (Nat.le_refl _) (.string ⟨#[]⟩)
    exact bodyPost_ret (v := .tuple #[.agg #[.int .i64 0, .int .i64 0, .int .i64 0, .string ⟨#[]⟩], .bool false]) (by simp [results, Tryz.results137, go_sem, P0, P1, P2, P3]) rfl ⟨by rw [EN.out]; rfl, HB⟩
  | true =>
    rw [hf] at RP
    have AI := fun W (hW : Below w.heap.size w W) => aheadIE L (fit_yes.1 hf) a ha A n c W (hm.below hW) (LE.mono hW)
    have ER := Lib.hid (show aheadR L a = aheadO L a from by unfold aheadR; rw [if_pos hf])
    clear hf hm LE ha
    generalize aheadO L a = r at *
    obtain ⟨⟨ta, tr, ts, tl⟩, hq⟩ : ∃ q, q = r.getD Tn.zero := ⟨_, rfl⟩
    obtain ⟨f, hf⟩ : ∃ f, f = r.isSome := ⟨_, rfl⟩
    have EN := Lib.hid (show ∀ w', Below w.heap.size w w' → RetTB w (aheadR L a) (.returned (.tuple #[.agg #[.int .i64 ta, .int .i64 tr, .int .i64 ts, .string tl], .bool f])) w' from fun w' h => ⟨by rw [ER.out, ← hq, hf]; rfl, h⟩)
    replace AI := Lib.hid (fun W (hW : Below w.heap.size w W) => (AI W hW).mono (fun _ _ h => h.lit hq hf))
    have RP := Lib.hid RP
    clear hq hf ER
    go_enter Tryz.func137, Tryz.ntmps137
    go_upto_region 1 with (fail)
    have KB := Blk.new4 w (.int .i64 0) (.int .i64 0) (.int .i64 0) (.string ⟨#[]⟩) 95
    have hb := below_box w (.cells #[.int .i64 0, .int .i64 0, .int .i64 0, .string ⟨#[]⟩] 95)
    generalize w.alloc (.cells #[.int .i64 0, .int .i64 0, .int .i64 0, .string ⟨#[]⟩] 95) = W0 at *
    go_wp2_with (first
      | (go_at_call 113; refine (RP.out _ (HA.out.below hb)).mono ?_; clear RP; rintro e W9 ⟨rfl, hk⟩; replace hb := below_thru hb hk; replace KB := KB.below hk; clear hk)
      | (go_at_call 149; refine (AI.out _ hb).mono ?_; clear AI; rintro e W8 ⟨rfl, hk⟩; replace hb := below_thru hb hk; replace KB := KB.below hk; clear hk; obtain ⟨_, r0, r1, r2, r3, f0, f1, f2, f3⟩ := KB.four))
    obtain ⟨_, P0, P1, P2, P3, _⟩ := (KB.self4 (.int .i64 ta) (.int .i64 tr) (.int .i64 ts) (.string tl)).four
    have HB := (((hb.setCell (p := ⟨w.heap.size, 0, none⟩) (Nat.le_refl _) (.int .i64 ta)).setCell (p := ⟨w.heap.size, 1, none⟩) (Nat.le_refl _) (.int .i64 tr)).setCell (p := ⟨w.heap.size, 2, none⟩) (Nat.le_refl _) (.int .i64 ts)).setCell (p := ⟨w.heap.size, 3, none⟩) (Nat.le_refl _) (.string tl)
    exact bodyPost_ret (v := .tuple #[.agg #[.int .i64 ta, .int .i64 tr, .int .i64 ts, .string tl], .bool f]) (by simp [results, Tryz.results137, go_sem, P0, P1, P2, P3]) rfl (EN.out _ HB)
end Go.Proofs.YtmhpnmlgfdomkaaGreatDoor
