/- Package divide's iterator over a size's bits, from the highest one down: what it hands on, one after the other. -/
import Derived.RangeFuncNested
import Derived.RangeFuncBound
import Derived.RangeFuncCalls
import Derived.RangeFuncLeaves
import Derived.Shelf.Abstract
import Derived.Shelf.RegionOpen
import Derived.WalkKit
import Derived.OwnWalkIn
import Derived.TacticsInMore
import Derived.LoopNIn
import Derived.LoopIn
import Derived.Test.YtnopgdheffnfdaaVsign
namespace Go.Proofs.Ytnopgdheffnfdaa
open Go.RowKit Go.Shelf
attribute [local go_sem] Oper.semAt_some

/-- a bit -/
abbrev Bit := { x : Int // 0 ≤ x ∧ x ≤ 1 }
/-- the number of some bits, the highest one first -/
def bval (l : List Bit) : Int := l.foldl (fun s v => 2 * s + v.1) 0
theorem bval_snoc (l : List Bit) (x : Bit) : bval (l ++ [x]) = 2 * bval l + x.1 := by simp [bval]
theorem bval_nil : bval [] = 0 := rfl
theorem bval_bound (l : List Bit) : 0 ≤ bval l ∧ bval l < 2 ^ l.length := by
  obtain ⟨n, hn⟩ : ∃ n, l.length = n := ⟨_, rfl⟩
  induction n generalizing l with
  | zero =>
    obtain rfl : l = [] := List.eq_nil_of_length_eq_zero hn
    simp [bval_nil]
  | succ n ih =>
    have hne : l ≠ [] := by rintro rfl; simp at hn
    have h := ih l.dropLast (by simp [hn])
    have e := bval_snoc l.dropLast (l.getLast hne)
    rw [List.dropLast_concat_getLast hne] at e
    rw [List.length_dropLast, hn, Nat.add_sub_cancel] at h
    rw [e, hn, Int.pow_succ]
    have := (l.getLast hne).2
    omega
theorem pow_le_128 {k : Nat} (h : k ≤ 128) : (2 : Int) ^ k ≤ 340282366920938463463374607431768211456 := by
  have e : (2 : Int) ^ 128 = 340282366920938463463374607431768211456 := by decide
  rw [← e, show 128 = k + (128 - k) by omega, Int.pow_add]
  have h1 : (0 : Int) < 2 ^ k := Int.pow_pos (by decide)
  have h2 : (0 : Int) < 2 ^ (128 - k) := Int.pow_pos (by decide)
  have := Int.mul_le_mul_of_nonneg_left (show (1 : Int) ≤ 2 ^ (128 - k) by omega) (Int.le_of_lt h1)
  omega
theorem bval_in (l : List Bit) (h : l.length ≤ 128) : InS (bval l) := ⟨(bval_bound l).1, Int.lt_of_lt_of_le (bval_bound l).2 (pow_le_128 h)⟩

/-- what a round keeps: the block of the size -/
def KeptP (B : Nat) (u v : Value) (W W' : World) : Prop := W.heap.size ≤ W'.heap.size ∧ (Pair W B u v → Pair W' B u v)
theorem keptP_t {B : Nat} {u v : Value} {X Y Z : World} (h : KeptP B u v X Y) (k : KeptP B u v Y Z) : KeptP B u v X Z := ⟨Nat.le_trans h.1 k.1, fun p => k.2 (h.2 p)⟩
theorem pair_grown {B : Nat} {u v : Value} {W W' : World} {row : Option Nat} (h : Pair W B u v) (hg : W.grownBy W' row) (hr : ∀ r, row = some r → ∃ o : Obj, W.heap[r]? = some o ∧ o.isCells = false) : Pair W' B u v :=
  ⟨Nat.lt_of_lt_of_le h.lt hg.size, cell_kept h.c0 hg hr, cell_kept h.c1 hg hr, (frozen_kept h.c0 hg hr).trans h.f0, (frozen_kept h.c1 hg hr).trans h.f1⟩
theorem keptP_b {B : Nat} {u v : Value} (W : World) (l : Nat) (o o' : Obj) (h : W.heap[l]? = some o) (hc : o.isCells = false) : KeptP B u v W (W.putObj l o') :=
  ⟨(grownBy_putObj' W l o').size, fun p => pair_grown p (grownBy_putObj' W l o') (fun r e => by cases e; exact ⟨o, h, hc⟩)⟩
theorem pair_own {β : Type} (b : Nat) (f g : β → Value) : Own (fun s W => Pair W b (f s) (g s)) := fun _ _ _ _ hs hg hr => pair_grown hs hg hr
theorem grown_of_below {W W' : World} (h : Below W.heap.size W W') : W.grownBy W' none := ⟨h.os, h.tape, h.output, h.size, fun k hk _ => h.block k hk⟩
theorem others_of_below {W W' : World} (h : Below W.heap.size W W') : KeepsOthers W W' := ⟨h.size, fun k _ hk _ => (h.block k (Array.getElem?_eq_some_iff.1 hk).1).trans hk⟩

/-- the maker of the iterator: the size is boxed; the function value captures the box -/
theorem fromHighest_any (u v : Int) (w : World) : Calls Try.prog 67 #[.agg #[.int .u64 u, .int .u64 v]] w
    fun e w' => e = .returned (.func (.func 71) #[] #[.pointer (some ⟨w.heap.size, 0, none⟩)]) ∧ w' = w.alloc (.cells #[.int .u64 u, .int .u64 v] 74) := by
  go_enter Try.func67, Try.ntmps67
  go_wp2
  go_ret
  exact ⟨rfl, rfl⟩

theorem bit_step (s : Int) (k : Nat) : s / 2 ^ k = 2 * (s / 2 ^ (k + 1)) + s / 2 ^ k % 2 := by
  have e : s / 2 ^ (k + 1) = s / 2 ^ k / 2 := by rw [Int.pow_succ, Int.ediv_ediv_of_nonneg (Int.le_of_lt (Int.pow_pos (by decide)))]
  rw [e]; omega
theorem div_top {s : Int} {n : Nat} (h0 : 0 ≤ s) (h : s < 2 ^ n) : s / 2 ^ n = 0 := Int.ediv_eq_zero_of_lt h0 h

/-- what holds at the head of a round of the iterator: k bits are left -/
def BitRel (s : Int) (n B : Nat) (J : List Bit → World → Prop) (x : Value) (W : World) : Prop :=
  ∃ (k : Nat) (a : Int) (pre : List Bit), x = .int .i64 a ∧ a = (k : Int) - 1 ∧ k + pre.length = n ∧ bval pre = s / 2 ^ k ∧ J pre W ∧ Pair W B (.int .u64 (hiW s)) (.int .u64 (loW s))

set_option maxRecDepth 100000 in
set_option maxHeartbeats 2000000 in
theorem bits1 (n l B : Nat) (hn : 1 ≤ n) (s : Int) (hs : InS s) (J Jx : List Bit → World → Prop) (W : World) (hJ : AbidesFrom W.heap.size J)
    (hY : ∀ pre x W1, J pre W1 → pre.length < 128 → YieldAt Fence.wide (n - 1) Try.prog l #[.int .u64 (x : Bit).1] W1 fun e W' =>
      (e = .returned (.bool true) ∧ J (pre ++ [x]) W' ∧ KeptP B (.int .u64 (hiW s)) (.int .u64 (loW s)) W1 W') ∨ (e = .returned (.bool false) ∧ Jx (pre ++ [x]) W'))
    (hB : Pair W B (.int .u64 (hiW s)) (.int .u64 (loW s))) (h0 : J [] W) :
    CallsIn Fence.wide n Try.prog 71 #[.func (.yield l) #[] #[], .pointer (some ⟨B, 0, none⟩)] W fun e W' => (∃ v, e = .returned v) ∧
      ((∃ ys, (bval ys = s ∧ ys.length ≤ 128) ∧ J ys W') ∨ (∃ pre, True ∧ Jx pre W')) := by
  have LEN := Lib.hid (fun W => length_any s hs W)
  have BIT := Lib.hid (fun k hk W => bitAt_any s k hs hk W)
  have TOP := Lib.hid (fun k h => div_top (n := k) hs.1 h)
  clear hs
  refine callsIn_of_wp Try.func71 rfl trivial ?_ rfl
  simp only [Try.ntmps71, List.size_toArray, List.length_cons, List.length_nil, Nat.reduceAdd, Nat.reduceSub, Array.replicate_succ, Array.replicate_zero, List.push_toArray, List.append_toArray, List.nil_append, List.cons_append]
  obtain ⟨_, b0, b1, _, _⟩ := id hB
  gi_wp2_with (refine ⟨trivial, ?_⟩; gi_at_call 72; (with_reducible refine (callsIn_wide.2 (LEN.out _)).mono ?_); rintro e W1 ⟨m, rfl, hm, hx, hb⟩)
  have hJ1 := hJ [] W W1 none h0 (grown_of_below hb) (fun r e => by cases e)
  have hB1 := hB.below hb
  have T0 := TOP.out m hx
  have hsz := hb.size
  clear b0 b1 hx
  replace hJ : ∀ pre X Y, J pre X → W.heap.size ≤ X.heap.size → Below X.heap.size X Y → J pre Y := fun pre X Y hx _ k => hJ pre X Y none hx (grown_of_below k) (fun r e => by cases e)
  have HJ := Lib.hid hJ
  have HY := Lib.hid hY
  have HT := Lib.hid T0
  clear hJ hY h0 T0 LEN TOP hb
  gi_loopw [3] (fun x wr => BitRel s m B J x wr ∧ W.heap.size ≤ wr.heap.size) (fun x _ => (intOf x + 1).toNat)
  case atStart => exact ⟨⟨m, _, [], rfl, rfl, by simp, by rw [bval_nil, HT.out], hJ1, hB1⟩, hsz⟩
  case round =>
    obtain ⟨⟨k, a, pre, rfl, ha, hk, hv, hJp, hBp⟩, hsz2⟩ := hrel
    clear hJ1 hB1
    have HV := Lib.hid hv
    clear hv
    rcases k with _ | k
    · have hlt : a < 0 := by omega
      clear ha
      gi_wp2
      go_end0
      exact ⟨⟨_, rfl⟩, .inl ⟨pre, ⟨by rw [HV.out]; simp, by omega⟩, hJp⟩⟩
    · obtain rfl : a = (k : Int) := by omega
      obtain ⟨_, b0, b1, _, _⟩ := id hBp
      have HK := Lib.hid hk
      clear ha hk
      gi_wp2_with fail
      refine ⟨trivial, ?_⟩
      refine (callsIn_wide.2 (BIT.out k (by have := HK.out; omega) wr)).mono ?_
      rintro e W2 ⟨rfl, kb⟩
      have hk0 : (k : Int) < 128 := by have := HK.out; omega
      replace hJp := HJ.out _ _ _ hJp hsz2 kb
      replace hBp := hBp.below kb
      have hsz3 := Nat.le_trans hsz2 kb.size
      clear kb hsz2 b0 b1
      obtain ⟨x, hx⟩ : ∃ x : Bit, s / 2 ^ k % 2 = x.1 := ⟨⟨s / 2 ^ k % 2, by omega⟩, rfl⟩
      have HX := Lib.hid hx
      rw [hx]
      clear hx
      obtain ⟨fn, tmps, assign, body, hy, hR⟩ := HY.out pre x W2 hJp (by have := HK.out; omega)
      obtain ⟨x, hx0⟩ := x
      dsimp only at hy HX ⊢
      gi_wp2_with fail
      refine hR.mono ?_
      clear hR hy
      rintro e W3 (⟨rfl, hJ3, hk3⟩ | ⟨rfl, hx3⟩)
      · have hsz4 := Nat.le_trans hsz3 hk3.1
        replace hBp := hk3.2 hBp
        have hk1 : (k : Int) < 128 := by have := HK.out; omega
        clear hk3 hsz3
        gi_wp2
        go_roundw
        case rel => exact ⟨⟨k, _, pre ++ [⟨x, hx0⟩], rfl, rfl, by have := HK.out; simp; omega, by have := HX.out; have h := bit_step s k; rw [bval_snoc, HV.out]; show _ + x = _; omega, hJ3, hBp⟩, hsz4⟩
        case measure => simp [intOf]
      · gi_wp2
        refine bodyPost_ret (results_none rfl _ _ _) rfl ?_
        exact ⟨⟨_, rfl⟩, .inr ⟨_, trivial, hx3⟩⟩

theorem bits_stops (n B : Nat) (hn : 1 ≤ n) (s : Int) (hs : InS s) (w : World) (hB : Pair w B (.int .u64 (hiW s)) (.int .u64 (loW s))) :
    SeqStopsK Fence.wide n Try.prog 71 #[.pointer (some ⟨B, 0, none⟩)] (fun x : Bit => #[.int .u64 x.1]) (KeptP B (.int .u64 (hiW s)) (.int .u64 (loW s)))
      (fun ys => bval ys = s ∧ ys.length ≤ 128) (fun _ => True) 128 w := fun l J Jx W hW hJ _ hY h0 => bits1 n l B hn s hs J Jx W hJ hY (hB.below hW) h0
end Go.Proofs.Ytnopgdheffnfdaa
