/- The document's answer of layer 3: a quotient and a rest told as wide numbers. -/
import Derived.Test.YtgkajbelekjahaaWlaw
namespace Go.Proofs.Ytgkajbelekjahaa
open Go.RowKit

/-- the rest's halves, told beside a quotient -/
def hv2 (Q R : Int) : Int := if InW Q then hv R else 0
def lv2 (Q R : Int) : Int := if InW Q then lv R else 0
/-- What a call that answers two wide numbers and an error's number leaves. -/
def RetWWE (w : World) (Q R : Int) (e : Ending) (w' : World) : Prop :=
  e = .returned (.tuple #[.agg #[.int .i64 (hv Q), .int .u64 (lv Q)], .agg #[.int .i64 (hv2 Q R), .int .u64 (lv2 Q R)], .int .i64 (ev Q)]) ∧ Below w.heap.size w w'

/-- two numbers' blocks and two wide ones', just made -/
theorem start4 (w : World) (p q : Bool) (u v : Value) (t t' : TypeId) :
    ∃ W, W = (((w.alloc (.cells #[.bool p, u] t)).alloc (.cells #[.bool q, v] t)).alloc (.cells #[.int .i64 0, .int .u64 0] t')).alloc (.cells #[.int .i64 0, .int .u64 0] t') ∧
      Box W w.heap.size p u ∧ Box W (w.heap.size + 1) q v ∧ PairsK w [(w.heap.size + 1 + 1 + 1, .int .i64 0, .int .u64 0), (w.heap.size + 1 + 1, .int .i64 0, .int .u64 0)] W := by
  refine ⟨_, rfl, ?_, ?_, ?_⟩
  · exact (((Box.new w p u t).below' (below_alloc2 _ _)).below' (below_alloc2 _ _)).below' (below_alloc2 _ _)
  · have := ((Box.new (w.alloc (.cells #[.bool p, u] t)) q v t).below' (below_alloc2 _ (.cells #[.int .i64 0, .int .u64 0] t'))).below' (below_alloc2 _ (.cells #[.int .i64 0, .int .u64 0] t'))
    rwa [World.size_alloc] at this
  · have k : PairsK w [] ((w.alloc (.cells #[.bool p, u] t)).alloc (.cells #[.bool q, v] t)) := ((PairsK.nil w).below (below_alloc2 _ _)).below (below_alloc2 _ _)
    have := (k.more (.int .i64 0) (.int .u64 0) t').more (.int .i64 0) (.int .u64 0) t'
    simp only [World.size_alloc] at this
    exact this

set_option maxRecDepth 100000 in
set_option maxHeartbeats 4000000 in
theorem told2_any (p q : Bool) (A B : Option Addr) (n m c d : Nat) (Q R : Int) (w : World) (hq : Zs w p A n c Q) (hr : Zs w q B m d R) (hn : n ≤ 2000) (hm : m ≤ 2000) :
    Calls Try.prog 32 #[.agg #[.bool p, .slice A n c], .agg #[.bool q, .slice B m d]] w (RetWWE w Q R) := by
  have TQ := Lib.hid (fun W k => wtold_any p A n c Q W (hq.below k) hn)
  have TR := Lib.hid (fun W k => wtold_any q B m d R W (hr.below k) hm)
  clear hq hr
  have hE : (InW Q ∧ ev Q = 0 ∧ hv2 Q R = hv R ∧ lv2 Q R = lv R) ∨ (¬ InW Q ∧ hv Q = 0 ∧ lv Q = 0 ∧ ev Q = 2 ∧ hv2 Q R = 0 ∧ lv2 Q R = 0) := by
    unfold hv2 lv2 ev
    by_cases h : InW Q
    · left; simp [h]
    · right; simp [h, hv, lv]
  go_enter Try.func32, Try.ntmps32
  go_wp2_with fail
  obtain ⟨w0, hw0, b1, b2, KK⟩ := start4 w p q (.slice A n c) (.slice B m d) 42 24
  rw [← hw0]
  clear hw0
  refine (TQ.out _ KK.hb).mono ?_
  rintro e w1 ⟨rfl, k⟩
  replace KK := KK.below k
  replace b2 := b2.below' k
  clear k b1
  obtain ⟨_, c0, c1, _, _⟩ := id b2
  go_wp2_with fail
  have hltn := KK.head.lt
  replace KK := KK.more (.int .i64 (hv Q)) (.int .u64 (lv Q)) 24
  generalize hw1 : w1.alloc (.cells #[.int .i64 (hv Q), .int .u64 (lv Q)] 24) = w2 at *
  generalize hg : w1.heap.size = gn at *
  clear hw1 hg c0 c1 b2
  refine (TR.out _ KK.hb).mono ?_
  rintro e w1 ⟨rfl, k⟩
  replace KK := KK.below k
  clear k
  rcases hE with ⟨_, e1, e2, e3⟩ | ⟨_, e1, e2, e3, e4, e5⟩
  · have E2 := Lib.hid e2
    have E3 := Lib.hid e3
    have E1 := Lib.hid e1
    clear e2 e3
    go_wp2_with fail
    have hltm := KK.head.lt
    replace KK := KK.more (.int .i64 (hv R)) (.int .u64 (lv R)) 24
    generalize hw1 : w1.alloc (.cells #[.int .i64 (hv R), .int .u64 (lv R)] 24) = w2 at *
    generalize hg : w1.heap.size = gm at *
    clear hw1 hg
    obtain ⟨_, m0, m1, _, _⟩ := KK.head
    obtain ⟨_, n0, n1, _, _⟩ := KK.tail.head
    obtain ⟨_, r0, r1, f0, f1⟩ := KK.tail.tail.head
    obtain ⟨_, s0, s1, h0, h1⟩ := KK.tail.tail.tail.head
    have i1 : w.heap.size + 1 + 1 ≠ gm := by omega
    have i2 : w.heap.size + 1 + 1 ≠ gn := by omega
    have i3 : w.heap.size + 1 + 1 + 1 ≠ gm := by omega
    have i4 : w.heap.size + 1 + 1 + 1 ≠ gn := by omega
    have i5 : w.heap.size + 1 + 1 ≠ w.heap.size + 1 + 1 + 1 := by omega
    have P2 := ((KK.tail.tail.tail.head.self2 (.int .i64 (hv Q)) (.int .u64 (lv Q))).far2 (Ne.symm i5) (.int .i64 (hv R)) (.int .u64 (lv R))).drew
    have P3 := ((KK.tail.tail.head.far2 i5 (.int .i64 (hv Q)) (.int .u64 (lv Q))).self2 (.int .i64 (hv R)) (.int .u64 (lv R))).drew
    have HB := ((((KK.hb.setCell (p := ⟨w.heap.size + 1 + 1, 0, none⟩) (by show _ ≤ w.heap.size + 1 + 1; omega) (.int .i64 (hv Q))).setCell (p := ⟨w.heap.size + 1 + 1, 1, none⟩) (by show _ ≤ w.heap.size + 1 + 1; omega) (.int .u64 (lv Q))).setCell (p := ⟨w.heap.size + 1 + 1 + 1, 0, none⟩) (by show _ ≤ w.heap.size + 1 + 1 + 1; omega) (.int .i64 (hv R))).setCell (p := ⟨w.heap.size + 1 + 1 + 1, 1, none⟩) (by show _ ≤ w.heap.size + 1 + 1 + 1; omega) (.int .u64 (lv R)))
    replace HB := HB.drew
    go_region
    all_goals
      go_wp2
      exact bodyPost_ret (v := .tuple #[.agg #[.int .i64 (hv Q), .int .u64 (lv Q)], .agg #[.int .i64 (hv R), .int .u64 (lv R)], .int .i64 0]) (by simp [results, Try.results32, go_sem, P2.c0, P2.c1, P3.c0, P3.c1]) rfl ⟨by rw [E2.out, E3.out, E1.out], HB⟩
  · have E1 := Lib.hid e1
    have E2 := Lib.hid e2
    have E3 := Lib.hid e3
    have E4 := Lib.hid e4
    have E5 := Lib.hid e5
    clear e1 e2 e4 e5
    have hltm := KK.head.lt
    obtain ⟨_, r0, r1, f0, f1⟩ := KK.tail.head
    obtain ⟨_, s0, s1, h0, h1⟩ := KK.tail.tail.head
    have i5 : w.heap.size + 1 + 1 ≠ w.heap.size + 1 + 1 + 1 := by omega
    go_wp2
    have P2 := ((KK.tail.tail.head.self2 (.int .i64 0) (.int .u64 0)).far2 (Ne.symm i5) (.int .i64 0) (.int .u64 0))
    have P3 := ((KK.tail.head.far2 i5 (.int .i64 0) (.int .u64 0)).self2 (.int .i64 0) (.int .u64 0))
    have HB := ((((KK.hb.setCell (p := ⟨w.heap.size + 1 + 1, 0, none⟩) (by show _ ≤ w.heap.size + 1 + 1; omega) (.int .i64 0)).setCell (p := ⟨w.heap.size + 1 + 1, 1, none⟩) (by show _ ≤ w.heap.size + 1 + 1; omega) (.int .u64 0)).setCell (p := ⟨w.heap.size + 1 + 1 + 1, 0, none⟩) (by show _ ≤ w.heap.size + 1 + 1 + 1; omega) (.int .i64 0)).setCell (p := ⟨w.heap.size + 1 + 1 + 1, 1, none⟩) (by show _ ≤ w.heap.size + 1 + 1 + 1; omega) (.int .u64 0))
    exact bodyPost_ret (v := .tuple #[.agg #[.int .i64 0, .int .u64 0], .agg #[.int .i64 0, .int .u64 0], .int .i64 2]) (by simp [results, Try.results32, go_sem, (P2.below (below_box _ (.cells #[.int .i64 (hv R), .int .u64 (lv R)] 24))).c0, (P2.below (below_box _ (.cells #[.int .i64 (hv R), .int .u64 (lv R)] 24))).c1, (P3.below (below_box _ (.cells #[.int .i64 (hv R), .int .u64 (lv R)] 24))).c0, (P3.below (below_box _ (.cells #[.int .i64 (hv R), .int .u64 (lv R)] 24))).c1]) rfl ⟨by rw [E1.out, E2.out, E3.out, E4.out, E5.out], below_thru HB (below_box _ _)⟩
end Go.Proofs.Ytgkajbelekjahaa
