/- Stage 11's laws: package rules is alive. -/
import Derived.Test.YtkkdclibbdeejaaDoorXGea
import Derived.Test.YtkkdclibbdeejaaDoorXMem
set_option maxRecDepth 100000
set_option maxHeartbeats 64000000
namespace Go.Proofs.YtkkdclibbdeejaaDoor
open Go.RowKit
structure RulesQ (M : Nat) (Q : World → Prop) : Prop where
  mono : ∀ (w W : World), Q w → Below w.heap.size w W → Q W
  right : ∀ (A : Option Addr) (n c : Nat) (L : List Rl) (W : World), RulV W A n c L → Q W → Calls Tryd.prog 12 #[.slice A n c] W (RetV W (.bool (fitB L)))
  crowded : ∀ (A : Option Addr) (n c : Nat) (L : List Rl) (W : World), RulV W A n c L → Q W → Calls Tryd.prog 16 #[.slice A n c] W (RetV W (.bool (crowdB L)))
  near : ∀ (A : Option Addr) (n c : Nat) (L : List Rl) (W : World), RulV W A n c L → Q W → Calls Tryd.prog 17 #[.slice A n c] W (RetV W (.bool (nearB L)))
  turns : ∀ (A : Option Addr) (n c : Nat) (L : List Rl) (y : Int) (W : World), RulV W A n c L → n ≤ M → Q W → Calls Tryd.prog 10 #[.slice A n c, .int .i64 y] W (RetTn W (turnsR L y))
  ahead : ∀ (A : Option Addr) (n c : Nat) (L : List Rl) (a : Int) (_ : In64 a) (W : World), RulV W A n c L → Q W → Calls Tryd.prog 19 #[.slice A n c, .int .i64 a] W (RetTB W (aheadR L a))
  force : ∀ (A : Option Addr) (n c : Nat) (L : List Rl) (off T : Int) (_ : In64 off) (_ : In64 T) (W : World), RulV W A n c L → Q W → Calls Tryd.prog 21 #[.slice A n c, .int .i64 off, .int .i64 T] W (RetIS W (forceF L off T))
theorem RetTB.wide {o : Option Tn} {ta tr ts : Int} {tl : ByteArray} {f : Bool} (h : (⟨ta, tr, ts, tl⟩ : Tn) = o.getD Tn.zero) (k : f = o.isSome) {w : World} {e : Ending} {w' : World} (r : RetTB w o e w') : e = .returned (.tuple #[.agg #[.int .i64 ta, .int .i64 tr, .int .i64 ts, .string tl], .bool f]) ∧ Below w.heap.size w w' := by
  obtain ⟨h1, h2⟩ := r
  refine ⟨?_, h2⟩
  rw [h1, ← h, k]
  rfl
theorem rl_len (x : Rl) : x.vals.length = 11 := rfl
theorem us_cell {i j : Nat} {u : Value} (hi : i < (usL.map Rl.vals).length) (h : (usL.map Rl.vals)[i][j]? = some u) : (usA.vals ++ usB.vals)[i * 11 + j]? = some u := by
  have hi2 : i < 2 := hi
  rcases (by omega : i = 0 ∨ i = 1) with rfl | rfl
  · have hj : j < 11 := (List.getElem?_eq_some_iff.1 h).1
    rw [Nat.zero_mul, Nat.zero_add, List.getElem?_append_left (by rw [rl_len]; exact hj)]
    exact h
  · rw [List.getElem?_append_right (by rw [rl_len]; omega), rl_len, Nat.one_mul, Nat.add_sub_cancel_left]
    exact h
theorem usE (w : World) : Calls Tryd.prog 24 #[] w (fun e w' => ∃ B, e = .returned (.slice (some ⟨B, 0, none⟩) 2 2) ∧ RulV w' (some ⟨B, 0, none⟩) 2 2 usL ∧ Below w.heap.size w w') := by
  have FIN := Lib.hid (show RulV (w.alloc (.cells (usA.vals ++ usB.vals).toArray 33)) (some ⟨w.heap.size, 0, none⟩) 2 2 usL ∧ Below w.heap.size w (w.alloc (.cells (usA.vals ++ usB.vals).toArray 33)) from by
    have KN := blk_news (blk_lit w 33 (usA.vals ++ usB.vals))
    refine ⟨⟨rfl, Nat.le_refl _, by unfold maxLen; omega, fun _ => ⟨w.heap.size, 0, rfl, by rw [World.size_alloc]; omega, fun i hi j u hu => ?_⟩⟩, below_box w _⟩
    have := KN _ u (us_cell hi hu)
    rw [addr_add, Nat.zero_add] at this
    rw [Nat.zero_add]
    exact this)
  go_enter Tryd.func24, Tryd.ntmps24
  go_wp2
  go_ret
  exact ⟨w.heap.size, rfl, FIN.out.1, FIN.out.2⟩
theorem usT_rows {w : World} {A : Option Addr} {n c : Nat} {l : List Tn} {t : Tn} (h : Rs 4 w A n c (l.map Tn.vals)) {i : Nat} (ht : l[i]? = some t) : ∃ g o, A = some ⟨g, o, none⟩ ∧ g < w.heap.size ∧ l.length = n ∧ w.cell? ⟨g, o + i * 4, none⟩ = some (.int .i64 t.at_) ∧ w.cell? ⟨g, o + i * 4 + 1, none⟩ = some (.int .i64 t.re) ∧ w.cell? ⟨g, o + i * 4 + 2, none⟩ = some (.int .i64 t.save) ∧ w.cell? ⟨g, o + i * 4 + 3, none⟩ = some (.string t.letter) := by
  have hl : l.length = n := by have := h.len; simpa using this
  have hi := (List.getElem?_eq_some_iff.1 ht).1
  obtain ⟨g, o, e, hg, ca⟩ := h.cells (by omega)
  have ra := row_at ca (show (l.map Tn.vals)[i]? = some (Tn.vals t) by rw [List.getElem?_map, ht]; rfl)
  exact ⟨g, o, e, hg, hl, ra 0 _ rfl, ra 1 _ rfl, ra 2 _ rfl, ra 3 _ rfl⟩
theorem alive11 {M : Nat} {Q : World → Prop} (hM : 2 ≤ M) (C : RulesQ M Q) (w : World) (LQ : Q w) : Calls Tryd.prog 9 #[] w (RetV w (.bool true)) := by
  have MO := Lib.hid C.mono
  have F1 := Lib.hid (fun B W (h : RulV W (some ⟨B, 0, none⟩) 2 2 usL) (q : Q W) => (us_f1 ▸ C.force (some ⟨B, 0, none⟩) 2 2 usL (-18000) 1615705200 (by unfold In64; decide) (by unfold In64; decide) W h q : Calls Tryd.prog 21 #[.slice (some ⟨B, 0, none⟩) 2 2, .int .i64 (-18000), .int .i64 1615705200] W (RetIS W (3600, ⟨#[68]⟩))))
  have F2 := Lib.hid (fun B W (h : RulV W (some ⟨B, 0, none⟩) 2 2 usL) (q : Q W) => (us_f2 ▸ C.force (some ⟨B, 0, none⟩) 2 2 usL (-18000) 1615705199 (by unfold In64; decide) (by unfold In64; decide) W h q : Calls Tryd.prog 21 #[.slice (some ⟨B, 0, none⟩) 2 2, .int .i64 (-18000), .int .i64 1615705199] W (RetIS W (0, ⟨#[83]⟩))))
  have TU := Lib.hid (fun B W (h : RulV W (some ⟨B, 0, none⟩) 2 2 usL) (q : Q W) => (us_t ▸ C.turns (some ⟨B, 0, none⟩) 2 2 usL 2021 W h hM q : Calls Tryd.prog 10 #[.slice (some ⟨B, 0, none⟩) 2 2, .int .i64 2021] W (RetTn W [⟨1615687200, 0, 3600, ⟨#[68]⟩⟩, ⟨1636250400, 0, 0, ⟨#[83]⟩⟩])))
  have RI := Lib.hid (fun B W (h : RulV W (some ⟨B, 0, none⟩) 2 2 usL) (q : Q W) => (us_fitB ▸ C.right (some ⟨B, 0, none⟩) 2 2 usL W h q : Calls Tryd.prog 12 #[.slice (some ⟨B, 0, none⟩) 2 2] W (RetV W (.bool true))))
  have US := Lib.hid (fun W => usE W)
  clear C
  have s1 : ((⟨#[68]⟩ : ByteArray) == ⟨#[68]⟩) = true := by decide
  have s2 : ((⟨#[83]⟩ : ByteArray) == ⟨#[83]⟩) = true := by decide
  go_enter Tryd.func9, Tryd.ntmps9
  go_upto_region 2 with (first
    | (go_at_call 24; refine (US.out _).mono ?_; rintro e w1 ⟨B1, rfl, h1, k1⟩; have L1 := MO.out _ _ LQ k1)
    | (go_at_call 21; refine (F1.out _ _ h1 L1).mono ?_; clear F1; rintro e w2 ⟨rfl, k2⟩; have L2 := MO.out _ _ L1 k2; have hb2 := below_thru k1 k2; clear h1 L1 k1 k2))
  go_upto_region 3 with (first
    | (go_at_call 24; refine (US.out _).mono ?_; rintro e w3 ⟨B3, rfl, h3, k3⟩; have L3 := MO.out _ _ L2 k3; have hb3 := below_thru hb2 k3; clear k3)
    | (go_at_call 21; refine (F2.out _ _ h3 L3).mono ?_; clear F2; rintro e w4 ⟨rfl, k4⟩; have L4 := MO.out _ _ L3 k4; have hb4 := below_thru hb3 k4; clear h3 L3 k4))
  go_upto_region 4 with (first
    | (go_at_call 24; refine (US.out _).mono ?_; rintro e w5 ⟨B5, rfl, h5, k5⟩; have L5 := MO.out _ _ L4 k5; have hb5 := below_thru hb4 k5; clear k5)
    | (go_at_call 10; refine (TU.out _ _ h5 L5).mono ?_; clear TU; rintro e w6 ⟨A6, n6, c6, rfl, h6, k6⟩; have L6 := MO.out _ _ L5 k6; have hb6 := below_thru hb5 k6; clear h5 L5 k6))
  obtain ⟨g, o, rfl, hg, ln, z0, _⟩ := usT_rows (i := 0) h6 rfl
  obtain rfl : n6 = 2 := ln.symm
  have nc := h6.cap
  rw [Nat.zero_mul, Nat.add_zero] at z0
  clear h6
  go_wp2_with (first
    | (go_at_call 24; refine (US.out _).mono ?_; rintro e w7 ⟨B7, rfl, h7, k7⟩; have L7 := MO.out _ _ L6 k7; have hb7 := below_thru hb6 k7; clear k7)
    | (go_at_call 12; refine (RI.out _ _ h7 L7).mono ?_; clear RI; rintro e w8 ⟨rfl, k8⟩; have hb8 := below_thru hb7 k8; clear h7 L7 k8))
  go_ret
  exact ⟨rfl, hb8⟩
end Go.Proofs.YtkkdclibbdeejaaDoor
