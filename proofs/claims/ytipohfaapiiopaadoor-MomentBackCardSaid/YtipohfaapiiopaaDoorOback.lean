/- Stage 9's laws: what was written is read as it was. -/
import Derived.Test.YtipohfaapiiopaaDoorUalive
import Derived.Test.YtipohfaapiiopaaDoorUback
import Derived.Deep.RegionHeld3
import Derived.BigQuiet
import Derived.Outline
namespace Go.Proofs.YtipohfaapiiopaaDoor
open Go.RowKit
theorem mon3_size : ∀ k, k < 12 → (mon3.getD k ⟨#[]⟩).size ≤ 3 := by decide
theorem sp_size {x : Sp} (h : x.ok) : ∀ (i : Nat) (hi : i < (spTexts x).length), i < 3 → (spTexts x)[i].size ≤ 1000 := by
  intro i hi _
  unfold Sp.ok at h
  have a := mon3_size (x.mo - 1).toNat (by omega)
  have b : ∀ k, k < 8 → (wd3.getD k ⟨#[]⟩).size ≤ 3 := wd3_size
  have c := timeB_le x.ti (by omega) (by omega)
  have d := decB_le (n := x.da.toNat) (by omega)
  have e := b x.wd.toNat (by omega)
  have s1 : (⟨#[108, 97, 115, 116]⟩ : ByteArray).size = 4 := rfl
  have s2 : (⟨#[62, 61]⟩ : ByteArray).size = 2 := rfl
  have s3 : (⟨#[60, 61]⟩ : ByteArray).size = 2 := rfl
  have s4 : (⟨#[115]⟩ : ByteArray).size = 1 := rfl
  have s5 : (⟨#[117]⟩ : ByteArray).size = 1 := rfl
  have f : (spDay x).size ≤ 1000 := by unfold spDay; (repeat' split) <;> (try simp only [ByteArray.size_append, s1, s2, s3]) <;> omega
  have g : (spClk x).size ≤ 1000 := by unfold spClk; (repeat' split) <;> (try simp only [ByteArray.size_append, s4, s5]) <;> omega
  match i, hi with
  | 0, _ => show (mon3.getD (x.mo - 1).toNat ⟨#[]⟩).size ≤ 1000; omega
  | 1, _ => exact f
  | 2, _ => exact g
set_option maxRecDepth 100000 in
set_option maxHeartbeats 8000000 in
theorem mback_no {Q : World → Prop} (MO : ∀ (w W : World), Q w → Below w.heap.size w W → Q W) (AL : Hid (∀ W, Q W → Calls Tryd.prog 14 #[] W (RetV W (.bool true)))) (mo ki wd da ti re : Int)
    (PR : Hid (∀ W, Q W → Calls Tryd.prog 21 #[.agg #[.int .i64 mo, .int .i64 ki, .int .i64 wd, .int .i64 da, .int .i64 ti, .int .i64 re]] W (RetTx W [] 1)))
    (RI : Hid (∀ W, Q W → Calls Tryd.prog 22 #[.agg #[.int .i64 mo, .int .i64 ki, .int .i64 wd, .int .i64 da, .int .i64 ti, .int .i64 re]] W (RetV W (.bool false)))) (w : World) (L : Q w) :
    Calls Tryd.prog 8 #[.agg #[.int .i64 mo, .int .i64 ki, .int .i64 wd, .int .i64 da, .int .i64 ti, .int .i64 re]] w (RetV w (.bool true)) := by
  go_enter Tryd.func8, Tryd.ntmps8
  go_upto_region 1 with (fail)
  have KB := ((BK.nil w).more6 (.int .i64 (mo)) (.int .i64 (ki)) (.int .i64 (wd)) (.int .i64 (da)) (.int .i64 (ti)) (.int .i64 (re)) 36)
  generalize (w.alloc (.cells #[.int .i64 (mo), .int .i64 (ki), .int .i64 (wd), .int .i64 (da), .int .i64 (ti), .int .i64 (re)] 36)) = w0 at *
  obtain ⟨_, q0a, q0b, q0c, q0d, q0e, q0f, _⟩ := (KB.head).six
  go_wp2_with fail
  clear q0a q0b q0c q0d q0e q0f
  refine (PR.out _ (MO _ _ L KB.hb)).mono ?_
  rintro e w1 ⟨A, m, c, rfl, hS, k⟩
  replace KB := KB.below k
  clear k hS
  go_wp2_with fail
  refine (AL.out _ (MO _ _ L KB.hb)).mono ?_
  rintro e w3 ⟨rfl, k⟩
  replace KB := KB.below k
  clear k
  obtain ⟨_, q0a, q0b, q0c, q0d, q0e, q0f, _⟩ := (KB.head).six
  go_wp2_with fail
  clear q0a q0b q0c q0d q0e q0f
  refine (RI.out _ (MO _ _ L KB.hb)).mono ?_
  rintro e w4 ⟨rfl, k⟩
  replace KB := KB.below k
  clear k
  have HB := KB.hb
  go_wp2
  go_ret
  exact ⟨rfl, HB⟩
set_option maxRecDepth 100000 in
set_option maxHeartbeats 8000000 in
theorem mback_yes {Q : World → Prop} (MO : ∀ (w W : World), Q w → Below w.heap.size w W → Q W) (AL : Hid (∀ W, Q W → Calls Tryd.prog 14 #[] W (RetV W (.bool true)))) (mo ki wd da ti re : Int) (l : List ByteArray)
    (PR : Hid (∀ W, Q W → Calls Tryd.prog 21 #[.agg #[.int .i64 mo, .int .i64 ki, .int .i64 wd, .int .i64 da, .int .i64 ti, .int .i64 re]] W (RetTx W l 0)))
    (PA : Hid (∀ (A : Option Addr) (n c : Nat) (W : World), Ss W A n c l → Q W → Calls Tryd.prog 19 #[.slice A n c] W (fun o w' => o = .returned (.tuple #[.agg #[.int .i64 mo, .int .i64 ki, .int .i64 wd, .int .i64 da, .int .i64 ti, .int .i64 re], .int .i64 0, .int .i64 0]) ∧ Below W.heap.size W w')))
    (RI : Hid (∀ W, Q W → Calls Tryd.prog 22 #[.agg #[.int .i64 mo, .int .i64 ki, .int .i64 wd, .int .i64 da, .int .i64 ti, .int .i64 re]] W (RetV W (.bool true)))) (w : World) (L : Q w) :
    Calls Tryd.prog 8 #[.agg #[.int .i64 mo, .int .i64 ki, .int .i64 wd, .int .i64 da, .int .i64 ti, .int .i64 re]] w (RetV w (.bool true)) := by
  go_enter Tryd.func8, Tryd.ntmps8
  go_upto_region 1 with (fail)
  have KB := ((BK.nil w).more6 (.int .i64 (mo)) (.int .i64 (ki)) (.int .i64 (wd)) (.int .i64 (da)) (.int .i64 (ti)) (.int .i64 (re)) 36)
  generalize (w.alloc (.cells #[.int .i64 (mo), .int .i64 (ki), .int .i64 (wd), .int .i64 (da), .int .i64 (ti), .int .i64 (re)] 36)) = w0 at *
  obtain ⟨_, q0a, q0b, q0c, q0d, q0e, q0f, _⟩ := (KB.head).six
  go_wp2_with fail
  clear q0a q0b q0c q0d q0e q0f
  refine (PR.out _ (MO _ _ L KB.hb)).mono ?_
  rintro e w1 ⟨A, m, c, rfl, hS, k⟩
  replace KB := KB.below k
  have HS := Lib.hid hS
  clear k hS
  go_wp2_with fail
  refine (PA.out _ _ _ _ HS.out (MO _ _ L KB.hb)).mono ?_
  rintro e w3 ⟨rfl, k⟩
  replace KB := KB.below k
  clear k HS
  go_upto_region 5 with (fail)
  have g1 : w.heap.size < w3.heap.size := KB.head.lt
  replace KB := KB.more6 (.int .i64 mo) (.int .i64 ki) (.int .i64 wd) (.int .i64 da) (.int .i64 ti) (.int .i64 re) 36
  generalize w3.heap.size = g3 at *
  generalize w3.alloc (.cells #[.int .i64 mo, .int .i64 ki, .int .i64 wd, .int .i64 da, .int .i64 ti, .int .i64 re] 36) = w4 at *
  go_wp2_with fail
  refine (AL.out _ (MO _ _ L KB.hb)).mono ?_
  rintro e w5 ⟨rfl, k⟩
  replace KB := KB.below k
  clear k
  obtain ⟨_, q0a, q0b, q0c, q0d, q0e, q0f, _⟩ := (KB.head).six
  obtain ⟨_, q1a, q1b, q1c, q1d, q1e, q1f, _⟩ := (KB.tail.head).six
  go_wp2_with fail
  clear q0a q0b q0c q0d q0e q0f q1a q1b q1c q1d q1e q1f
  refine (RI.out _ (MO _ _ L KB.hb)).mono ?_
  rintro e w6 ⟨rfl, k⟩
  replace KB := KB.below k
  clear k
  have HB := KB.hb
  go_wp2
  go_ret
  exact ⟨rfl, HB⟩
theorem mbackL {Q : World → Prop} (C : MomentP True Q) (x : Sp) (hx : x.in64) (w : World) (L : Q w) :
    Calls Tryd.prog 8 #[x.val] w (RetV w (.bool true)) := by
  have AL := Lib.hid (alive9 C)
  have PR := C.print trivial x hx
  have RI := C.right x hx
  by_cases h : x.ok
  · rw [if_pos h, if_pos h] at PR
    rw [decide_eq_true h] at RI
    exact mback_yes C.mono AL x.mo x.ki x.wd x.da x.ti x.re _ (Lib.hid PR) (Lib.hid fun A n c W hs LW => C.parse6 (parse_print x h) A n c W hs (sp_size h) LW) (Lib.hid RI) w L
  · rw [if_neg h, if_neg h] at PR
    rw [decide_eq_false h] at RI
    exact mback_no C.mono AL x.mo x.ki x.wd x.da x.ti x.re (Lib.hid PR) (Lib.hid RI) w L
end Go.Proofs.YtipohfaapiiopaaDoor
