/- Stage 9's laws: a spot's texts. -/
import Derived.Test.YtipohfaapiiopaaDoorUalive
import Derived.Deep.RegionHeld3
import Derived.Outline
namespace Go.Proofs.YtipohfaapiiopaaDoor
open Go.RowKit
set_option maxRecDepth 100000 in
set_option maxHeartbeats 8000000 in
theorem prints_no {Q : World → Prop} (MO : ∀ (w W : World), Q w → Below w.heap.size w W → Q W) (AL : Hid (∀ W, Q W → Calls Tryd.prog 14 #[] W (RetV W (.bool true)))) (mo ki wd da ti re n : Int) (t : ByteArray)
    (PR : Hid (∀ W, Q W → Calls Tryd.prog 21 #[.agg #[.int .i64 mo, .int .i64 ki, .int .i64 wd, .int .i64 da, .int .i64 ti, .int .i64 re]] W (RetTx W [] 1)))
    (RI : Hid (∀ W, Q W → Calls Tryd.prog 22 #[.agg #[.int .i64 mo, .int .i64 ki, .int .i64 wd, .int .i64 da, .int .i64 ti, .int .i64 re]] W (RetV W (.bool false))))
    (RR : Hid (∀ W, Calls Tryd.prog 23 #[.agg #[.int .i64 mo, .int .i64 ki, .int .i64 wd, .int .i64 da, .int .i64 ti, .int .i64 re]] W (RetV W (.bool false))))
    (TI : Hid (∀ W, Q W → Calls Tryd.prog 24 #[.int .i64 n] W (RetV W (.string t))))
    (RT : Hid (∀ W, Calls Tryd.prog 25 #[.int .i64 n] W (RetV W (.string t)))) (w : World) (L : Q w) :
    Calls Tryd.prog 6 #[.agg #[.int .i64 mo, .int .i64 ki, .int .i64 wd, .int .i64 da, .int .i64 ti, .int .i64 re], .int .i64 n] w (RetV w (.bool true)) := by
  go_enter Tryd.func6, Tryd.ntmps6
  go_upto_region 1 with (fail)
  have KB := ((BK.nil w).more6 (.int .i64 (mo)) (.int .i64 (ki)) (.int .i64 (wd)) (.int .i64 (da)) (.int .i64 (ti)) (.int .i64 (re)) 36)
  generalize (w.alloc (.cells #[.int .i64 (mo), .int .i64 (ki), .int .i64 (wd), .int .i64 (da), .int .i64 (ti), .int .i64 (re)] 36)) = w0 at *
  obtain ⟨_, q0a, q0b, q0c, q0d, q0e, q0f, _⟩ := (KB.head).six
  go_wp2_with fail
  clear q0a q0b q0c q0d q0e q0f
  refine (PR.out _ (MO _ _ L KB.hb)).mono ?_
  rintro e w1 ⟨A, m, c, rfl, hS, k⟩
  replace KB := KB.below k
  clear k
  obtain rfl : m = 0 := hS.len.symm
  clear hS
  have KC := BK.nil w1
  go_wp2_with fail
  go_cut [27] (fun v27 wx => v27 = .bool false ∧ BK w [(w.heap.size, [.int .i64 (mo), .int .i64 (ki), .int .i64 (wd), .int .i64 (da), .int .i64 (ti), .int .i64 (re)])] wx ∧ BK w1 [] wx)
  case first =>
    obtain ⟨_, j0a, j0b, j0c, j0d, j0e, j0f, _⟩ := (KB.head).six
    go_region_held3 (fun w' => w'.cell? ⟨w.heap.size, 0, none⟩ = some (.int .i64 (mo)) ∧ w'.cell? ⟨w.heap.size, 1, none⟩ = some (.int .i64 (ki)) ∧ w'.cell? ⟨w.heap.size, 2, none⟩ = some (.int .i64 (wd)) ∧ w'.cell? ⟨w.heap.size, 3, none⟩ = some (.int .i64 (da)) ∧ w'.cell? ⟨w.heap.size, 4, none⟩ = some (.int .i64 (ti)) ∧ w'.cell? ⟨w.heap.size, 5, none⟩ = some (.int .i64 (re))) (first | (with_reducible exact ⟨(KB.head).six.2.1, (KB.head).six.2.2.1, (KB.head).six.2.2.2.1, (KB.head).six.2.2.2.2.1, (KB.head).six.2.2.2.2.2.1, (KB.head).six.2.2.2.2.2.2.1⟩) | (with_reducible exact ⟨(KB.drew.head).six.2.1, (KB.drew.head).six.2.2.1, (KB.drew.head).six.2.2.2.1, (KB.drew.head).six.2.2.2.2.1, (KB.drew.head).six.2.2.2.2.2.1, (KB.drew.head).six.2.2.2.2.2.2.1⟩) | go_keep)
    (first
      | (go_at_call 14; (with_reducible refine (AL.out _ (MO _ _ L (by with_reducible first | exact KB.hb | exact KB.drew.hb))).mono ?_); rintro e W9 ⟨rfl, k⟩
         with_reducible (first | replace KB := KB.below k | replace KB := KB.drew.below k)
         with_reducible (first | replace KC := KC.below k | replace KC := KC.drew.below k)
         clear k
         obtain ⟨_, k0a, k0b, k0c, k0d, k0e, k0f, _⟩ := (KB.head).six)
      | (go_at_call 22; (with_reducible refine (RI.out _ (MO _ _ L (by with_reducible first | exact KB.hb | exact KB.drew.hb))).mono ?_); rintro e W9 ⟨rfl, k⟩
         with_reducible (first | replace KB := KB.below k | replace KB := KB.drew.below k)
         with_reducible (first | replace KC := KC.below k | replace KC := KC.drew.below k)
         clear k
         obtain ⟨_, k0a, k0b, k0c, k0d, k0e, k0f, _⟩ := (KB.head).six)
      | (go_at_call 23; (with_reducible refine (RR.out _).mono ?_); rintro e W9 ⟨rfl, k⟩
         with_reducible (first | replace KB := KB.below k | replace KB := KB.drew.below k)
         with_reducible (first | replace KC := KC.below k | replace KC := KC.drew.below k)
         clear k
         obtain ⟨_, k0a, k0b, k0c, k0d, k0e, k0f, _⟩ := (KB.head).six)
      | (go_at_call 24; (with_reducible refine (TI.out _ (MO _ _ L (by with_reducible first | exact KB.hb | exact KB.drew.hb))).mono ?_); rintro e W9 ⟨rfl, k⟩
         with_reducible (first | replace KB := KB.below k | replace KB := KB.drew.below k)
         with_reducible (first | replace KC := KC.below k | replace KC := KC.drew.below k)
         clear k
         obtain ⟨_, k0a, k0b, k0c, k0d, k0e, k0f, _⟩ := (KB.head).six)
      | (go_at_call 25; (with_reducible refine (RT.out _).mono ?_); rintro e W9 ⟨rfl, k⟩
         with_reducible (first | replace KB := KB.below k | replace KB := KB.drew.below k)
         with_reducible (first | replace KC := KC.below k | replace KC := KC.drew.below k)
         clear k
         obtain ⟨_, k0a, k0b, k0c, k0d, k0e, k0f, _⟩ := (KB.head).six)
    )
    all_goals
      go_wp2_with fail
      go_meet
      with_reducible first | exact ⟨rfl, KB, KC⟩ | exact ⟨rfl, KB.drew, KC.drew⟩
  case rest =>
  obtain ⟨rfl, KB', KC'⟩ := hcut
  clear KB KC
  have KB := KB'
  have KC := KC'
  clear KB' KC'
  obtain ⟨_, q0a, q0b, q0c, q0d, q0e, q0f, _⟩ := (KB.head).six
  go_wp2_with fail
  clear q0a q0b q0c q0d q0e q0f
  refine (RR.out _).mono ?_
  rintro e w1 ⟨rfl, k⟩
  replace KB := KB.below k
  clear k
  have HB := KB.hb
  go_wp2
  go_ret
  exact ⟨rfl, HB⟩
set_option maxRecDepth 100000 in
set_option maxHeartbeats 8000000 in
theorem prints_yes {Q : World → Prop} (MO : ∀ (w W : World), Q w → Below w.heap.size w W → Q W) (AL : Hid (∀ W, Q W → Calls Tryd.prog 14 #[] W (RetV W (.bool true)))) (mo ki wd da ti re n : Int) (t : ByteArray) (l : List ByteArray) (hl : l.length = 3)
    (PR : Hid (∀ W, Q W → Calls Tryd.prog 21 #[.agg #[.int .i64 mo, .int .i64 ki, .int .i64 wd, .int .i64 da, .int .i64 ti, .int .i64 re]] W (RetTx W l 0)))
    (RI : Hid (∀ W, Q W → Calls Tryd.prog 22 #[.agg #[.int .i64 mo, .int .i64 ki, .int .i64 wd, .int .i64 da, .int .i64 ti, .int .i64 re]] W (RetV W (.bool true))))
    (RR : Hid (∀ W, Calls Tryd.prog 23 #[.agg #[.int .i64 mo, .int .i64 ki, .int .i64 wd, .int .i64 da, .int .i64 ti, .int .i64 re]] W (RetV W (.bool true))))
    (RP : Hid (∀ W, Calls Tryd.prog 27 #[.agg #[.int .i64 mo, .int .i64 ki, .int .i64 wd, .int .i64 da, .int .i64 ti, .int .i64 re]] W (RetSs W l)))
    (TI : Hid (∀ W, Q W → Calls Tryd.prog 24 #[.int .i64 n] W (RetV W (.string t))))
    (RT : Hid (∀ W, Calls Tryd.prog 25 #[.int .i64 n] W (RetV W (.string t)))) (w : World) (L : Q w) :
    Calls Tryd.prog 6 #[.agg #[.int .i64 mo, .int .i64 ki, .int .i64 wd, .int .i64 da, .int .i64 ti, .int .i64 re], .int .i64 n] w (RetV w (.bool true)) := by
  have LN := Lib.hid hl
  clear hl
  go_enter Tryd.func6, Tryd.ntmps6
  go_upto_region 1 with (fail)
  have KB := ((BK.nil w).more6 (.int .i64 (mo)) (.int .i64 (ki)) (.int .i64 (wd)) (.int .i64 (da)) (.int .i64 (ti)) (.int .i64 (re)) 36)
  generalize (w.alloc (.cells #[.int .i64 (mo), .int .i64 (ki), .int .i64 (wd), .int .i64 (da), .int .i64 (ti), .int .i64 (re)] 36)) = w0 at *
  obtain ⟨_, q0a, q0b, q0c, q0d, q0e, q0f, _⟩ := (KB.head).six
  go_wp2_with fail
  clear q0a q0b q0c q0d q0e q0f
  refine (PR.out _ (MO _ _ L KB.hb)).mono ?_
  rintro e w1 ⟨A, m, c, rfl, hS, k⟩
  replace KB := KB.below k
  clear k
  have HS := Lib.hid hS
  obtain rfl : m = 3 := by rw [← HS.out.len, LN.out]
  clear hS
  have KC := BK.nil w1
  go_wp2_with fail
  go_cut [27] (fun v27 wx => v27 = .bool false ∧ BK w [(w.heap.size, [.int .i64 (mo), .int .i64 (ki), .int .i64 (wd), .int .i64 (da), .int .i64 (ti), .int .i64 (re)])] wx ∧ BK w1 [] wx)
  case first =>
    obtain ⟨_, j0a, j0b, j0c, j0d, j0e, j0f, _⟩ := (KB.head).six
    go_region_held3 (fun w' => w'.cell? ⟨w.heap.size, 0, none⟩ = some (.int .i64 (mo)) ∧ w'.cell? ⟨w.heap.size, 1, none⟩ = some (.int .i64 (ki)) ∧ w'.cell? ⟨w.heap.size, 2, none⟩ = some (.int .i64 (wd)) ∧ w'.cell? ⟨w.heap.size, 3, none⟩ = some (.int .i64 (da)) ∧ w'.cell? ⟨w.heap.size, 4, none⟩ = some (.int .i64 (ti)) ∧ w'.cell? ⟨w.heap.size, 5, none⟩ = some (.int .i64 (re))) (first | (with_reducible exact ⟨(KB.head).six.2.1, (KB.head).six.2.2.1, (KB.head).six.2.2.2.1, (KB.head).six.2.2.2.2.1, (KB.head).six.2.2.2.2.2.1, (KB.head).six.2.2.2.2.2.2.1⟩) | (with_reducible exact ⟨(KB.drew.head).six.2.1, (KB.drew.head).six.2.2.1, (KB.drew.head).six.2.2.2.1, (KB.drew.head).six.2.2.2.2.1, (KB.drew.head).six.2.2.2.2.2.1, (KB.drew.head).six.2.2.2.2.2.2.1⟩) | go_keep)
    (first
      | (go_at_call 14; (with_reducible refine (AL.out _ (MO _ _ L (by with_reducible first | exact KB.hb | exact KB.drew.hb))).mono ?_); rintro e W9 ⟨rfl, k⟩
         with_reducible (first | replace KB := KB.below k | replace KB := KB.drew.below k)
         with_reducible (first | replace KC := KC.below k | replace KC := KC.drew.below k)
         clear k
         obtain ⟨_, k0a, k0b, k0c, k0d, k0e, k0f, _⟩ := (KB.head).six)
      | (go_at_call 22; (with_reducible refine (RI.out _ (MO _ _ L (by with_reducible first | exact KB.hb | exact KB.drew.hb))).mono ?_); rintro e W9 ⟨rfl, k⟩
         with_reducible (first | replace KB := KB.below k | replace KB := KB.drew.below k)
         with_reducible (first | replace KC := KC.below k | replace KC := KC.drew.below k)
         clear k
         obtain ⟨_, k0a, k0b, k0c, k0d, k0e, k0f, _⟩ := (KB.head).six)
      | (go_at_call 23; (with_reducible refine (RR.out _).mono ?_); rintro e W9 ⟨rfl, k⟩
         with_reducible (first | replace KB := KB.below k | replace KB := KB.drew.below k)
         with_reducible (first | replace KC := KC.below k | replace KC := KC.drew.below k)
         clear k
         obtain ⟨_, k0a, k0b, k0c, k0d, k0e, k0f, _⟩ := (KB.head).six)
      | (go_at_call 24; (with_reducible refine (TI.out _ (MO _ _ L (by with_reducible first | exact KB.hb | exact KB.drew.hb))).mono ?_); rintro e W9 ⟨rfl, k⟩
         with_reducible (first | replace KB := KB.below k | replace KB := KB.drew.below k)
         with_reducible (first | replace KC := KC.below k | replace KC := KC.drew.below k)
         clear k
         obtain ⟨_, k0a, k0b, k0c, k0d, k0e, k0f, _⟩ := (KB.head).six)
      | (go_at_call 25; (with_reducible refine (RT.out _).mono ?_); rintro e W9 ⟨rfl, k⟩
         with_reducible (first | replace KB := KB.below k | replace KB := KB.drew.below k)
         with_reducible (first | replace KC := KC.below k | replace KC := KC.drew.below k)
         clear k
         obtain ⟨_, k0a, k0b, k0c, k0d, k0e, k0f, _⟩ := (KB.head).six)
    )
    all_goals
      go_wp2_with fail
      go_meet
      with_reducible first | exact ⟨rfl, KB, KC⟩ | exact ⟨rfl, KB.drew, KC.drew⟩
  case rest =>
  obtain ⟨rfl, KB', KC'⟩ := hcut
  clear KB KC
  have KB := KB'
  have KC := KC'
  clear KB' KC'
  obtain ⟨_, q0a, q0b, q0c, q0d, q0e, q0f, _⟩ := (KB.head).six
  go_wp2_with fail
  clear q0a q0b q0c q0d q0e q0f
  refine (RR.out _).mono ?_
  rintro e w1 ⟨rfl, k⟩
  replace KB := KB.below k
  replace KC := KC.below k
  clear k
  obtain ⟨_, q0a, q0b, q0c, q0d, q0e, q0f, _⟩ := (KB.head).six
  go_wp2_with fail
  clear q0a q0b q0c q0d q0e q0f
  refine (RP.out _).mono ?_
  rintro e w2 ⟨B, m, d, rfl, hT, k⟩
  replace KB := KB.below k
  replace KC := KC.below k
  clear k
  have HT := Lib.hid hT
  clear hT
  go_wp2_with fail
  refine (sameR _ _ _ _ _ _ _ _ (HS.out.below KC.hb) HT.out (by decide)).mono ?_
  rintro e w3 ⟨rfl, k⟩
  replace KB := KB.below k
  clear k
  have HB := KB.hb
  go_wp2
  go_ret
  exact ⟨rfl, HB⟩
theorem printsL {Q : World → Prop} (C : MomentP True Q) (x : Sp) (n : Int) (hx : x.in64) (hn : In64 n) (w : World) (L : Q w) :
    Calls Tryd.prog 6 #[x.val, .int .i64 n] w (RetV w (.bool true)) := by
  have AL := Lib.hid (alive9 C)
  have PR := C.print trivial x hx
  have RI := C.right x hx
  have RR := rightSR x
  have TI := C.time trivial n hn
  have RT := timeR n hn.1 hn.2
  by_cases h : x.ok
  · rw [if_pos h, if_pos h] at PR
    rw [decide_eq_true h] at RI RR
    have RP := printSR x h
    exact prints_yes C.mono AL x.mo x.ki x.wd x.da x.ti x.re n _ _ rfl (Lib.hid PR) (Lib.hid RI) (Lib.hid RR) (Lib.hid RP) (Lib.hid TI) (Lib.hid RT) w L
  · rw [if_neg h, if_neg h] at PR
    rw [decide_eq_false h] at RI RR
    exact prints_no C.mono AL x.mo x.ki x.wd x.da x.ti x.re n _ (Lib.hid PR) (Lib.hid RI) (Lib.hid RR) (Lib.hid TI) (Lib.hid RT) w L
end Go.Proofs.YtipohfaapiiopaaDoor
