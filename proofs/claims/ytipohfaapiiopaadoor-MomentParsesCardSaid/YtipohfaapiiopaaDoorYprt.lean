/- Package moment: a spot, written. -/
import Derived.Test.YtipohfaapiiopaaDoorYtim
import Derived.Test.YtipohfaapiiopaaDoorGl
import Derived.Test.YtipohfaapiiopaaDoorYrt
import Derived.Test.YtipohfaapiiopaaDoorUspec
namespace Go.Proofs.YtipohfaapiiopaaDoor
open Go.RowKit
/-- what Print asks of memory beside: the clocks' letters, the library's powers of ten -/
structure MomP (w : World) : Prop where
  mom : Mom w
  letr : TabS 2 letB w
  pow : Pow10 w
theorem MomP.mono {w W : World} (T : MomP w) (h : Below w.heap.size w W) : MomP W := ⟨T.mom.mono h, T.letr.mono h, T.pow.mono h⟩

set_option maxRecDepth 100000 in
set_option maxHeartbeats 4000000 in
theorem wdy_1 (mo da ti re : Int) (k : Nat) (_hk : k < 7) (d nm t : ByteArray) (_zd : d.size ≤ 100) (_zt : t.size ≤ 100) (IT : Hid (∀ W, Calls Tryd.prog 71 #[.int .i64 da] W (fun e w' => e = .returned (.string d) ∧ w' = W))) (SH : Hid (∀ W, Calls Tryd.prog 42 #[.string nm] W (fun e w' => e = .returned (.string t) ∧ W = w'))) (w : World) (c : Hid (∀ W, Below w.heap.size w W → W.cell? ⟨1, k, none⟩ = some (.string nm))) :
    Calls Tryd.prog 43 #[.agg #[.int .i64 (mo), .int .i64 (1), .int .i64 ((k : Int) + 1), .int .i64 (da), .int .i64 (ti), .int .i64 (re)]] w (RetV w (.string (⟨#[108, 97, 115, 116]⟩ ++ t))) := by
  go_enter Tryd.func43, Tryd.ntmps43
  go_upto_region 1 with (fail)
  have KB := (BK.nil w).more6 (.int .i64 (mo)) (.int .i64 (1)) (.int .i64 ((k : Int) + 1)) (.int .i64 (da)) (.int .i64 (ti)) (.int .i64 (re)) 36
  generalize w.alloc (.cells #[.int .i64 (mo), .int .i64 (1), .int .i64 ((k : Int) + 1), .int .i64 (da), .int .i64 (ti), .int .i64 (re)] 36) = W at *
  obtain ⟨_, r0, r1, r2, r3, r4, r5, _⟩ := KB.head.six
  have c0 := c.out _ KB.hb
  clear c
  go_wp2_with fail
  refine (IT.out _).mono ?_
  clear IT
  rintro e w1 ⟨rfl, rfl⟩
  go_wp2_with fail
  refine (SH.out _).mono ?_
  clear SH
  rintro e w1 ⟨rfl, rfl⟩
  go_wp2
  go_ret
  exact ⟨rfl, KB.hb⟩
set_option maxRecDepth 100000 in
set_option maxHeartbeats 4000000 in
theorem wdy_2 (mo da ti re : Int) (k : Nat) (_hk : k < 7) (d nm t : ByteArray) (_zd : d.size ≤ 100) (_zt : t.size ≤ 100) (IT : Hid (∀ W, Calls Tryd.prog 71 #[.int .i64 da] W (fun e w' => e = .returned (.string d) ∧ w' = W))) (SH : Hid (∀ W, Calls Tryd.prog 42 #[.string nm] W (fun e w' => e = .returned (.string t) ∧ W = w'))) (w : World) (c : Hid (∀ W, Below w.heap.size w W → W.cell? ⟨1, k, none⟩ = some (.string nm))) :
    Calls Tryd.prog 43 #[.agg #[.int .i64 (mo), .int .i64 (2), .int .i64 ((k : Int) + 1), .int .i64 (da), .int .i64 (ti), .int .i64 (re)]] w (RetV w (.string (t ++ ⟨#[62, 61]⟩ ++ d))) := by
  go_enter Tryd.func43, Tryd.ntmps43
  go_upto_region 1 with (fail)
  have KB := (BK.nil w).more6 (.int .i64 (mo)) (.int .i64 (2)) (.int .i64 ((k : Int) + 1)) (.int .i64 (da)) (.int .i64 (ti)) (.int .i64 (re)) 36
  generalize w.alloc (.cells #[.int .i64 (mo), .int .i64 (2), .int .i64 ((k : Int) + 1), .int .i64 (da), .int .i64 (ti), .int .i64 (re)] 36) = W at *
  obtain ⟨_, r0, r1, r2, r3, r4, r5, _⟩ := KB.head.six
  have c0 := c.out _ KB.hb
  clear c
  go_wp2_with fail
  refine (IT.out _).mono ?_
  clear IT
  rintro e w1 ⟨rfl, rfl⟩
  go_wp2_with fail
  refine (SH.out _).mono ?_
  clear SH
  rintro e w1 ⟨rfl, rfl⟩
  go_wp2
  go_ret
  exact ⟨rfl, KB.hb⟩
set_option maxRecDepth 100000 in
set_option maxHeartbeats 4000000 in
theorem wdy_3 (mo da ti re : Int) (k : Nat) (_hk : k < 7) (d nm t : ByteArray) (_zd : d.size ≤ 100) (_zt : t.size ≤ 100) (IT : Hid (∀ W, Calls Tryd.prog 71 #[.int .i64 da] W (fun e w' => e = .returned (.string d) ∧ w' = W))) (SH : Hid (∀ W, Calls Tryd.prog 42 #[.string nm] W (fun e w' => e = .returned (.string t) ∧ W = w'))) (w : World) (c : Hid (∀ W, Below w.heap.size w W → W.cell? ⟨1, k, none⟩ = some (.string nm))) :
    Calls Tryd.prog 43 #[.agg #[.int .i64 (mo), .int .i64 (3), .int .i64 ((k : Int) + 1), .int .i64 (da), .int .i64 (ti), .int .i64 (re)]] w (RetV w (.string (t ++ ⟨#[60, 61]⟩ ++ d))) := by
  go_enter Tryd.func43, Tryd.ntmps43
  go_upto_region 1 with (fail)
  have KB := (BK.nil w).more6 (.int .i64 (mo)) (.int .i64 (3)) (.int .i64 ((k : Int) + 1)) (.int .i64 (da)) (.int .i64 (ti)) (.int .i64 (re)) 36
  generalize w.alloc (.cells #[.int .i64 (mo), .int .i64 (3), .int .i64 ((k : Int) + 1), .int .i64 (da), .int .i64 (ti), .int .i64 (re)] 36) = W at *
  obtain ⟨_, r0, r1, r2, r3, r4, r5, _⟩ := KB.head.six
  have c0 := c.out _ KB.hb
  clear c
  go_wp2_with fail
  refine (IT.out _).mono ?_
  clear IT
  rintro e w1 ⟨rfl, rfl⟩
  go_wp2_with fail
  refine (SH.out _).mono ?_
  clear SH
  rintro e w1 ⟨rfl, rfl⟩
  go_wp2
  go_ret
  exact ⟨rfl, KB.hb⟩
set_option maxRecDepth 100000 in
set_option maxHeartbeats 4000000 in
theorem wdy_0 (mo wd da ti re : Int) (d : ByteArray) (IT : Hid (∀ W, Calls Tryd.prog 71 #[.int .i64 da] W (fun e w' => e = .returned (.string d) ∧ w' = W))) (w : World) : Calls Tryd.prog 43 #[.agg #[.int .i64 (mo), .int .i64 (0), .int .i64 (wd), .int .i64 (da), .int .i64 (ti), .int .i64 (re)]] w (RetV w (.string d)) := by
  go_enter Tryd.func43, Tryd.ntmps43
  go_upto_region 1 with (fail)
  have KB := (BK.nil w).more6 (.int .i64 (mo)) (.int .i64 (0)) (.int .i64 (wd)) (.int .i64 (da)) (.int .i64 (ti)) (.int .i64 (re)) 36
  generalize w.alloc (.cells #[.int .i64 (mo), .int .i64 (0), .int .i64 (wd), .int .i64 (da), .int .i64 (ti), .int .i64 (re)] 36) = W at *
  obtain ⟨_, r0, r1, r2, r3, r4, r5, _⟩ := KB.head.six
  go_wp2_with fail
  refine (IT.out _).mono ?_
  clear IT
  rintro e w1 ⟨rfl, rfl⟩
  go_wp2
  go_ret
  exact ⟨rfl, KB.hb⟩
theorem wd_len : ∀ k, k < 7 → wdB.getD k ⟨#[]⟩ = (wdB[k]?).getD ⟨#[]⟩ ∧ 3 ≤ (wdB.getD k ⟨#[]⟩).size ∧ (wdB.getD k ⟨#[]⟩).extract 0 3 = wd3.getD (k + 1) ⟨#[]⟩ := by decide
theorem mo_len : ∀ k, k < 12 → monB.getD k ⟨#[]⟩ = (monB[k]?).getD ⟨#[]⟩ ∧ 3 ≤ (monB.getD k ⟨#[]⟩).size ∧ (monB.getD k ⟨#[]⟩).extract 0 3 = mon3.getD k ⟨#[]⟩ := by decide
theorem TabS.at {g : Nat} {l : List ByteArray} {w : World} (T : TabS g l w) {k : Nat} (h : k < l.length) : w.cell? ⟨g, k, none⟩ = some (.string (l.getD k ⟨#[]⟩)) := by
  rw [T.c k h, List.getD_eq_getElem?_getD, List.getElem?_eq_getElem h]
  rfl
theorem itoaP (n : Nat) (h : n < 100) (W : World) : Calls Tryd.prog 71 #[.int .i64 n] W (fun e w' => e = .returned (.string (decB n)) ∧ w' = W) := by
  have := ystrconv_Itoa_small n h W
  rw [decB_is] at this
  exact this
theorem writtenMP (x : Sp) (ok : x.ok) (w : World) (M : Mom w) : Calls Tryd.prog 43 #[x.val] w (RetV w (.string (spDay x))) := by
  obtain ⟨mo, ki, wd, da, ti, re⟩ := x
  obtain ⟨_, hk, _, _, k0, k1, k2, k3⟩ := ok
  simp only at hk k0 k1 k2 k3
  show Calls _ _ #[.agg #[.int .i64 mo, .int .i64 ki, .int .i64 wd, .int .i64 da, .int .i64 ti, .int .i64 re]] w _
  have hda : 0 ≤ da ∧ da ≤ 31 := by
    by_cases e : ki = 1
    · have := k2 e; omega
    · have := k3 e; omega
  obtain ⟨n, rfl⟩ : ∃ n : Nat, da = n := ⟨da.toNat, by omega⟩
  have IT := Lib.hid (fun W => itoaP n (by omega) W)
  have zd := ydec_le (u := n) (by omega)
  unfold spDay
  simp only [Int.toNat_natCast]
  by_cases e0 : ki = 0
  · subst e0; rw [if_pos rfl]; exact wdy_0 mo wd n ti re _ IT w
  rw [if_neg e0]
  have hw := k1 e0
  obtain ⟨k, rfl⟩ : ∃ k : Nat, wd = (k : Int) + 1 := ⟨(wd - 1).toNat, by omega⟩
  have hk7 : k < 7 := by omega
  obtain ⟨_, l1, l2⟩ := wd_len k hk7
  have SH := Lib.hid (fun W => by
    have := shortP _ l1 W
    rw [l2] at this
    exact this)
  have zt : (wd3.getD (k + 1) ⟨#[]⟩).size ≤ 100 := Nat.le_trans (wd3_size (k + 1) (by omega)) (by decide)
  have CC := Lib.hid (fun (W : World) (h : Below w.heap.size w W) => (M.wd.mono h).at (k := k) (by show k < 7; exact hk7))
  rw [show ((k : Int) + 1).toNat = k + 1 by omega]
  by_cases e1 : ki = 1
  · subst e1; rw [if_pos rfl]; exact wdy_1 mo n ti re k hk7 _ _ _ zd zt IT SH w CC
  rw [if_neg e1]
  by_cases e2 : ki = 2
  · subst e2; rw [if_pos rfl]; exact wdy_2 mo n ti re k hk7 _ _ _ zd zt IT SH w CC
  rw [if_neg e2]
  obtain rfl : ki = 3 := by omega
  exact wdy_3 mo n ti re k hk7 _ _ _ zd zt IT SH w CC
set_option maxRecDepth 100000 in
set_option maxHeartbeats 4000000 in
theorem pr_no (mo ki wd da ti re : Int) (RI : Hid (∀ W, Calls Tryd.prog 22 #[.agg #[.int .i64 (mo), .int .i64 (ki), .int .i64 (wd), .int .i64 (da), .int .i64 (ti), .int .i64 (re)]] W (RetV W (.bool false)))) (w : World) : Calls Tryd.prog 21 #[.agg #[.int .i64 (mo), .int .i64 (ki), .int .i64 (wd), .int .i64 (da), .int .i64 (ti), .int .i64 (re)]] w (RetTx w [] 1) := by
  go_enter Tryd.func21, Tryd.ntmps21
  go_upto_region 1 with (fail)
  have KB := (BK.nil w).more6 (.int .i64 (mo)) (.int .i64 (ki)) (.int .i64 (wd)) (.int .i64 (da)) (.int .i64 (ti)) (.int .i64 (re)) 36
  generalize w.alloc (.cells #[.int .i64 (mo), .int .i64 (ki), .int .i64 (wd), .int .i64 (da), .int .i64 (ti), .int .i64 (re)] 36) = W at *
  obtain ⟨_, r0, r1, r2, r3, r4, r5, _⟩ := KB.head.six
  go_wp2_with fail
  refine (RI.out _).mono ?_
  clear RI
  rintro e w1 ⟨rfl, hb⟩
  replace KB := KB.below hb
  clear hb
  go_wp2
  go_ret2
  exact ⟨none, 0, 0, rfl, Ss.nil _, KB.hb⟩
set_option maxRecDepth 100000 in
set_option maxHeartbeats 8000000 in
theorem pr_yes (ki wd da ti : Int) (k j : Nat) (_hk : k < 12) (_hj : j < 3) (nm lt t d c : ByteArray) (_zl : lt.size ≤ 100) (_zc : c.size ≤ 1000)
    (RI : Hid (∀ W, Calls Tryd.prog 22 #[.agg #[.int .i64 ((k : Int) + 1), .int .i64 (ki), .int .i64 (wd), .int .i64 (da), .int .i64 (ti), .int .i64 ((j : Int))]] W (RetV W (.bool true))))
    (SH : Hid (∀ W, Calls Tryd.prog 42 #[.string nm] W (fun e w' => e = .returned (.string t) ∧ Below W.heap.size W w')))
    (WR : Hid (∀ W, MomP W → Calls Tryd.prog 43 #[.agg #[.int .i64 ((k : Int) + 1), .int .i64 (ki), .int .i64 (wd), .int .i64 (da), .int .i64 (ti), .int .i64 ((j : Int))]] W (RetV W (.string d))))
    (TI : Hid (∀ W, MomP W → Calls Tryd.prog 24 #[.int .i64 (ti)] W (RetV W (.string c))))
    (w : World) (M : MomP w) (C1 : Hid (∀ W, Below w.heap.size w W → W.cell? ⟨0, k, none⟩ = some (.string nm))) (C2 : Hid (∀ W, Below w.heap.size w W → W.cell? ⟨2, j, none⟩ = some (.string lt))) :
    Calls Tryd.prog 21 #[.agg #[.int .i64 ((k : Int) + 1), .int .i64 (ki), .int .i64 (wd), .int .i64 (da), .int .i64 (ti), .int .i64 ((j : Int))]] w (RetTx w [t, d, c ++ lt] 0) := by
  have L := Lib.hid M
  have hk12 : (k : Int) < 12 := by omega
  have hj3 : (j : Int) < 3 := by omega
  have hk0 : (0 : Int) ≤ (k : Int) := by omega
  have hj0 : (0 : Int) ≤ (j : Int) := by omega
  have hk1 : (k : Int) + 1 - 1 = (k : Int) := by omega
  have hk2 : IntKind.i64.wrap (k : Int) = (k : Int) := IntWalk.i64_in _ (by omega)
  have hk3 : IntKind.i64.wrap ((k : Int) + 1 - 1) = (k : Int) := IntWalk.i64_in _ (by omega) |>.trans hk1
  have c2 := fun W => run_string_add_sum (P := Tryd.prog) W c lt (by omega)
  clear M
  go_enter Tryd.func21, Tryd.ntmps21
  go_upto_region 1 with (fail)
  have KB := (BK.nil w).more6 (.int .i64 ((k : Int) + 1)) (.int .i64 (ki)) (.int .i64 (wd)) (.int .i64 (da)) (.int .i64 (ti)) (.int .i64 ((j : Int))) 36
  generalize w.alloc (.cells #[.int .i64 ((k : Int) + 1), .int .i64 (ki), .int .i64 (wd), .int .i64 (da), .int .i64 (ti), .int .i64 ((j : Int))] 36) = W at *
  obtain ⟨_, r0, r1, r2, r3, r4, r5, _⟩ := KB.head.six
  go_wp2_with fail
  clear r0 r1 r2 r3 r4 r5
  refine (RI.out _).mono ?_
  clear RI
  rintro e w1 ⟨rfl, hb⟩
  replace KB := KB.below hb
  clear hb
  go_wp2_with fail
  obtain ⟨_, r0, r1, r2, r3, r4, r5, _⟩ := KB.head.six
  have p0 := C1.out _ KB.hb
  have p1 := C2.out _ KB.hb
  go_region_held3 (fun w' => w'.cell? ⟨w.heap.size, 0, none⟩ = some (.int .i64 ((k : Int) + 1)) ∧ w'.cell? ⟨w.heap.size, 1, none⟩ = some (.int .i64 (ki)) ∧ w'.cell? ⟨w.heap.size, 2, none⟩ = some (.int .i64 (wd)) ∧ w'.cell? ⟨w.heap.size, 3, none⟩ = some (.int .i64 (da)) ∧ w'.cell? ⟨w.heap.size, 4, none⟩ = some (.int .i64 (ti)) ∧ w'.cell? ⟨w.heap.size, 5, none⟩ = some (.int .i64 ((j : Int))) ∧ w'.cell? ⟨0, k, none⟩ = some (.string nm) ∧ w'.cell? ⟨2, j, none⟩ = some (.string lt)) (first | (with_reducible exact ⟨(KB.head).six.2.1, (KB.head).six.2.2.1, (KB.head).six.2.2.2.1, (KB.head).six.2.2.2.2.1, (KB.head).six.2.2.2.2.2.1, (KB.head).six.2.2.2.2.2.2.1, (C1.out _ KB.hb), (C2.out _ KB.hb)⟩) | (with_reducible exact ⟨(KB.drew.head).six.2.1, (KB.drew.head).six.2.2.1, (KB.drew.head).six.2.2.2.1, (KB.drew.head).six.2.2.2.2.1, (KB.drew.head).six.2.2.2.2.2.1, (KB.drew.head).six.2.2.2.2.2.2.1, (C1.out _ KB.drew.hb), (C2.out _ KB.drew.hb)⟩) | go_keep)
    (first
      | (go_at_call 42; (with_reducible refine (SH.out _).mono ?_); rintro e W9 ⟨rfl, hb⟩
         with_reducible (first | replace KB := KB.below hb | replace KB := KB.drew.below hb)
         clear hb
         obtain ⟨_, r0, r1, r2, r3, r4, r5, _⟩ := KB.head.six
         have p0 := C1.out _ KB.hb
         have p1 := C2.out _ KB.hb)
      | (go_at_call 43; (with_reducible refine (WR.out _ (by with_reducible first | exact L.out.mono KB.hb | exact L.out.mono KB.drew.hb)).mono ?_); rintro e W9 ⟨rfl, hb⟩
         with_reducible (first | replace KB := KB.below hb | replace KB := KB.drew.below hb)
         clear hb
         obtain ⟨_, r0, r1, r2, r3, r4, r5, _⟩ := KB.head.six
         have p0 := C1.out _ KB.hb
         have p1 := C2.out _ KB.hb)
      | (go_at_call 24; (with_reducible refine (TI.out _ (by with_reducible first | exact L.out.mono KB.hb | exact L.out.mono KB.drew.hb)).mono ?_); rintro e W9 ⟨rfl, hb⟩
         with_reducible (first | replace KB := KB.below hb | replace KB := KB.drew.below hb)
         clear hb
         obtain ⟨_, r0, r1, r2, r3, r4, r5, _⟩ := KB.head.six
         have p0 := C1.out _ KB.hb
         have p1 := C2.out _ KB.hb))
  all_goals
    have HB := KB.hb
    have sz := HB.size
    clear r0 r1 r2 r3 r4 r5 p0 p1 KB
    go_wp2
    go_ret2
    exact ⟨_, _, _, rfl, Ss.lit _ [t, d, c ++ lt] _ (by show 0 < 3; decide) (by show 3 ≤ 100; decide), HB.alloc sz _⟩
theorem printMP (x : Sp) (w : World) (M : MomP w) : Calls Tryd.prog 21 #[x.val] w (RetTx w (if x.ok then spTexts x else []) (if x.ok then 0 else 1)) := by
  have RI := fun (W : World) => rightMP x W
  by_cases ok : x.ok
  · rw [if_pos ok, if_pos ok]
    rw [decide_eq_true ok] at RI
    have WR := fun (W : World) (M : MomP W) => writtenMP x ok W M.mom
    have i64 := ok.in64
    obtain ⟨hm, _, ht, hr, _⟩ := ok
    have TI := fun (W : World) (M : MomP W) => timeMP x.ti i64.2.2.2.2.1 W M.pow
    have zc : (timeB x.ti).size ≤ 1000 := Nat.le_trans (timeB_le x.ti (by have := ht.1; omega) (by have := ht.2; omega)) (by decide)
    unfold spTexts
    generalize spDay x = d at *
    obtain ⟨mo, ki, wd, da, ti, re⟩ := x
    simp only at hm hr ht RI WR TI zc
    obtain ⟨k, rfl⟩ : ∃ k : Nat, mo = (k : Int) + 1 := ⟨(mo - 1).toNat, by omega⟩
    obtain ⟨j, rfl⟩ : ∃ j : Nat, re = (j : Int) := ⟨re.toNat, by omega⟩
    have hk : k < 12 := by omega
    have hj : j < 3 := by omega
    obtain ⟨_, l1, l2⟩ := mo_len k hk
    have SH := Lib.hid (fun (W : World) => (shortP _ l1 W).mono fun e w' ⟨h1, h2⟩ => show RetV W (.string ((monB.getD k ⟨#[]⟩).extract 0 3)) e w' from ⟨h1, h2 ▸ Below.refl _ _⟩)
    rw [l2] at SH
    have zl : (letB.getD j ⟨#[]⟩).size ≤ 100 := by
      have : j = 0 ∨ j = 1 ∨ j = 2 := by omega
      rcases this with rfl | rfl | rfl <;> decide
    have r := pr_yes ki wd da ti k j hk hj _ _ _ d (timeB ti) zl zc (Lib.hid RI) SH (Lib.hid WR) (Lib.hid TI) w M (Lib.hid fun W h => (M.mom.mon.mono h).at (k := k) (by show k < 12; exact hk)) (Lib.hid fun W h => (M.letr.mono h).at (k := j) (by show j < 3; exact hj))
    have e : spClk ⟨(k : Int) + 1, ki, wd, da, ti, (j : Int)⟩ = timeB ti ++ letB.getD j ⟨#[]⟩ := by
      unfold spClk
      have : j = 0 ∨ j = 1 ∨ j = 2 := by omega
      rcases this with rfl | rfl | rfl
      · exact (ByteArray.append_empty).symm
      · rfl
      · rfl
    rw [e]
    simp only [show ((k : Int) + 1 - 1).toNat = k by omega]
    exact r
  · rw [if_neg ok, if_neg ok]
    rw [decide_eq_false ok] at RI
    exact pr_no _ _ _ _ _ _ (Lib.hid RI) w
end Go.Proofs.YtipohfaapiiopaaDoor
