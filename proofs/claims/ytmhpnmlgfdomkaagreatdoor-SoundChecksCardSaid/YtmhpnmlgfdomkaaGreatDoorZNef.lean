/- The document's answer of layer 13: what is wrong first with the links. -/
import Derived.Test.YtmhpnmlgfdomkaaGreatDoorZGnf
import Derived.Test.YtmhpnmlgfdomkaaGreatDoorZNal
import Derived.Deep.RegionHeld3
set_option maxRecDepth 100000
set_option maxHeartbeats 64000000
namespace Go.Proofs.YtmhpnmlgfdomkaaGreatDoor
open Go.RowKit Go.Maps Go.WideShapes
theorem ixD_some {o : Option Nat} {z : Nat} (h : o = some z) : ixD o = (z : Int) := by rw [h]; rfl
theorem ixD_none {o : Option Nat} (h : o = none) : ixD o = -1 := by rw [h]; rfl
theorem links_w (S : Sr) (A B C : Option Addr) (n k m d q e : Nat) (w : World) (RES : Fw) (HR : Hid (Rs 2 w C q e (S.links.map Lk.vals))) (LN : Hid (S.links.length = q)) (_mq : q ≤ 9223372036854775807)
    (ZH : Hid (∀ (s : ByteArray) W, Below w.heap.size w W → Calls Tryz.prog 42 #[.agg #[.slice A n k, .slice B m d, .slice C q e], .string s] W (RetV W (.int .i64 (ixD (zoneI S s))))))
    (LH : Hid (∀ (s : ByteArray) W, Below w.heap.size w W → Calls Tryz.prog 43 #[.agg #[.slice A n k, .slice B m d, .slice C q e], .string s] W (RetV W (.int .i64 (ixD (linkI S s))))))
    (RH : Hid (∀ (s : ByteArray) W, Below w.heap.size w W → Calls Tryz.prog 44 #[.agg #[.slice A n k, .slice B m d, .slice C q e], .string s] W (RetZI W (resR S s))))
    (R1 : Hid (∀ i v, i < q → linkF1 S i = some v → (∀ j, j < i → linkF1 S j = none) → RES = v))
    (R2 : Hid ((∀ j, j < q → linkF1 S j = none) → ∀ i v, i < q → linkF2 S i = some v → (∀ j, j < i → linkF2 S j = none) → RES = v))
    (R3 : Hid ((∀ j, j < q → linkF1 S j = none) → (∀ j, j < q → linkF2 S j = none) → ∀ i v, i < q → linkF3 S i = some v → (∀ j, j < i → linkF3 S j = none) → RES = v))
    (R4 : Hid ((∀ j, j < q → linkF1 S j = none) → (∀ j, j < q → linkF2 S j = none) → (∀ j, j < q → linkF3 S j = none) → RES = Fw.zero)) : Calls Tryz.prog 19 #[.agg #[.slice A n k, .slice B m d, .slice C q e]] w (RetV w RES.val) := by
  go_enter Tryz.func19, Tryz.ntmps19
  go_upto_region 1 with (fail)
  have KB := ((BK.nil w).lit [.slice A n k, .slice B m d, .slice C q e] 26).lit [.int .i64 0, .int .i64 0, .int .i64 0, .int .i64 0] 31
  simp only [World.size_alloc] at *
  generalize (w.alloc (.cells #[.slice A n k, .slice B m d, .slice C q e] 26)).alloc (.cells #[.int .i64 0, .int .i64 0, .int .i64 0, .int .i64 0] 31) = W at *
  go_wp2_with fail
  go_loopw [3] (fun v3 wr => ∃ i : Nat, i ≤ q ∧ v3 = .int .i64 i ∧ Hid (∀ j, j < i → linkF1 S j = none) ∧ BK w [(w.heap.size + 1, [.int .i64 0, .int .i64 0, .int .i64 0, .int .i64 0]), (w.heap.size, [.slice A n k, .slice B m d, .slice C q e])] wr) (fun v _ => q - (intOf v).toNat)
  case atStart => exact ⟨0, by omega, rfl, Lib.hid (fun j h => absurd h (by omega)), KB⟩
  case round =>
    clear KB
    obtain ⟨i, hi, rfl, HM, KB⟩ := hrel
    obtain ⟨_, x0, x1, x2, _⟩ := KB.tail.head.three
    by_cases h4 : i < q
    · obtain ⟨x, hxx⟩ : ∃ x, S.links[i]? = some x := ⟨_, List.getElem?_eq_getElem (by rw [LN.out]; exact h4)⟩
      obtain ⟨g, o, ea0, hg, ca⟩ := (HR.out.below KB.hb).cells (by omega)
      subst ea0
      obtain ⟨nm, hnm⟩ : ∃ nm, x.name = nm := ⟨_, rfl⟩
      have RW := Lib.hid (fun W (h : Below w.heap.size w W) => (show W.cell? ⟨g, o + i * 2 + 1, none⟩ = some (.string nm) from by
        obtain ⟨g3, o3, e3, hg3, ca3⟩ := (HR.out.below h).cells (by omega)
        cases e3
        have t9 := row_at ca3 (show (S.links.map Lk.vals)[i]? = some (Lk.vals x) by rw [List.getElem?_map, hxx]; rfl) 1 _ rfl
        rw [← hnm]
        exact t9))
      have y0 := RW.out _ KB.hb
      clear ca hg
      have ZC := Lib.hid (fun W (h : Below w.heap.size w W) => ZH.out nm W h)
      have LC := Lib.hid (fun W (h : Below w.heap.size w W) => LH.out nm W h)
      rcases lk_mean hxx with ⟨z, hn, F⟩ | ⟨j, hn, hj, F1, F2⟩
      · have zi : zoneI S nm = some z := by
          rw [hnm] at hn
          cases hz : zoneI S nm with
          | some z' => rw [nmA_zone hz] at hn; cases hn; rfl
          | none =>
            cases hl : linkI S nm with
            | none => rw [nmA_none hz hl] at hn; cases hn
            | some j' => rw [nmA_link hz hl] at hn; cases hn
        rw [ixD_some zi] at ZC
        have z1 : decide ((z : Int) ≥ 0) = true := decide_eq_true (by omega)
        have z2 : decide (0 ≤ (z : Int)) = true := decide_eq_true (by omega)
        have RE := Lib.hid (R1.out i _ h4 F HM.out)
        clear F hn hxx hnm zi LC
        go_wp2_with fail
        refine wp_region_held_drew (S := (fun w' => w'.cell? ⟨w.heap.size, 0, none⟩ = some (.slice A n k) ∧ w'.cell? ⟨w.heap.size, 1, none⟩ = some (.slice B m d) ∧ w'.cell? ⟨w.heap.size, 2, none⟩ = some (.slice (some ⟨g, o, none⟩) q e) ∧ w'.cell? ⟨g, o + i * 2 + 1, none⟩ = some (.string nm))) (by kernel_rfl) (by (first | (with_reducible exact ⟨x0, x1, x2, y0⟩) | go_keep)) (fun hHeld => ?_)
        refine wpAnyH_take (i := 0) (v := ?_) rfl (by kernel_rfl) (by kernel_rfl) (by kernel_rfl) (fun _ _ _ h => h) (Or.inl ⟨by rfl, ?_⟩) (by assumption) ?_
        rotate_left
        · intro w hSw
          (try dsimp only at hSw)
          go_simp
          all_goals (with_reducible rfl)
        try simp only [Act.put, List.getElem_toArray, List.getElem_cons_zero, List.setIfInBounds_toArray, List.set_cons_zero, List.set_cons_succ]
        refine wpAnyH_take (i := 1) (v := ?_) rfl (by kernel_rfl) (by kernel_rfl) (by kernel_rfl) (fun _ _ _ h => h) (Or.inl ⟨by rfl, ?_⟩) (by assumption) ?_
        rotate_left
        · intro w hSw
          (try dsimp only at hSw)
          go_simp
          all_goals (with_reducible rfl)
        try simp only [Act.put, List.getElem_toArray, List.getElem_cons_succ, List.getElem_cons_zero, List.setIfInBounds_toArray, List.set_cons_zero, List.set_cons_succ]
        refine wpAnyH_take (i := 2) (v := ?_) rfl (by kernel_rfl) (by kernel_rfl) (by kernel_rfl) (fun _ _ _ h => h) (Or.inl ⟨by rfl, ?_⟩) (by assumption) ?_
        rotate_left
        · intro w hSw
          (try dsimp only at hSw)
          go_simp
          all_goals (with_reducible rfl)
        try simp only [Act.put, List.getElem_toArray, List.getElem_cons_succ, List.getElem_cons_zero, List.setIfInBounds_toArray, List.set_cons_zero, List.set_cons_succ]
        refine wpAnyH_take (i := 3) (v := ?_) rfl (by kernel_rfl) (by kernel_rfl) (by kernel_rfl) (fun _ _ _ h => h) (Or.inl ⟨by rfl, ?_⟩) (by assumption) ?_
        rotate_left
        · intro w hSw
          (try dsimp only at hSw)
          go_simp
          all_goals (with_reducible rfl)
        try simp only [Act.put, List.getElem_toArray, List.getElem_cons_succ, List.getElem_cons_zero, List.setIfInBounds_toArray, List.set_cons_zero, List.set_cons_succ]
        refine wpAnyH_take (i := 4) (v := ?_) rfl (by kernel_rfl) (by kernel_rfl) (by kernel_rfl) (fun _ _ _ h => h) (Or.inl ⟨by rfl, ?_⟩) (by assumption) ?_
        rotate_left
        · intro w hSw
          (try dsimp only at hSw)
          go_simp
          all_goals (with_reducible rfl)
        try simp only [Act.put, List.getElem_toArray, List.getElem_cons_succ, List.getElem_cons_zero, List.setIfInBounds_toArray, List.set_cons_zero, List.set_cons_succ]
        refine wpAnyH_take (i := 5) (v := ?_) rfl (by kernel_rfl) (by kernel_rfl) (by kernel_rfl) (fun _ _ _ h => h) (Or.inl ⟨by rfl, ?_⟩) (by assumption) ?_
        rotate_left
        · intro w hSw
          (try dsimp only at hSw)
          go_simp
          all_goals (with_reducible rfl)
        try simp only [Act.put, List.getElem_toArray, List.getElem_cons_succ, List.getElem_cons_zero, List.setIfInBounds_toArray, List.set_cons_zero, List.set_cons_succ]
        refine wpAnyH_take (i := 6) (v := ?_) rfl (by kernel_rfl) (by kernel_rfl) (by kernel_rfl) (fun _ _ _ h => h) (Or.inl ⟨by rfl, ?_⟩) (by assumption) ?_
        rotate_left
        · intro w hSw
          (try dsimp only at hSw)
          go_simp
          all_goals (with_reducible rfl)
        try simp only [Act.put, List.getElem_toArray, List.getElem_cons_succ, List.getElem_cons_zero, List.setIfInBounds_toArray, List.set_cons_zero, List.set_cons_succ]
        refine wpAnyH_ready (rs := [7]) (by kernel_rfl) (by simp) ?_
        refine AllReadyH.cons rfl (fun K hK => ?_) AllReadyH.nil
        go_simp
        (go_at_call 42; (with_reducible refine (ZC.out _ (by with_reducible first | exact KB.hb | exact KB.drew.hb)).mono ?_); rintro e9 U9 ⟨rfl, hk9⟩; (with_reducible first | replace KB := KB.below hk9 | replace KB := KB.drew.below hk9); clear hk9 x0 x1 x2 y0; obtain ⟨_, x0, x1, x2, _⟩ := KB.tail.head.three; (have y0 := RW.out _ (by with_reducible first | exact KB.hb | exact KB.drew.hb)))
        go_wp2_with fail
        refine hK.out _ _ (by (first | (with_reducible exact ⟨x0, x1, x2, y0⟩) | go_keep)) (fun hHeld2 => ?_)
        clear hK K
        try simp only [Act.put, List.getElem_toArray, List.getElem_cons_succ, List.getElem_cons_zero, List.setIfInBounds_toArray, List.set_cons_zero, List.set_cons_succ]
        refine wpAnyH_take (i := 8) (v := ?_) rfl (by kernel_rfl) (by kernel_rfl) (by kernel_rfl) (fun _ _ _ h => h) (Or.inl ⟨by rfl, ?_⟩) (by assumption) ?_
        rotate_left
        · intro w hSw
          (try dsimp only at hSw)
          go_simp
          all_goals (with_reducible rfl)
        try simp only [Act.put, List.getElem_toArray, List.getElem_cons_succ, List.getElem_cons_zero, List.setIfInBounds_toArray, List.set_cons_zero, List.set_cons_succ]
        refine wpAnyH_take (i := 9) (v := ?_) rfl (by kernel_rfl) (by kernel_rfl) (by kernel_rfl) (fun _ _ _ h => h) (Or.inl ⟨by rfl, ?_⟩) (by assumption) ?_
        rotate_left
        · intro w hSw
          (try dsimp only at hSw)
          go_simp
          all_goals (with_reducible rfl)
        try simp only [Act.put, List.getElem_toArray, List.getElem_cons_succ, List.getElem_cons_zero, List.setIfInBounds_toArray, List.set_cons_zero, List.set_cons_succ]
        refine wpAnyH_take (i := 10) (v := undef) rfl (by kernel_rfl) (by kernel_rfl) (by kernel_rfl) (fun _ _ _ h => h) (Or.inr ⟨by rfl, rfl⟩) (by assumption) ?_
        try simp only [Act.put, List.getElem_toArray, List.getElem_cons_succ, List.getElem_cons_zero, List.setIfInBounds_toArray, List.set_cons_zero, List.set_cons_succ]
        refine wpAnyH_take (i := 11) (v := undef) rfl (by kernel_rfl) (by kernel_rfl) (by kernel_rfl) (fun _ _ _ h => h) (Or.inr ⟨by rfl, rfl⟩) (by assumption) ?_
        try simp only [Act.put, List.getElem_toArray, List.getElem_cons_succ, List.getElem_cons_zero, List.setIfInBounds_toArray, List.set_cons_zero, List.set_cons_succ]
        refine wpAnyH_take (i := 12) (v := undef) rfl (by kernel_rfl) (by kernel_rfl) (by kernel_rfl) (fun _ _ _ h => h) (Or.inr ⟨by rfl, rfl⟩) (by assumption) ?_
        try simp only [Act.put, List.getElem_toArray, List.getElem_cons_succ, List.getElem_cons_zero, List.setIfInBounds_toArray, List.set_cons_zero, List.set_cons_succ]
        refine wpAnyH_take (i := 13) (v := undef) rfl (by kernel_rfl) (by kernel_rfl) (by kernel_rfl) (fun _ _ _ h => h) (Or.inr ⟨by rfl, rfl⟩) (by assumption) ?_
        try simp only [Act.put, List.getElem_toArray, List.getElem_cons_succ, List.getElem_cons_zero, List.setIfInBounds_toArray, List.set_cons_zero, List.set_cons_succ]
        refine wpAnyH_take (i := 14) (v := undef) rfl (by kernel_rfl) (by kernel_rfl) (by kernel_rfl) (fun _ _ _ h => h) (Or.inr ⟨by rfl, rfl⟩) (by assumption) ?_
        try simp only [Act.put, List.getElem_toArray, List.getElem_cons_succ, List.getElem_cons_zero, List.setIfInBounds_toArray, List.set_cons_zero, List.set_cons_succ]
        refine wpAnyH_take (i := 15) (v := undef) rfl (by kernel_rfl) (by kernel_rfl) (by kernel_rfl) (fun _ _ _ h => h) (Or.inr ⟨by rfl, rfl⟩) (by assumption) ?_
        try simp only [Act.put, List.getElem_toArray, List.getElem_cons_succ, List.getElem_cons_zero, List.setIfInBounds_toArray, List.set_cons_zero, List.set_cons_succ]
        refine wpAnyH_take (i := 16) (v := undef) rfl (by kernel_rfl) (by kernel_rfl) (by kernel_rfl) (fun _ _ _ h => h) (Or.inr ⟨by rfl, rfl⟩) (by assumption) ?_
        try simp only [Act.put, List.getElem_toArray, List.getElem_cons_succ, List.getElem_cons_zero, List.setIfInBounds_toArray, List.set_cons_zero, List.set_cons_succ]
        refine wpAnyH_take (i := 17) (v := undef) rfl (by kernel_rfl) (by kernel_rfl) (by kernel_rfl) (fun _ _ _ h => h) (Or.inr ⟨by rfl, rfl⟩) (by assumption) ?_
        try simp only [Act.put, List.getElem_toArray, List.getElem_cons_succ, List.getElem_cons_zero, List.setIfInBounds_toArray, List.set_cons_zero, List.set_cons_succ]
        refine wpAnyH_take (i := 18) (v := undef) rfl (by kernel_rfl) (by kernel_rfl) (by kernel_rfl) (fun _ _ _ h => h) (Or.inr ⟨by rfl, rfl⟩) (by assumption) ?_
        try simp only [Act.put, List.getElem_toArray, List.getElem_cons_succ, List.getElem_cons_zero, List.setIfInBounds_toArray, List.set_cons_zero, List.set_cons_succ]
        refine wpAnyH_take (i := 19) (v := undef) rfl (by kernel_rfl) (by kernel_rfl) (by kernel_rfl) (fun _ _ _ h => h) (Or.inr ⟨by rfl, rfl⟩) (by assumption) ?_
        try simp only [Act.put, List.getElem_toArray, List.getElem_cons_succ, List.getElem_cons_zero, List.setIfInBounds_toArray, List.set_cons_zero, List.set_cons_succ]
        refine wpAnyH_take (i := 20) (v := ?_) rfl (by kernel_rfl) (by kernel_rfl) (by kernel_rfl) (fun _ _ _ h => h) (Or.inl ⟨by rfl, ?_⟩) (by assumption) ?_
        rotate_left
        · intro w hSw
          (try dsimp only at hSw)
          go_simp
          all_goals (with_reducible rfl)
        try simp only [Act.put, List.getElem_toArray, List.getElem_cons_succ, List.getElem_cons_zero, List.setIfInBounds_toArray, List.set_cons_zero, List.set_cons_succ]
        refine wpAnyH_done (by kernel_rfl) ?_ _
        all_goals
          go_wp2_with (go_at_call 14; refine (flawDR _ _ _ _ _).mono ?_; rintro e9 V5 ⟨rfl, hk9⟩; (with_reducible first | replace KB := KB.below hk9 | replace KB := KB.drew.below hk9); clear hk9; have KZ := (KB.put (by omega) (by simp) [.int .i64 10, .int .i64 3, .int .i64 i, .int .i64 0] rfl); obtain ⟨_, q0, q1, q2, q3, f0, f1, f2, f3⟩ := KB.head.four; obtain ⟨_, r0, r1, r2, r3, _⟩ := KZ.head.four; have HB := KZ.hb; simp only [setAll] at r0 r1 r2 r3 HB; clear KZ KB)
          exact bodyPost_ret (v := .agg #[.int .i64 10, .int .i64 3, .int .i64 i, .int .i64 0]) (by simp [results, Tryz.results19, go_sem, r0, r1, r2, r3]) rfl ⟨by rw [RE.out]; rfl, HB⟩
      · have zi : zoneI S nm = none := by
          rw [hnm] at hn
          cases hz : zoneI S nm with
          | some z' => rw [nmA_zone hz] at hn; cases hn
          | none => rfl
        have li : linkI S nm = some j := by
          rw [hnm] at hn
          cases hl : linkI S nm with
          | none => rw [nmA_none zi hl] at hn; cases hn
          | some j' => rw [nmA_link zi hl] at hn; cases hn; rfl
        rw [ixD_none zi] at ZC
        rw [ixD_some li] at LC
        by_cases hji : j = i
        · have H2 := Lib.hid (upto_succ HM.out (F2 hji))
          have j1 : decide ((j : Int) < (i : Int)) = false := decide_eq_false (by omega)
          have j2 : decide (j < i) = false := decide_eq_false (by omega)
          clear F1 F2 hn hxx hnm zi li HM
          go_wp2_with fail
          go_region_held3 (fun w' => w'.cell? ⟨w.heap.size, 0, none⟩ = some (.slice A n k) ∧ w'.cell? ⟨w.heap.size, 1, none⟩ = some (.slice B m d) ∧ w'.cell? ⟨w.heap.size, 2, none⟩ = some (.slice (some ⟨g, o, none⟩) q e) ∧ w'.cell? ⟨g, o + i * 2 + 1, none⟩ = some (.string nm)) (first | (with_reducible exact ⟨x0, x1, x2, y0⟩) | go_keep)
            (first | (go_at_call 42; (with_reducible refine (ZC.out _ (by with_reducible first | exact KB.hb | exact KB.drew.hb)).mono ?_); rintro e9 U9 ⟨rfl, hk9⟩; (with_reducible first | replace KB := KB.below hk9 | replace KB := KB.drew.below hk9); clear hk9 x0 x1 x2 y0; obtain ⟨_, x0, x1, x2, _⟩ := KB.tail.head.three; (have y0 := RW.out _ (by with_reducible first | exact KB.hb | exact KB.drew.hb))) | (go_at_call 43; (with_reducible refine (LC.out _ (by with_reducible first | exact KB.hb | exact KB.drew.hb)).mono ?_); rintro e9 U9 ⟨rfl, hk9⟩; (with_reducible first | replace KB := KB.below hk9 | replace KB := KB.drew.below hk9); clear hk9 x0 x1 x2 y0; obtain ⟨_, x0, x1, x2, _⟩ := KB.tail.head.three; (have y0 := RW.out _ (by with_reducible first | exact KB.hb | exact KB.drew.hb))))
          all_goals
            go_wp2_with fail
            go_roundw
            case rel => with_reducible first | exact ⟨i + 1, by omega, int_eqS (by omega), H2, KB⟩ | exact ⟨i + 1, by omega, int_eqS (by omega), H2, KB.drew⟩
            case measure => simp only [intOf]; omega
        · have RE := Lib.hid (R1.out i _ h4 (F1 hji) HM.out)
          have j1 : decide ((j : Int) < (i : Int)) = true := decide_eq_true (by omega)
          have j2 : decide (j < i) = true := decide_eq_true (by omega)
          clear F1 F2 hn hxx hnm zi li
          go_wp2_with fail
          go_region_held3 (fun w' => w'.cell? ⟨w.heap.size, 0, none⟩ = some (.slice A n k) ∧ w'.cell? ⟨w.heap.size, 1, none⟩ = some (.slice B m d) ∧ w'.cell? ⟨w.heap.size, 2, none⟩ = some (.slice (some ⟨g, o, none⟩) q e) ∧ w'.cell? ⟨g, o + i * 2 + 1, none⟩ = some (.string nm)) (first | (with_reducible exact ⟨x0, x1, x2, y0⟩) | go_keep)
            (first | (go_at_call 42; (with_reducible refine (ZC.out _ (by with_reducible first | exact KB.hb | exact KB.drew.hb)).mono ?_); rintro e9 U9 ⟨rfl, hk9⟩; (with_reducible first | replace KB := KB.below hk9 | replace KB := KB.drew.below hk9); clear hk9 x0 x1 x2 y0; obtain ⟨_, x0, x1, x2, _⟩ := KB.tail.head.three; (have y0 := RW.out _ (by with_reducible first | exact KB.hb | exact KB.drew.hb))) | (go_at_call 43; (with_reducible refine (LC.out _ (by with_reducible first | exact KB.hb | exact KB.drew.hb)).mono ?_); rintro e9 U9 ⟨rfl, hk9⟩; (with_reducible first | replace KB := KB.below hk9 | replace KB := KB.drew.below hk9); clear hk9 x0 x1 x2 y0; obtain ⟨_, x0, x1, x2, _⟩ := KB.tail.head.three; (have y0 := RW.out _ (by with_reducible first | exact KB.hb | exact KB.drew.hb))))
          all_goals
            go_wp2_with (go_at_call 14; refine (flawDR _ _ _ _ _).mono ?_; rintro e9 V5 ⟨rfl, hk9⟩; (with_reducible first | replace KB := KB.below hk9 | replace KB := KB.drew.below hk9); clear hk9; have KZ := (KB.put (by omega) (by simp) [.int .i64 10, .int .i64 3, .int .i64 i, .int .i64 0] rfl); obtain ⟨_, q0, q1, q2, q3, f0, f1, f2, f3⟩ := KB.head.four; obtain ⟨_, r0, r1, r2, r3, _⟩ := KZ.head.four; have HB := KZ.hb; simp only [setAll] at r0 r1 r2 r3 HB; clear KZ KB)
            exact bodyPost_ret (v := .agg #[.int .i64 10, .int .i64 3, .int .i64 i, .int .i64 0]) (by simp [results, Tryz.results19, go_sem, r0, r1, r2, r3]) rfl ⟨by rw [RE.out]; rfl, HB⟩
    · obtain rfl : q = i := by omega
      have N1 := Lib.hid HM.out
      clear HM
      go_wp2_with fail
      go_loopw [4] (fun v4 wr => ∃ i : Nat, i ≤ q ∧ v4 = .int .i64 i ∧ Hid (∀ j, j < i → linkF2 S j = none) ∧ BK w [(w.heap.size + 1, [.int .i64 0, .int .i64 0, .int .i64 0, .int .i64 0]), (w.heap.size, [.slice A n k, .slice B m d, .slice C q e])] wr) (fun v _ => q - (intOf v).toNat)
      case atStart => exact ⟨0, by omega, rfl, Lib.hid (fun j h => absurd h (by omega)), KB⟩
      case round =>
        clear KB
        obtain ⟨i, hi, rfl, HM, KB⟩ := hrel
        obtain ⟨_, x0, x1, x2, _⟩ := KB.tail.head.three
        by_cases h4 : i < q
        · obtain ⟨x, hxx⟩ : ∃ x, S.links[i]? = some x := ⟨_, List.getElem?_eq_getElem (by rw [LN.out]; exact h4)⟩
          obtain ⟨g, o, ea0, hg, ca⟩ := (HR.out.below KB.hb).cells (by omega)
          subst ea0
          obtain ⟨nm, hnm⟩ : ∃ nm, x.target = nm := ⟨_, rfl⟩
          have RW := Lib.hid (fun W (h : Below w.heap.size w W) => (show W.cell? ⟨g, o + i * 2, none⟩ = some (.string nm) from by
            obtain ⟨g3, o3, e3, hg3, ca3⟩ := (HR.out.below h).cells (by omega)
            cases e3
            have t9 := row_at ca3 (show (S.links.map Lk.vals)[i]? = some (Lk.vals x) by rw [List.getElem?_map, hxx]; rfl) 0 _ rfl
            rw [← hnm]
            exact t9))
          have y0 := RW.out _ KB.hb
          clear ca hg
          have ZC := Lib.hid (fun W (h : Below w.heap.size w W) => ZH.out nm W h)
          have LC := Lib.hid (fun W (h : Below w.heap.size w W) => LH.out nm W h)
          have FE := linkF2_is hxx
          rw [hnm] at FE
          cases hz : zoneI S nm with
          | some z =>
            rw [nmA_zone hz] at FE
            have H2 := Lib.hid (upto_succ HM.out FE)
            rw [ixD_some hz] at ZC
            have z1 : decide ((z : Int) < 0) = false := decide_eq_false (by omega)
            clear FE hz hxx hnm HM LC
            go_wp2_with fail
            refine wp_region_held_drew (S := (fun w' => w'.cell? ⟨w.heap.size, 0, none⟩ = some (.slice A n k) ∧ w'.cell? ⟨w.heap.size, 1, none⟩ = some (.slice B m d) ∧ w'.cell? ⟨w.heap.size, 2, none⟩ = some (.slice (some ⟨g, o, none⟩) q e) ∧ w'.cell? ⟨g, o + i * 2, none⟩ = some (.string nm))) (by kernel_rfl) (by (first | (with_reducible exact ⟨x0, x1, x2, y0⟩) | go_keep)) (fun hHeld => ?_)
            refine wpAnyH_take (i := 0) (v := ?_) rfl (by kernel_rfl) (by kernel_rfl) (by kernel_rfl) (fun _ _ _ h => h) (Or.inl ⟨by rfl, ?_⟩) (by assumption) ?_
            rotate_left
            · intro w hSw
              (try dsimp only at hSw)
              go_simp
              all_goals (with_reducible rfl)
            try simp only [Act.put, List.getElem_toArray, List.getElem_cons_zero, List.setIfInBounds_toArray, List.set_cons_zero, List.set_cons_succ]
            refine wpAnyH_take (i := 1) (v := ?_) rfl (by kernel_rfl) (by kernel_rfl) (by kernel_rfl) (fun _ _ _ h => h) (Or.inl ⟨by rfl, ?_⟩) (by assumption) ?_
            rotate_left
            · intro w hSw
              (try dsimp only at hSw)
              go_simp
              all_goals (with_reducible rfl)
            try simp only [Act.put, List.getElem_toArray, List.getElem_cons_succ, List.getElem_cons_zero, List.setIfInBounds_toArray, List.set_cons_zero, List.set_cons_succ]
            refine wpAnyH_take (i := 2) (v := ?_) rfl (by kernel_rfl) (by kernel_rfl) (by kernel_rfl) (fun _ _ _ h => h) (Or.inl ⟨by rfl, ?_⟩) (by assumption) ?_
            rotate_left
            · intro w hSw
              (try dsimp only at hSw)
              go_simp
              all_goals (with_reducible rfl)
            try simp only [Act.put, List.getElem_toArray, List.getElem_cons_succ, List.getElem_cons_zero, List.setIfInBounds_toArray, List.set_cons_zero, List.set_cons_succ]
            refine wpAnyH_take (i := 3) (v := ?_) rfl (by kernel_rfl) (by kernel_rfl) (by kernel_rfl) (fun _ _ _ h => h) (Or.inl ⟨by rfl, ?_⟩) (by assumption) ?_
            rotate_left
            · intro w hSw
              (try dsimp only at hSw)
              go_simp
              all_goals (with_reducible rfl)
            try simp only [Act.put, List.getElem_toArray, List.getElem_cons_succ, List.getElem_cons_zero, List.setIfInBounds_toArray, List.set_cons_zero, List.set_cons_succ]
            refine wpAnyH_take (i := 4) (v := ?_) rfl (by kernel_rfl) (by kernel_rfl) (by kernel_rfl) (fun _ _ _ h => h) (Or.inl ⟨by rfl, ?_⟩) (by assumption) ?_
            rotate_left
            · intro w hSw
              (try dsimp only at hSw)
              go_simp
              all_goals (with_reducible rfl)
            try simp only [Act.put, List.getElem_toArray, List.getElem_cons_succ, List.getElem_cons_zero, List.setIfInBounds_toArray, List.set_cons_zero, List.set_cons_succ]
            refine wpAnyH_take (i := 5) (v := ?_) rfl (by kernel_rfl) (by kernel_rfl) (by kernel_rfl) (fun _ _ _ h => h) (Or.inl ⟨by rfl, ?_⟩) (by assumption) ?_
            rotate_left
            · intro w hSw
              (try dsimp only at hSw)
              go_simp
              all_goals (with_reducible rfl)
            try simp only [Act.put, List.getElem_toArray, List.getElem_cons_succ, List.getElem_cons_zero, List.setIfInBounds_toArray, List.set_cons_zero, List.set_cons_succ]
            refine wpAnyH_take (i := 6) (v := ?_) rfl (by kernel_rfl) (by kernel_rfl) (by kernel_rfl) (fun _ _ _ h => h) (Or.inl ⟨by rfl, ?_⟩) (by assumption) ?_
            rotate_left
            · intro w hSw
              (try dsimp only at hSw)
              go_simp
              all_goals (with_reducible rfl)
            try simp only [Act.put, List.getElem_toArray, List.getElem_cons_succ, List.getElem_cons_zero, List.setIfInBounds_toArray, List.set_cons_zero, List.set_cons_succ]
            refine wpAnyH_ready (rs := [7]) (by kernel_rfl) (by simp) ?_
            refine AllReadyH.cons rfl (fun K hK => ?_) AllReadyH.nil
            go_simp
            (go_at_call 42; (with_reducible refine (ZC.out _ (by with_reducible first | exact KB.hb | exact KB.drew.hb)).mono ?_); rintro e9 U9 ⟨rfl, hk9⟩; (with_reducible first | replace KB := KB.below hk9 | replace KB := KB.drew.below hk9); clear hk9 x0 x1 x2 y0; obtain ⟨_, x0, x1, x2, _⟩ := KB.tail.head.three; (have y0 := RW.out _ (by with_reducible first | exact KB.hb | exact KB.drew.hb)))
            go_wp2_with fail
            refine hK.out _ _ (by (first | (with_reducible exact ⟨x0, x1, x2, y0⟩) | go_keep)) (fun hHeld2 => ?_)
            clear hK K
            try simp only [Act.put, List.getElem_toArray, List.getElem_cons_succ, List.getElem_cons_zero, List.setIfInBounds_toArray, List.set_cons_zero, List.set_cons_succ]
            refine wpAnyH_take (i := 8) (v := ?_) rfl (by kernel_rfl) (by kernel_rfl) (by kernel_rfl) (fun _ _ _ h => h) (Or.inl ⟨by rfl, ?_⟩) (by assumption) ?_
            rotate_left
            · intro w hSw
              (try dsimp only at hSw)
              go_simp
              all_goals (with_reducible rfl)
            try simp only [Act.put, List.getElem_toArray, List.getElem_cons_succ, List.getElem_cons_zero, List.setIfInBounds_toArray, List.set_cons_zero, List.set_cons_succ]
            refine wpAnyH_take (i := 9) (v := ?_) rfl (by kernel_rfl) (by kernel_rfl) (by kernel_rfl) (fun _ _ _ h => h) (Or.inl ⟨by rfl, ?_⟩) (by assumption) ?_
            rotate_left
            · intro w hSw
              (try dsimp only at hSw)
              go_simp
              all_goals (with_reducible rfl)
            try simp only [Act.put, List.getElem_toArray, List.getElem_cons_succ, List.getElem_cons_zero, List.setIfInBounds_toArray, List.set_cons_zero, List.set_cons_succ]
            refine wpAnyH_take (i := 10) (v := undef) rfl (by kernel_rfl) (by kernel_rfl) (by kernel_rfl) (fun _ _ _ h => h) (Or.inr ⟨by rfl, rfl⟩) (by assumption) ?_
            try simp only [Act.put, List.getElem_toArray, List.getElem_cons_succ, List.getElem_cons_zero, List.setIfInBounds_toArray, List.set_cons_zero, List.set_cons_succ]
            refine wpAnyH_take (i := 11) (v := undef) rfl (by kernel_rfl) (by kernel_rfl) (by kernel_rfl) (fun _ _ _ h => h) (Or.inr ⟨by rfl, rfl⟩) (by assumption) ?_
            try simp only [Act.put, List.getElem_toArray, List.getElem_cons_succ, List.getElem_cons_zero, List.setIfInBounds_toArray, List.set_cons_zero, List.set_cons_succ]
            refine wpAnyH_take (i := 12) (v := undef) rfl (by kernel_rfl) (by kernel_rfl) (by kernel_rfl) (fun _ _ _ h => h) (Or.inr ⟨by rfl, rfl⟩) (by assumption) ?_
            try simp only [Act.put, List.getElem_toArray, List.getElem_cons_succ, List.getElem_cons_zero, List.setIfInBounds_toArray, List.set_cons_zero, List.set_cons_succ]
            refine wpAnyH_take (i := 13) (v := undef) rfl (by kernel_rfl) (by kernel_rfl) (by kernel_rfl) (fun _ _ _ h => h) (Or.inr ⟨by rfl, rfl⟩) (by assumption) ?_
            try simp only [Act.put, List.getElem_toArray, List.getElem_cons_succ, List.getElem_cons_zero, List.setIfInBounds_toArray, List.set_cons_zero, List.set_cons_succ]
            refine wpAnyH_take (i := 14) (v := undef) rfl (by kernel_rfl) (by kernel_rfl) (by kernel_rfl) (fun _ _ _ h => h) (Or.inr ⟨by rfl, rfl⟩) (by assumption) ?_
            try simp only [Act.put, List.getElem_toArray, List.getElem_cons_succ, List.getElem_cons_zero, List.setIfInBounds_toArray, List.set_cons_zero, List.set_cons_succ]
            refine wpAnyH_take (i := 15) (v := undef) rfl (by kernel_rfl) (by kernel_rfl) (by kernel_rfl) (fun _ _ _ h => h) (Or.inr ⟨by rfl, rfl⟩) (by assumption) ?_
            try simp only [Act.put, List.getElem_toArray, List.getElem_cons_succ, List.getElem_cons_zero, List.setIfInBounds_toArray, List.set_cons_zero, List.set_cons_succ]
            refine wpAnyH_take (i := 16) (v := undef) rfl (by kernel_rfl) (by kernel_rfl) (by kernel_rfl) (fun _ _ _ h => h) (Or.inr ⟨by rfl, rfl⟩) (by assumption) ?_
            try simp only [Act.put, List.getElem_toArray, List.getElem_cons_succ, List.getElem_cons_zero, List.setIfInBounds_toArray, List.set_cons_zero, List.set_cons_succ]
            refine wpAnyH_take (i := 17) (v := undef) rfl (by kernel_rfl) (by kernel_rfl) (by kernel_rfl) (fun _ _ _ h => h) (Or.inr ⟨by rfl, rfl⟩) (by assumption) ?_
            try simp only [Act.put, List.getElem_toArray, List.getElem_cons_succ, List.getElem_cons_zero, List.setIfInBounds_toArray, List.set_cons_zero, List.set_cons_succ]
            refine wpAnyH_take (i := 18) (v := undef) rfl (by kernel_rfl) (by kernel_rfl) (by kernel_rfl) (fun _ _ _ h => h) (Or.inr ⟨by rfl, rfl⟩) (by assumption) ?_
            try simp only [Act.put, List.getElem_toArray, List.getElem_cons_succ, List.getElem_cons_zero, List.setIfInBounds_toArray, List.set_cons_zero, List.set_cons_succ]
            refine wpAnyH_take (i := 19) (v := ?_) rfl (by kernel_rfl) (by kernel_rfl) (by kernel_rfl) (fun _ _ _ h => h) (Or.inl ⟨by rfl, ?_⟩) (by assumption) ?_
            rotate_left
            · intro w hSw
              (try dsimp only at hSw)
              go_simp
              all_goals (with_reducible rfl)
            try simp only [Act.put, List.getElem_toArray, List.getElem_cons_succ, List.getElem_cons_zero, List.setIfInBounds_toArray, List.set_cons_zero, List.set_cons_succ]
            refine wpAnyH_done (by kernel_rfl) ?_ _
            all_goals
              go_wp2_with fail
              go_roundw
              case rel => with_reducible first | exact ⟨i + 1, by omega, int_eqS (by omega), H2, KB⟩ | exact ⟨i + 1, by omega, int_eqS (by omega), H2, KB.drew⟩
              case measure => simp only [intOf]; omega
          | none =>
            rw [ixD_none hz] at ZC
            cases hl : linkI S nm with
            | some j =>
              rw [nmA_link hz hl] at FE
              have H2 := Lib.hid (upto_succ HM.out FE)
              rw [ixD_some hl] at LC
              have z1 : decide ((j : Int) < 0) = false := decide_eq_false (by omega)
              clear FE hz hl hxx hnm HM
              go_wp2_with fail
              go_region_held3 (fun w' => w'.cell? ⟨w.heap.size, 0, none⟩ = some (.slice A n k) ∧ w'.cell? ⟨w.heap.size, 1, none⟩ = some (.slice B m d) ∧ w'.cell? ⟨w.heap.size, 2, none⟩ = some (.slice (some ⟨g, o, none⟩) q e) ∧ w'.cell? ⟨g, o + i * 2, none⟩ = some (.string nm)) (first | (with_reducible exact ⟨x0, x1, x2, y0⟩) | go_keep)
                (first | (go_at_call 42; (with_reducible refine (ZC.out _ (by with_reducible first | exact KB.hb | exact KB.drew.hb)).mono ?_); rintro e9 U9 ⟨rfl, hk9⟩; (with_reducible first | replace KB := KB.below hk9 | replace KB := KB.drew.below hk9); clear hk9 x0 x1 x2 y0; obtain ⟨_, x0, x1, x2, _⟩ := KB.tail.head.three; (have y0 := RW.out _ (by with_reducible first | exact KB.hb | exact KB.drew.hb))) | (go_at_call 43; (with_reducible refine (LC.out _ (by with_reducible first | exact KB.hb | exact KB.drew.hb)).mono ?_); rintro e9 U9 ⟨rfl, hk9⟩; (with_reducible first | replace KB := KB.below hk9 | replace KB := KB.drew.below hk9); clear hk9 x0 x1 x2 y0; obtain ⟨_, x0, x1, x2, _⟩ := KB.tail.head.three; (have y0 := RW.out _ (by with_reducible first | exact KB.hb | exact KB.drew.hb))))
              all_goals
                go_wp2_with fail
                go_roundw
                case rel => with_reducible first | exact ⟨i + 1, by omega, int_eqS (by omega), H2, KB⟩ | exact ⟨i + 1, by omega, int_eqS (by omega), H2, KB.drew⟩
                case measure => simp only [intOf]; omega
            | none =>
              rw [nmA_none hz hl] at FE
              have RE := Lib.hid (R2.out N1.out i _ h4 FE HM.out)
              rw [ixD_none hl] at LC
              clear FE hz hl hxx hnm
              go_wp2_with fail
              go_region_held3 (fun w' => w'.cell? ⟨w.heap.size, 0, none⟩ = some (.slice A n k) ∧ w'.cell? ⟨w.heap.size, 1, none⟩ = some (.slice B m d) ∧ w'.cell? ⟨w.heap.size, 2, none⟩ = some (.slice (some ⟨g, o, none⟩) q e) ∧ w'.cell? ⟨g, o + i * 2, none⟩ = some (.string nm)) (first | (with_reducible exact ⟨x0, x1, x2, y0⟩) | go_keep)
                (first | (go_at_call 42; (with_reducible refine (ZC.out _ (by with_reducible first | exact KB.hb | exact KB.drew.hb)).mono ?_); rintro e9 U9 ⟨rfl, hk9⟩; (with_reducible first | replace KB := KB.below hk9 | replace KB := KB.drew.below hk9); clear hk9 x0 x1 x2 y0; obtain ⟨_, x0, x1, x2, _⟩ := KB.tail.head.three; (have y0 := RW.out _ (by with_reducible first | exact KB.hb | exact KB.drew.hb))) | (go_at_call 43; (with_reducible refine (LC.out _ (by with_reducible first | exact KB.hb | exact KB.drew.hb)).mono ?_); rintro e9 U9 ⟨rfl, hk9⟩; (with_reducible first | replace KB := KB.below hk9 | replace KB := KB.drew.below hk9); clear hk9 x0 x1 x2 y0; obtain ⟨_, x0, x1, x2, _⟩ := KB.tail.head.three; (have y0 := RW.out _ (by with_reducible first | exact KB.hb | exact KB.drew.hb))))
              all_goals
                go_wp2_with (go_at_call 14; refine (flawDR _ _ _ _ _).mono ?_; rintro e9 V5 ⟨rfl, hk9⟩; (with_reducible first | replace KB := KB.below hk9 | replace KB := KB.drew.below hk9); clear hk9; have KZ := (KB.put (by omega) (by simp) [.int .i64 8, .int .i64 3, .int .i64 i, .int .i64 0] rfl); obtain ⟨_, q0, q1, q2, q3, f0, f1, f2, f3⟩ := KB.head.four; obtain ⟨_, r0, r1, r2, r3, _⟩ := KZ.head.four; have HB := KZ.hb; simp only [setAll] at r0 r1 r2 r3 HB; clear KZ KB)
                exact bodyPost_ret (v := .agg #[.int .i64 8, .int .i64 3, .int .i64 i, .int .i64 0]) (by simp [results, Tryz.results19, go_sem, r0, r1, r2, r3]) rfl ⟨by rw [RE.out]; rfl, HB⟩
        · obtain rfl : q = i := by omega
          have N2 := Lib.hid HM.out
          clear HM
          go_wp2_with fail
          go_loopw [5] (fun v5 wr => ∃ i : Nat, i ≤ q ∧ v5 = .int .i64 i ∧ Hid (∀ j, j < i → linkF3 S j = none) ∧ BK w [(w.heap.size + 1, [.int .i64 0, .int .i64 0, .int .i64 0, .int .i64 0]), (w.heap.size, [.slice A n k, .slice B m d, .slice C q e])] wr) (fun v _ => q - (intOf v).toNat)
          case atStart => exact ⟨0, by omega, rfl, Lib.hid (fun j h => absurd h (by omega)), KB⟩
          case round =>
            clear KB
            obtain ⟨i, hi, rfl, HM, KB⟩ := hrel
            obtain ⟨_, x0, x1, x2, _⟩ := KB.tail.head.three
            by_cases h4 : i < q
            · obtain ⟨x, hxx⟩ : ∃ x, S.links[i]? = some x := ⟨_, List.getElem?_eq_getElem (by rw [LN.out]; exact h4)⟩
              obtain ⟨g, o, ea0, hg, ca⟩ := (HR.out.below KB.hb).cells (by omega)
              subst ea0
              obtain ⟨nm, hnm⟩ : ∃ nm, x.name = nm := ⟨_, rfl⟩
              have RW := Lib.hid (fun W (h : Below w.heap.size w W) => (show W.cell? ⟨g, o + i * 2 + 1, none⟩ = some (.string nm) from by
                obtain ⟨g3, o3, e3, hg3, ca3⟩ := (HR.out.below h).cells (by omega)
                cases e3
                have t9 := row_at ca3 (show (S.links.map Lk.vals)[i]? = some (Lk.vals x) by rw [List.getElem?_map, hxx]; rfl) 1 _ rfl
                rw [← hnm]
                exact t9))
              have y0 := RW.out _ KB.hb
              clear ca hg
              have FE := linkF3_is hxx
              rw [hnm] at FE
              have RC := Lib.hid (fun W (h : Below w.heap.size w W) => RH.out nm W h)
              clear hxx hnm
              cases hr : resR S nm with
              | some z =>
                rw [hr, if_neg (by simp)] at FE
                have H2 := Lib.hid (upto_succ HM.out FE)
                unfold RetZI at RC
                rw [hr] at RC
                clear FE hr HM
                simp only [Option.getD_some, Option.isSome_some] at RC
                go_wp2_with fail
                go_region_held3 (fun w' => w'.cell? ⟨w.heap.size, 0, none⟩ = some (.slice A n k) ∧ w'.cell? ⟨w.heap.size, 1, none⟩ = some (.slice B m d) ∧ w'.cell? ⟨w.heap.size, 2, none⟩ = some (.slice (some ⟨g, o, none⟩) q e) ∧ w'.cell? ⟨g, o + i * 2 + 1, none⟩ = some (.string nm)) (first | (with_reducible exact ⟨x0, x1, x2, y0⟩) | go_keep)
                  (first | (go_at_call 44; (with_reducible refine (RC.out _ (by with_reducible first | exact KB.hb | exact KB.drew.hb)).mono ?_); rintro e9 U9 ⟨rfl, hk9⟩; (with_reducible first | replace KB := KB.below hk9 | replace KB := KB.drew.below hk9); clear hk9 x0 x1 x2 y0; obtain ⟨_, x0, x1, x2, _⟩ := KB.tail.head.three; (have y0 := RW.out _ (by with_reducible first | exact KB.hb | exact KB.drew.hb))))
                all_goals
                  go_wp2_with fail
                  go_roundw
                  case rel => with_reducible first | exact ⟨i + 1, by omega, int_eqS (by omega), H2, KB⟩ | exact ⟨i + 1, by omega, int_eqS (by omega), H2, KB.drew⟩
                  case measure => simp only [intOf]; omega
              | none =>
                rw [hr, if_pos rfl] at FE
                have RE := Lib.hid (R3.out N1.out N2.out i _ h4 FE HM.out)
                unfold RetZI at RC
                rw [hr] at RC
                clear FE hr
                simp only [Option.getD_none, Option.isSome_none] at RC
                go_wp2_with fail
                go_region_held3 (fun w' => w'.cell? ⟨w.heap.size, 0, none⟩ = some (.slice A n k) ∧ w'.cell? ⟨w.heap.size, 1, none⟩ = some (.slice B m d) ∧ w'.cell? ⟨w.heap.size, 2, none⟩ = some (.slice (some ⟨g, o, none⟩) q e) ∧ w'.cell? ⟨g, o + i * 2 + 1, none⟩ = some (.string nm)) (first | (with_reducible exact ⟨x0, x1, x2, y0⟩) | go_keep)
                  (first | (go_at_call 44; (with_reducible refine (RC.out _ (by with_reducible first | exact KB.hb | exact KB.drew.hb)).mono ?_); rintro e9 U9 ⟨rfl, hk9⟩; (with_reducible first | replace KB := KB.below hk9 | replace KB := KB.drew.below hk9); clear hk9 x0 x1 x2 y0; obtain ⟨_, x0, x1, x2, _⟩ := KB.tail.head.three; (have y0 := RW.out _ (by with_reducible first | exact KB.hb | exact KB.drew.hb))))
                all_goals
                  go_wp2_with (go_at_call 14; refine (flawDR _ _ _ _ _).mono ?_; rintro e9 V5 ⟨rfl, hk9⟩; (with_reducible first | replace KB := KB.below hk9 | replace KB := KB.drew.below hk9); clear hk9; have KZ := (KB.put (by omega) (by simp) [.int .i64 16, .int .i64 3, .int .i64 i, .int .i64 0] rfl); obtain ⟨_, q0, q1, q2, q3, f0, f1, f2, f3⟩ := KB.head.four; obtain ⟨_, r0, r1, r2, r3, _⟩ := KZ.head.four; have HB := KZ.hb; simp only [setAll] at r0 r1 r2 r3 HB; clear KZ KB)
                  exact bodyPost_ret (v := .agg #[.int .i64 16, .int .i64 3, .int .i64 i, .int .i64 0]) (by simp [results, Tryz.results19, go_sem, r0, r1, r2, r3]) rfl ⟨by rw [RE.out]; rfl, HB⟩
            · obtain rfl : q = i := by omega
              have RE := Lib.hid (R4.out N1.out N2.out HM.out)
              clear HM
              have KZ := (KB.put (by omega) (by simp) [.int .i64 0, .int .i64 0, .int .i64 0, .int .i64 0] rfl)
              obtain ⟨_, q0, q1, q2, q3, f0, f1, f2, f3⟩ := KB.head.four
              obtain ⟨_, r0, r1, r2, r3, _⟩ := KZ.head.four
              have HB := KZ.hb
              simp only [setAll] at r0 r1 r2 r3 HB
              clear KZ
              go_wp2
              exact bodyPost_ret (v := .agg #[.int .i64 0, .int .i64 0, .int .i64 0, .int .i64 0]) (by simp [results, Tryz.results19, go_sem, r0, r1, r2, r3]) rfl ⟨by rw [RE.out]; rfl, HB⟩
end Go.Proofs.YtmhpnmlgfdomkaaGreatDoor
