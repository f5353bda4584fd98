/- The document's answer of layer 13: what is wrong with a source first. -/
import Derived.Test.YtmhpnmlgfdomkaaGreatDoorZNef
import Derived.Test.YtmhpnmlgfdomkaaGreatDoorZNed
import Derived.Test.YtmhpnmlgfdomkaaGreatDoorZGhe
set_option maxRecDepth 100000
set_option maxHeartbeats 64000000
namespace Go.Proofs.YtmhpnmlgfdomkaaGreatDoor
open Go.RowKit Go.Maps Go.WideShapes
theorem ruleF_if {L : List Rl} {i : Nat} {x : Rl} (h : L[i]? = some x) : ruleF L i = if x.last < x.fr then some ⟨16, 1, i, 0⟩ else none := by unfold ruleF; rw [h]
theorem setF_no {L : List Rl} {i : Nat} {x : Rl} (h : L[i]? = some x) (k : ¬ firstR L i ∨ setErr (setL L x.name) = 0) : setF L i = none := by
  unfold setF; rw [h]; simp only; rw [if_neg (fun c => k.elim (fun k => k c.1) c.2)]
theorem setF_yes {L : List Rl} {i : Nat} {x : Rl} (h : L[i]? = some x) (k : firstR L i) (k2 : setErr (setL L x.name) ≠ 0) : setF L i = some ⟨setErr (setL L x.name), 1, i, 0⟩ := by
  unfold setF; rw [h]; simp only; rw [if_pos ⟨k, k2⟩]
theorem zoneF_dup {S : Sr} {i k : Nat} {z y : Zn} (h : S.zones[i]? = some z) (hk : k < i) (hy : S.zones[k]? = some y) (e : y.name = z.name) : zoneF S i = some ⟨10, 2, i, 0⟩ := by
  unfold zoneF; rw [h]; simp only; rw [if_pos ⟨k, y, hk, hy, e⟩]
theorem zoneF_eras {S : Sr} {i : Nat} {z : Zn} (h : S.zones[i]? = some z) (no : ∀ (k : Nat) (y : Zn), k < i → S.zones[k]? = some y → y.name ≠ z.name) : zoneF S i = fsR z.eras.length (eraF S.rules z.eras i) := by
  unfold zoneF; rw [h]; simp only; rw [if_neg (fun ⟨k, y, a, b, c⟩ => no k y a b c)]
theorem eraF_if {L : List Rl} {es : List Er} {z k : Nat} {x : Er} (h : es[k]? = some x) : eraF L es z k = if eraErr L (prevE es k) x ≠ 0 then some ⟨eraErr L (prevE es k) x, 2, z, k⟩ else none := by unfold eraF; rw [h]
theorem check_no (A B C : Option Addr) (n k m d q e : Nat) (w : World) (RG : Hid (∀ W, Below w.heap.size w W → Calls Tryz.prog 13 #[.agg #[.slice A n k, .slice B m d, .slice C q e]] W (RetV W (.bool false)))) : Calls Tryz.prog 7 #[.agg #[.slice A n k, .slice B m d, .slice C q e]] w (RetV w (Fw.val ⟨1, 0, 0, 0⟩)) := by
  go_enter Tryz.func7, Tryz.ntmps7
  go_upto_region 1 with (fail)
  have KB := ((BK.nil w).lit [.slice A n k, .slice B m d, .slice C q e] 26).lit [.int .i64 0, .int .i64 0, .int .i64 0, .int .i64 0] 31
  simp only [World.size_alloc] at *
  generalize (w.alloc (.cells #[.slice A n k, .slice B m d, .slice C q e] 26)).alloc (.cells #[.int .i64 0, .int .i64 0, .int .i64 0, .int .i64 0] 31) = W at *
  obtain ⟨_, x0, x1, x2, _⟩ := KB.tail.head.three
  go_wp2_with (first | (go_at_call 13; (with_reducible refine (RG.out _ (by with_reducible first | exact KB.hb | exact KB.drew.hb)).mono ?_); rintro e9 U9 ⟨rfl, hk9⟩; (with_reducible first | replace KB := KB.below hk9 | replace KB := KB.drew.below hk9); clear hk9 x0 x1 x2; obtain ⟨_, x0, x1, x2, _⟩ := KB.tail.head.three) | (go_at_call 14; refine (flawDR _ _ _ _ _).mono ?_; rintro e9 V5 ⟨rfl, hk9⟩; (with_reducible first | replace KB := KB.below hk9 | replace KB := KB.drew.below hk9); clear hk9; have KZ := (KB.put (by omega) (by simp) [.int .i64 1, .int .i64 0, .int .i64 0, .int .i64 0] rfl); obtain ⟨_, q0, q1, q2, q3, f0, f1, f2, f3⟩ := KB.head.four; obtain ⟨_, r0, r1, r2, r3, _⟩ := KZ.head.four; have HB := KZ.hb; simp only [setAll] at r0 r1 r2 r3 HB; clear KZ KB))
  exact bodyPost_ret (v := .agg #[.int .i64 1, .int .i64 0, .int .i64 0, .int .i64 0]) (by simp [results, Tryz.results7, go_sem, r0, r1, r2, r3]) rfl ⟨rfl, HB⟩
theorem check_w (S : Sr) (A B C : Option Addr) (n k m d q e : Nat) (ze : List Ze) (w : World) (RES lf : Fw) (HR : Hid (RulV w A n k S.rules)) (HZ : Hid (Rs 2 w B m d (ze.map Ze.vals))) (HE : Hid (∀ p ∈ ze, eraRows w p)) (ZA : Hid (ze.map Prod.fst = S.zones)) (LR : Hid (S.rules.length = n)) (LZ : Hid (ze.length = m))
    (_mn : n ≤ 9223372036854775807) (_mm : m ≤ 9223372036854775807)
    (RG : Hid (∀ W, Below w.heap.size w W → Calls Tryz.prog 13 #[.agg #[.slice A n k, .slice B m d, .slice C q e]] W (RetV W (.bool true))))
    (FC : Hid (∀ (i : Nat) (x : Rl), S.rules[i]? = some x → ∃ r : Bool, (r = true ↔ firstR S.rules i) ∧ ∀ W, Below w.heap.size w W → Calls Tryz.prog 15 #[.agg #[.slice A n k, .slice B m d, .slice C q e], .int .i64 i] W (RetV W (.bool r))))
    (SC : Hid (∀ (s : ByteArray) W, Below w.heap.size w W → Calls Tryz.prog 17 #[.agg #[.slice A n k, .slice B m d, .slice C q e], .string s] W (RetOwn W (setL S.rules s))))
    (EC : Hid (∀ (s : ByteArray) W A' c', RulV W A' (setL S.rules s).length c' (setL S.rules s) → Calls Tryz.prog 16 #[.slice A' (setL S.rules s).length c'] W (RetV W (.int .i64 (setErr (setL S.rules s))))))
    (YC : Hid (∀ (p : Ze), p ∈ ze → ∀ (i : Nat) (x : Er), p.1.eras[i]? = some x → ∀ W, Below w.heap.size w W → Calls Tryz.prog 18 #[.agg #[.slice A n k, .slice B m d, .slice C q e], .agg #[.string p.1.name, .slice p.2.a p.2.n p.2.c], .int .i64 i] W (RetV W (.int .i64 (eraErr S.rules (prevE p.1.eras i) x)))))
    (LK : Hid (∀ W, Below w.heap.size w W → Calls Tryz.prog 19 #[.agg #[.slice A n k, .slice B m d, .slice C q e]] W (RetV W (.agg #[.int .i64 lf.err, .int .i64 lf.kind, .int .i64 lf.at_, .int .i64 lf.era]))))
    (R1 : Hid (∀ i v, i < n → ruleF S.rules i = some v → (∀ j, j < i → ruleF S.rules j = none) → RES = v))
    (R2 : Hid ((∀ j, j < n → ruleF S.rules j = none) → ∀ i v, i < n → setF S.rules i = some v → (∀ j, j < i → setF S.rules j = none) → RES = v))
    (R3 : Hid ((∀ j, j < n → ruleF S.rules j = none) → (∀ j, j < n → setF S.rules j = none) → ∀ i v, i < m → zoneF S i = some v → (∀ j, j < i → zoneF S j = none) → RES = v))
    (R4 : Hid ((∀ j, j < n → ruleF S.rules j = none) → (∀ j, j < n → setF S.rules j = none) → (∀ j, j < m → zoneF S j = none) → RES = lf)) : Calls Tryz.prog 7 #[.agg #[.slice A n k, .slice B m d, .slice C q e]] w (RetV w RES.val) := by
  go_enter Tryz.func7, Tryz.ntmps7
  go_upto_region 1 with (fail)
  have KB := ((BK.nil w).lit [.slice A n k, .slice B m d, .slice C q e] 26).lit [.int .i64 0, .int .i64 0, .int .i64 0, .int .i64 0] 31
  simp only [World.size_alloc] at *
  generalize (w.alloc (.cells #[.slice A n k, .slice B m d, .slice C q e] 26)).alloc (.cells #[.int .i64 0, .int .i64 0, .int .i64 0, .int .i64 0] 31) = W at *
  obtain ⟨_, x0, x1, x2, _⟩ := KB.tail.head.three
  go_wp2_with (first | (go_at_call 13; (with_reducible refine (RG.out _ (by with_reducible first | exact KB.hb | exact KB.drew.hb)).mono ?_); rintro e9 U9 ⟨rfl, hk9⟩; (with_reducible first | replace KB := KB.below hk9 | replace KB := KB.drew.below hk9); clear hk9 x0 x1 x2; obtain ⟨_, x0, x1, x2, _⟩ := KB.tail.head.three))
  clear RG x0 x1 x2
  go_loopw [3] (fun v3 wr => ∃ i : Nat, i ≤ n ∧ v3 = .int .i64 i ∧ Hid (∀ j, j < i → ruleF S.rules j = none) ∧ BK w [(w.heap.size + 1, [.int .i64 0, .int .i64 0, .int .i64 0, .int .i64 0]), (w.heap.size, [.slice A n k, .slice B m d, .slice C q e])] wr) (fun v _ => n - (intOf v).toNat)
  case atStart => exact ⟨0, by omega, rfl, Lib.hid (fun j h => absurd h (by omega)), KB⟩
  case round =>
    clear KB
    obtain ⟨i, hi, rfl, HM, KB⟩ := hrel
    obtain ⟨_, x0, x1, x2, _⟩ := KB.tail.head.three
    by_cases h4 : i < n
    · obtain ⟨x, hxx⟩ : ∃ x, S.rules[i]? = some x := ⟨_, List.getElem?_eq_getElem (by rw [LR.out]; exact h4)⟩
      obtain ⟨g, o, ea0, hg, ca⟩ := (HR.out.below KB.hb).cells (by omega)
      subst ea0
      have ra := row_at ca (show (S.rules.map Rl.vals)[i]? = some (Rl.vals x) by rw [List.getElem?_map, hxx]; rfl)
      have y1 : wr.cell? ⟨g, o + i * 11 + 1, none⟩ = some (.int .i64 x.fr) := ra 1 _ rfl
      have y2 : wr.cell? ⟨g, o + i * 11 + 2, none⟩ = some (.int .i64 x.last) := ra 2 _ rfl
      have FE := ruleF_if hxx
      obtain ⟨fr, hfr⟩ : ∃ fr, x.fr = fr := ⟨_, rfl⟩
      obtain ⟨la, hla⟩ : ∃ la, x.last = la := ⟨_, rfl⟩
      rw [hfr] at y1 FE
      rw [hla] at y2 FE
      by_cases h5 : la < fr
      · rw [if_pos h5] at FE
        have RE := Lib.hid (R1.out i _ h4 FE HM.out)
        have d5 : decide (la < fr) = true := decide_eq_true h5
        clear ca ra hxx FE hfr hla h5
        go_wp2_with fail
        go_quiet (fail)
        rename_i nq
        replace KB := KB.below (below_drewN (Below.refl _ _) nq)
        clear x0 x1 x2 y1 y2
        generalize World.drewN _ nq = V9 at *
        obtain ⟨_, x0, x1, x2, _⟩ := KB.tail.head.three
        go_wp2_with (go_at_call 14; refine (flawDR _ _ _ _ _).mono ?_; rintro e9 V5 ⟨rfl, hk9⟩; (with_reducible first | replace KB := KB.below hk9 | replace KB := KB.drew.below hk9); clear hk9; have KZ := (KB.put (by omega) (by simp) [.int .i64 16, .int .i64 1, .int .i64 i, .int .i64 0] rfl); obtain ⟨_, q0, q1, q2, q3, f0, f1, f2, f3⟩ := KB.head.four; obtain ⟨_, r0, r1, r2, r3, _⟩ := KZ.head.four; have HB := KZ.hb; simp only [setAll] at r0 r1 r2 r3 HB; clear KZ KB)
        exact bodyPost_ret (v := .agg #[.int .i64 16, .int .i64 1, .int .i64 i, .int .i64 0]) (by simp [results, Tryz.results7, go_sem, r0, r1, r2, r3]) rfl ⟨by rw [RE.out]; rfl, HB⟩
      · rw [if_neg h5] at FE
        have N2 := Lib.hid (upto_succ HM.out FE)
        have d5 : decide (la < fr) = false := decide_eq_false h5
        clear ca ra hxx FE hfr hla h5 HM
        go_wp2_with fail
        go_quiet (fail)
        rename_i nq
        replace KB := KB.below (below_drewN (Below.refl _ _) nq)
        clear x0 x1 x2 y1 y2
        generalize World.drewN _ nq = V9 at *
        obtain ⟨_, x0, x1, x2, _⟩ := KB.tail.head.three
        go_wp2_with fail
        go_roundw
        case rel => with_reducible first | exact ⟨i + 1, by omega, int_eqS (by omega), N2, KB⟩ | exact ⟨i + 1, by omega, int_eqS (by omega), N2, KB.drew⟩
        case measure => simp only [intOf]; omega
    · have hin : i = n := by omega
      have M1 := Lib.hid (show ∀ j, j < n → ruleF S.rules j = none from fun j hj => HM.out j (by omega))
      clear HM R1
      go_wp2_with fail
      clear x0 x1 x2 hin h4 hi
      go_loopw [4] (fun v4 wr => ∃ i : Nat, i ≤ n ∧ v4 = .int .i64 i ∧ Hid (∀ j, j < i → setF S.rules j = none) ∧ BK w [(w.heap.size + 1, [.int .i64 0, .int .i64 0, .int .i64 0, .int .i64 0]), (w.heap.size, [.slice A n k, .slice B m d, .slice C q e])] wr) (fun v _ => n - (intOf v).toNat)
      case atStart => exact ⟨0, by omega, rfl, Lib.hid (fun j h => absurd h (by omega)), KB⟩
      case round =>
        clear KB
        obtain ⟨i, hi, rfl, HM, KB⟩ := hrel
        obtain ⟨_, x0, x1, x2, _⟩ := KB.tail.head.three
        by_cases h4 : i < n
        · obtain ⟨x, hxx⟩ : ∃ x, S.rules[i]? = some x := ⟨_, List.getElem?_eq_getElem (by rw [LR.out]; exact h4)⟩
          obtain ⟨r, hr, FX⟩ := FC.out i x hxx
          have FX := Lib.hid FX
          cases r with
          | false =>
            have N2 := Lib.hid (upto_succ HM.out (setF_no hxx (.inl (fun c => by have := hr.2 c; cases this))))
            clear hr hxx HM
            go_wp2_with (first | (go_at_call 15; (with_reducible refine (FX.out _ (by with_reducible first | exact KB.hb | exact KB.drew.hb)).mono ?_); rintro e9 U9 ⟨rfl, hk9⟩; (with_reducible first | replace KB := KB.below hk9 | replace KB := KB.drew.below hk9); clear hk9 x0 x1 x2; obtain ⟨_, x0, x1, x2, _⟩ := KB.tail.head.three))
            go_roundw
            case rel => exact ⟨i + 1, by omega, int_eqS (by omega), N2, KB⟩
            case measure => simp only [intOf]; omega
          | true =>
            have fi := hr.1 rfl
            clear hr
            go_upto_region 12 with (first | (go_at_call 15; (with_reducible refine (FX.out _ (by with_reducible first | exact KB.hb | exact KB.drew.hb)).mono ?_); rintro e9 U9 ⟨rfl, hk9⟩; (with_reducible first | replace KB := KB.below hk9 | replace KB := KB.drew.below hk9); clear hk9 x0 x1 x2; obtain ⟨_, x0, x1, x2, _⟩ := KB.tail.head.three))
            clear FX
            obtain ⟨nm, hnm⟩ : ∃ nm, x.name = nm := ⟨_, rfl⟩
            obtain ⟨g, o, ea0, hg, ca⟩ := (HR.out.below KB.hb).cells (by omega)
            subst ea0
            have ra := row_at ca (show (S.rules.map Rl.vals)[i]? = some (Rl.vals x) by rw [List.getElem?_map, hxx]; rfl)
            have y0 : U9.cell? ⟨g, o + i * 11, none⟩ = some (.string nm) := by rw [← hnm]; exact ra 0 _ rfl
            have SX := Lib.hid (SC.out nm)
            have EX := Lib.hid (EC.out nm)
            by_cases h6 : setErr (setL S.rules nm) = 0
            · have N2 := Lib.hid (upto_succ HM.out (setF_no hxx (.inr (by rw [hnm]; exact h6))))
              rw [h6] at EX
              clear fi ra ca hxx hnm HM h6
              go_region_held3 (fun w' => w'.cell? ⟨w.heap.size, 0, none⟩ = some (.slice (some ⟨g, o, none⟩) n k) ∧ w'.cell? ⟨w.heap.size, 1, none⟩ = some (.slice B m d) ∧ w'.cell? ⟨w.heap.size, 2, none⟩ = some (.slice C q e) ∧ w'.cell? ⟨g, o + i * 11, none⟩ = some (.string nm)) (first | (with_reducible exact ⟨x0, x1, x2, y0⟩) | go_keep)
                (first
                  | (go_at_call 17; (with_reducible refine (SX.out _ (by with_reducible first | exact KB.hb | exact KB.drew.hb)).mono ?_); rintro e9 U8 ⟨v9, rfl, hw9, hk9⟩; (obtain ⟨A9, c9, rfl, hv9⟩ := hw9.rulv); clear hw9; (have hg8 : g < U8.heap.size := Nat.lt_of_lt_of_le hg hk9.size); replace y0 := (hk9.cell (p := ⟨g, o + i * 11, none⟩) hg).trans y0; (with_reducible first | replace KB := KB.below hk9 | replace KB := KB.drew.below hk9); clear hk9 x0 x1 x2; obtain ⟨_, x0, x1, x2, _⟩ := KB.tail.head.three)
                  | (go_at_call 16; (with_reducible refine (EX.out _ _ _ (by with_reducible first | exact hv9 | exact hv9.below (Below.refl _ _).drew)).mono ?_); rintro e9 U7 ⟨rfl, hk9⟩; replace y0 := (hk9.cell (p := ⟨g, o + i * 11, none⟩) hg8).trans y0; (with_reducible first | replace KB := KB.below hk9 | replace KB := KB.drew.below hk9); clear hk9 x0 x1 x2 hv9; obtain ⟨_, x0, x1, x2, _⟩ := KB.tail.head.three))
              all_goals
                go_wp2_with fail
                go_roundw
                case rel => with_reducible first | exact ⟨i + 1, by omega, int_eqS (by omega), N2, KB⟩ | exact ⟨i + 1, by omega, int_eqS (by omega), N2, KB.drew⟩
                case measure => simp only [intOf]; omega
            · have RE := Lib.hid (R2.out M1.out i _ h4 (setF_yes hxx fi (by rw [hnm]; exact h6)) HM.out)
              rw [hnm] at RE
              obtain ⟨er, her⟩ : ∃ er, setErr (setL S.rules nm) = er := ⟨_, rfl⟩
              rw [her] at EX RE h6
              have d6 : decide (er = 0) = false := decide_eq_false h6
              clear fi ra ca hxx hnm HM her
              go_region_held3 (fun w' => w'.cell? ⟨w.heap.size, 0, none⟩ = some (.slice (some ⟨g, o, none⟩) n k) ∧ w'.cell? ⟨w.heap.size, 1, none⟩ = some (.slice B m d) ∧ w'.cell? ⟨w.heap.size, 2, none⟩ = some (.slice C q e) ∧ w'.cell? ⟨g, o + i * 11, none⟩ = some (.string nm)) (first | (with_reducible exact ⟨x0, x1, x2, y0⟩) | go_keep)
                (first
                  | (go_at_call 17; (with_reducible refine (SX.out _ (by with_reducible first | exact KB.hb | exact KB.drew.hb)).mono ?_); rintro e9 U8 ⟨v9, rfl, hw9, hk9⟩; (obtain ⟨A9, c9, rfl, hv9⟩ := hw9.rulv); clear hw9; (have hg8 : g < U8.heap.size := Nat.lt_of_lt_of_le hg hk9.size); replace y0 := (hk9.cell (p := ⟨g, o + i * 11, none⟩) hg).trans y0; (with_reducible first | replace KB := KB.below hk9 | replace KB := KB.drew.below hk9); clear hk9 x0 x1 x2; obtain ⟨_, x0, x1, x2, _⟩ := KB.tail.head.three)
                  | (go_at_call 16; (with_reducible refine (EX.out _ _ _ (by with_reducible first | exact hv9 | exact hv9.below (Below.refl _ _).drew)).mono ?_); rintro e9 U7 ⟨rfl, hk9⟩; replace y0 := (hk9.cell (p := ⟨g, o + i * 11, none⟩) hg8).trans y0; (with_reducible first | replace KB := KB.below hk9 | replace KB := KB.drew.below hk9); clear hk9 x0 x1 x2 hv9; obtain ⟨_, x0, x1, x2, _⟩ := KB.tail.head.three))
              all_goals
                go_wp2_with (go_at_call 14; refine (flawDR _ _ _ _ _).mono ?_; rintro e9 V5 ⟨rfl, hk9⟩; (with_reducible first | replace KB := KB.below hk9 | replace KB := KB.drew.below hk9); clear hk9; have KZ := (KB.put (by omega) (by simp) [.int .i64 er, .int .i64 1, .int .i64 i, .int .i64 0] rfl); obtain ⟨_, q0, q1, q2, q3, f0, f1, f2, f3⟩ := KB.head.four; obtain ⟨_, r0, r1, r2, r3, _⟩ := KZ.head.four; have HB := KZ.hb; simp only [setAll] at r0 r1 r2 r3 HB; clear KZ KB)
                exact bodyPost_ret (v := .agg #[.int .i64 er, .int .i64 1, .int .i64 i, .int .i64 0]) (by simp [results, Tryz.results7, go_sem, r0, r1, r2, r3]) rfl ⟨by rw [RE.out]; rfl, HB⟩
        · have M2 := Lib.hid (show ∀ j, j < n → setF S.rules j = none from fun j hj => HM.out j (by omega))
          clear HM R2 FC SC EC
          go_wp2_with fail
          clear x0 x1 x2 h4 hi
          go_loopw [6] (fun v6 wr => ∃ i : Nat, i ≤ m ∧ v6 = .int .i64 i ∧ Hid (∀ j, j < i → zoneF S j = none) ∧ BK w [(w.heap.size + 1, [.int .i64 0, .int .i64 0, .int .i64 0, .int .i64 0]), (w.heap.size, [.slice A n k, .slice B m d, .slice C q e])] wr) (fun v _ => m - (intOf v).toNat)
          case atStart => exact ⟨0, by omega, rfl, Lib.hid (fun j h => absurd h (by omega)), KB⟩
          case round =>
            clear KB
            obtain ⟨i, hi, rfl, HM, KB⟩ := hrel
            obtain ⟨_, x0, x1, x2, _⟩ := KB.tail.head.three
            by_cases h4 : i < m
            · obtain ⟨p, hp⟩ : ∃ p, ze[i]? = some p := ⟨_, List.getElem?_eq_getElem (by rw [LZ.out]; exact h4)⟩
              have hz : S.zones[i]? = some p.1 := by rw [← ZA.out, List.getElem?_map, hp]; rfl
              go_wp2_with fail
              clear x0 x1 x2
              go_loopw [7] (fun v7 wr => ∃ j : Nat, j ≤ i ∧ v7 = .int .i64 j ∧ Hid (∀ (t : Nat) (y : Zn), t < j → S.zones[t]? = some y → y.name ≠ p.1.name) ∧ BK w [(w.heap.size + 1, [.int .i64 0, .int .i64 0, .int .i64 0, .int .i64 0]), (w.heap.size, [.slice A n k, .slice B m d, .slice C q e])] wr) (fun v _ => i - (intOf v).toNat)
              case atStart => exact ⟨0, by omega, rfl, Lib.hid (fun t y h => absurd h (by omega)), KB⟩
              case round =>
                clear KB
                obtain ⟨j, hj, rfl, HJ, KB⟩ := hrel
                obtain ⟨_, x0, x1, x2, _⟩ := KB.tail.head.three
                by_cases h5 : j < i
                · obtain ⟨u, hu⟩ : ∃ u, ze[j]? = some u := ⟨_, List.getElem?_eq_getElem (by rw [LZ.out]; omega)⟩
                  have hzj : S.zones[j]? = some u.1 := by rw [← ZA.out, List.getElem?_map, hu]; rfl
                  obtain ⟨g, o, ea0, hg, ca⟩ := (HZ.out.below KB.hb).cells (by omega)
                  subst ea0
                  have ra := row_at ca (show (ze.map Ze.vals)[i]? = some (Ze.vals p) by rw [List.getElem?_map, hp]; rfl)
                  have rb := row_at ca (show (ze.map Ze.vals)[j]? = some (Ze.vals u) by rw [List.getElem?_map, hu]; rfl)
                  obtain ⟨na, hna⟩ : ∃ na, p.1.name = na := ⟨_, rfl⟩
                  obtain ⟨nb, hnb⟩ : ∃ nb, u.1.name = nb := ⟨_, rfl⟩
                  have y0 : wr.cell? ⟨g, o + i * 2, none⟩ = some (.string na) := by rw [← hna]; exact ra 0 _ rfl
                  have y1 : wr.cell? ⟨g, o + j * 2, none⟩ = some (.string nb) := by rw [← hnb]; exact rb 0 _ rfl
                  by_cases h6 : nb = na
                  · have RE := Lib.hid (R3.out M1.out M2.out i _ h4 (zoneF_dup hz h5 hzj (by rw [hna, hnb]; exact h6)) HM.out)
                    have q6 : (nb.toList == na.toList) = true := by rw [toList_beq13, decide_eq_true h6]
                    clear ra rb ca hzj hu hp hz hna hnb HJ HM h6
                    go_wp2_with fail
                    go_quiet (fail)
                    rename_i nq
                    replace KB := KB.below (below_drewN (Below.refl _ _) nq)
                    clear x0 x1 x2 y0 y1
                    generalize World.drewN _ nq = V9 at *
                    obtain ⟨_, x0, x1, x2, _⟩ := KB.tail.head.three
                    go_wp2_with (go_at_call 14; refine (flawDR _ _ _ _ _).mono ?_; rintro e9 V5 ⟨rfl, hk9⟩; (with_reducible first | replace KB := KB.below hk9 | replace KB := KB.drew.below hk9); clear hk9; have KZ := (KB.put (by omega) (by simp) [.int .i64 10, .int .i64 2, .int .i64 i, .int .i64 0] rfl); obtain ⟨_, q0, q1, q2, q3, f0, f1, f2, f3⟩ := KB.head.four; obtain ⟨_, r0, r1, r2, r3, _⟩ := KZ.head.four; have HB := KZ.hb; simp only [setAll] at r0 r1 r2 r3 HB; clear KZ KB)
                    exact bodyPost_ret (v := .agg #[.int .i64 10, .int .i64 2, .int .i64 i, .int .i64 0]) (by simp [results, Tryz.results7, go_sem, r0, r1, r2, r3]) rfl ⟨by rw [RE.out]; rfl, HB⟩
                  · have N2 : Hid (∀ (t : Nat) (y : Zn), t < j + 1 → S.zones[t]? = some y → y.name ≠ p.1.name) := Lib.hid (fun t y ht hy => by
                      by_cases c : t = j
                      · rw [c, hzj] at hy
                        cases hy
                        rw [hna, hnb]
                        exact h6
                      · exact HJ.out t y (by omega) hy)
                    have q6 : (nb.toList == na.toList) = false := by rw [toList_beq13, decide_eq_false h6]
                    clear ra rb ca hzj hu hna hnb HJ h6
                    go_wp2_with fail
                    go_quiet (fail)
                    rename_i nq
                    replace KB := KB.below (below_drewN (Below.refl _ _) nq)
                    clear x0 x1 x2 y0 y1
                    generalize World.drewN _ nq = V9 at *
                    obtain ⟨_, x0, x1, x2, _⟩ := KB.tail.head.three
                    go_wp2_with fail
                    go_roundw
                    case rel => with_reducible first | exact ⟨j + 1, by omega, int_eqS (by omega), N2, KB⟩ | exact ⟨j + 1, by omega, int_eqS (by omega), N2, KB.drew⟩
                    case measure => simp only [intOf]; omega
                · have ZE := Lib.hid (zoneF_eras hz (fun t y ht hy => HJ.out t y (by omega) hy))
                  have pm := List.mem_of_getElem? hp
                  have ER9 := Lib.hid (HE.out p pm)
                  have EP := Lib.hid (YC.out p pm)
                  obtain ⟨⟨nm, es⟩, ⟨Z, u, cu⟩⟩ := p
                  have LE := Lib.hid (show es.length = u from by have t : Rs 13 w Z u cu (es.map Er.vals) := ER9.out; have := t.len; simpa using this)
                  have um : u ≤ 9223372036854775807 := (by have t : Rs 13 w Z u cu (es.map Er.vals) := ER9.out; exact Nat.le_trans t.cap t.max)
                  have RW := Lib.hid (fun W (h : Below w.heap.size w W) => (show ∃ g o, B = some ⟨g, o, none⟩ ∧ g < W.heap.size ∧ W.cell? ⟨g, o + i * 2, none⟩ = some (.string nm) ∧ W.cell? ⟨g, o + i * 2 + 1, none⟩ = some (.slice Z u cu) from by
                    obtain ⟨g, o, ea0, hg, ca⟩ := (HZ.out.below h).cells (by omega)
                    have ra := row_at ca (show (ze.map Ze.vals)[i]? = some (Ze.vals (⟨nm, es⟩, ⟨Z, u, cu⟩)) by rw [List.getElem?_map, hp]; rfl)
                    exact ⟨g, o, ea0, hg, ra 0 _ rfl, ra 1 _ rfl⟩))
                  clear HJ ER9 pm hp
                  go_wp2_with fail
                  clear x0 x1 x2
                  go_loopw [8] (fun v8 wr => ∃ j : Nat, j ≤ u ∧ v8 = .int .i64 j ∧ Hid (∀ t, t < j → eraF S.rules es i t = none) ∧ BK w [(w.heap.size + 1, [.int .i64 0, .int .i64 0, .int .i64 0, .int .i64 0]), (w.heap.size, [.slice A n k, .slice B m d, .slice C q e])] wr) (fun v _ => u - (intOf v).toNat)
                  case atStart => exact ⟨0, by omega, rfl, Lib.hid (fun t h => absurd h (by omega)), KB⟩
                  case round =>
                    clear KB
                    obtain ⟨j, hj, rfl, HJ, KB⟩ := hrel
                    obtain ⟨_, x0, x1, x2, _⟩ := KB.tail.head.three
                    obtain ⟨g, o, ea0, hg, y0, y1⟩ := RW.out _ KB.hb
                    subst ea0
                    by_cases h5 : j < u
                    · obtain ⟨x, hx⟩ : ∃ x, es[j]? = some x := ⟨_, List.getElem?_eq_getElem (by rw [LE.out]; exact h5)⟩
                      have EX := Lib.hid (EP.out j x hx)
                      have EA := eraF_if (L := S.rules) (z := i) hx
                      obtain ⟨er, her⟩ : ∃ er, eraErr S.rules (prevE es j) x = er := ⟨_, rfl⟩
                      have EX : Hid (∀ W, Below w.heap.size w W → Calls Tryz.prog 18 #[.agg #[.slice A n k, .slice (some ⟨g, o, none⟩) m d, .slice C q e], .agg #[.string nm, .slice Z u cu], .int .i64 j] W (RetV W (.int .i64 er))) := Lib.hid (fun W hW => by have := EX.out W hW; rw [← her]; exact this)
                      rw [her] at EA
                      have YW := Lib.hid (fun W (h : Below wr.heap.size wr W) => (show W.cell? ⟨g, o + i * 2, none⟩ = some (.string nm) ∧ W.cell? ⟨g, o + i * 2 + 1, none⟩ = some (.slice Z u cu) from ⟨(h.cell (p := ⟨g, o + i * 2, none⟩) hg).trans y0, (h.cell (p := ⟨g, o + i * 2 + 1, none⟩) hg).trans y1⟩))
                      by_cases h6 : er = 0
                      · rw [if_neg (by rw [h6]; decide)] at EA
                        have N2 := Lib.hid (upto_succ HJ.out EA)
                        subst h6
                        clear EA hx HJ her
                        go_wp2_with fail
                        go_region_held3 (fun w' => w'.cell? ⟨w.heap.size, 0, none⟩ = some (.slice A n k) ∧ w'.cell? ⟨w.heap.size, 1, none⟩ = some (.slice (some ⟨g, o, none⟩) m d) ∧ w'.cell? ⟨w.heap.size, 2, none⟩ = some (.slice C q e) ∧ w'.cell? ⟨g, o + i * 2, none⟩ = some (.string nm) ∧ w'.cell? ⟨g, o + i * 2 + 1, none⟩ = some (.slice Z u cu)) (first | (with_reducible exact ⟨x0, x1, x2, y0, y1⟩) | go_keep)
                          (first | (go_at_call 18; (with_reducible refine (EX.out _ (by with_reducible first | exact KB.hb | exact KB.drew.hb)).mono ?_); rintro e9 U9 ⟨rfl, hk9⟩; (obtain ⟨t0, t1⟩ := YW.out U9 (by with_reducible first | exact hk9 | exact below_thru (Below.refl _ _).drew hk9)); (with_reducible first | replace KB := KB.below hk9 | replace KB := KB.drew.below hk9); clear hk9 x0 x1 x2 y0 y1; obtain ⟨_, x0, x1, x2, _⟩ := KB.tail.head.three; have y0 := t0; have y1 := t1; clear t0 t1))
                        all_goals
                          go_wp2_with fail
                          go_roundw
                          case rel => with_reducible first | exact ⟨j + 1, by omega, int_eqS (by omega), N2, KB⟩ | exact ⟨j + 1, by omega, int_eqS (by omega), N2, KB.drew⟩
                          case measure => simp only [intOf]; omega
                      · rw [if_pos h6] at EA
                        have RE := Lib.hid (R3.out M1.out M2.out i _ h4 (ZE.out.trans (fsR_hit (by rw [LE.out]; exact h5) EA HJ.out)) HM.out)
                        have d6 : decide (er = 0) = false := decide_eq_false h6
                        clear EA hx HJ her HM ZE
                        go_wp2_with fail
                        go_region_held3 (fun w' => w'.cell? ⟨w.heap.size, 0, none⟩ = some (.slice A n k) ∧ w'.cell? ⟨w.heap.size, 1, none⟩ = some (.slice (some ⟨g, o, none⟩) m d) ∧ w'.cell? ⟨w.heap.size, 2, none⟩ = some (.slice C q e) ∧ w'.cell? ⟨g, o + i * 2, none⟩ = some (.string nm) ∧ w'.cell? ⟨g, o + i * 2 + 1, none⟩ = some (.slice Z u cu)) (first | (with_reducible exact ⟨x0, x1, x2, y0, y1⟩) | go_keep)
                          (first | (go_at_call 18; (with_reducible refine (EX.out _ (by with_reducible first | exact KB.hb | exact KB.drew.hb)).mono ?_); rintro e9 U9 ⟨rfl, hk9⟩; (obtain ⟨t0, t1⟩ := YW.out U9 (by with_reducible first | exact hk9 | exact below_thru (Below.refl _ _).drew hk9)); (with_reducible first | replace KB := KB.below hk9 | replace KB := KB.drew.below hk9); clear hk9 x0 x1 x2 y0 y1; obtain ⟨_, x0, x1, x2, _⟩ := KB.tail.head.three; have y0 := t0; have y1 := t1; clear t0 t1))
                        all_goals
                          go_wp2_with (go_at_call 14; refine (flawDR _ _ _ _ _).mono ?_; rintro e9 V5 ⟨rfl, hk9⟩; (with_reducible first | replace KB := KB.below hk9 | replace KB := KB.drew.below hk9); clear hk9; have KZ := (KB.put (by omega) (by simp) [.int .i64 er, .int .i64 2, .int .i64 i, .int .i64 j] rfl); obtain ⟨_, q0, q1, q2, q3, f0, f1, f2, f3⟩ := KB.head.four; obtain ⟨_, r0, r1, r2, r3, _⟩ := KZ.head.four; have HB := KZ.hb; simp only [setAll] at r0 r1 r2 r3 HB; clear KZ KB)
                          exact bodyPost_ret (v := .agg #[.int .i64 er, .int .i64 2, .int .i64 i, .int .i64 j]) (by simp [results, Tryz.results7, go_sem, r0, r1, r2, r3]) rfl ⟨by rw [RE.out]; rfl, HB⟩
                    · have N2 := Lib.hid (upto_succ HM.out (ZE.out.trans (fsR_none.2 (fun t ht => HJ.out t (by rw [LE.out] at ht; omega)))))
                      clear HJ HM ZE
                      go_wp2_with fail
                      go_roundw
                      case rel => exact ⟨i + 1, by omega, int_eqS (by omega), N2, KB⟩
                      case measure => simp only [intOf]; omega
            · have RE := Lib.hid (R4.out M1.out M2.out (fun j hj => HM.out j (by omega)))
              clear HM
              go_wp2_with (first | (go_at_call 19; refine (LK.out _ KB.hb).mono ?_; rintro e9 V5 ⟨rfl, hk9⟩; replace KB := KB.below hk9; clear hk9 LK; have KZ := (KB.put (by omega) (by simp) [.int .i64 lf.err, .int .i64 lf.kind, .int .i64 lf.at_, .int .i64 lf.era] rfl); obtain ⟨_, q0, q1, q2, q3, f0, f1, f2, f3⟩ := KB.head.four; obtain ⟨_, r0, r1, r2, r3, _⟩ := KZ.head.four; have HB := KZ.hb; simp only [setAll] at r0 r1 r2 r3 HB; clear KZ KB))
              exact bodyPost_ret (v := .agg #[.int .i64 lf.err, .int .i64 lf.kind, .int .i64 lf.at_, .int .i64 lf.era]) (by simp [results, Tryz.results7, go_sem, r0, r1, r2, r3]) rfl ⟨by rw [RE.out]; rfl, HB⟩
end Go.Proofs.YtmhpnmlgfdomkaaGreatDoor
