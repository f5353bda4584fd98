import Derived.Test.YtpbgddoicjjhnaaGreatDoorYGnb
import Derived.Test.YtpbgddoicjjhnaaGreatDoorYGne
import Derived.Test.YtpbgddoicjjhnaaGreatDoorYGeb
import Derived.Test.YtpbgddoicjjhnaaGreatDoorYGng
set_option maxRecDepth 100000
set_option maxHeartbeats 64000000
namespace Go.Proofs.YtpbgddoicjjhnaaGreatDoor
open Go.RowKit Go.Maps Go.WideShapes
def RetLi (w : World) (n m q : Nat) (e : Ending) (w' : World) : Prop := ∃ r : Bool, e = .returned (.bool r) ∧ (r = true → n ≤ 60 ∧ m ≤ 60 ∧ q ≤ 200) ∧ Below w.heap.size w w'
theorem lightDR (S : Sr) (a b c : Hd) (ze : List Ze) (w : World) (hv : SrcV w S a b c ze) : Calls Tryz.prog 7 #[.agg #[a.val, b.val, c.val]] w (RetLi w a.n b.n c.n) := by
  have HR := Lib.hid (show RulV w a.a a.n a.c S.rules from hv.rules)
  have HZ := Lib.hid (show Rs 2 w b.a b.n b.c (ze.map Ze.vals) from hv.zones)
  have LR := Lib.hid (show S.rules.length = a.n by have := HR.out.len; simpa using this)
  have LZ := Lib.hid (show ze.length = b.n by have := HZ.out.len; simpa using this)
  have m1 : a.n ≤ 9223372036854775807 := Nat.le_trans hv.rules.cap hv.rules.max
  have m2 : b.n ≤ 9223372036854775807 := Nat.le_trans hv.zones.cap hv.zones.max
  have m3 : c.n ≤ 9223372036854775807 := Nat.le_trans hv.links.cap hv.links.max
  clear hv
  obtain ⟨A, n, k⟩ := a
  obtain ⟨B, m, d⟩ := b
  obtain ⟨C, q, e⟩ := c
  simp only [Hd.val] at *
  go_enter Tryz.func7, Tryz.ntmps7
  go_upto_region 1 with (fail)
  have KB := (BK.nil w).lit [.slice A n k, .slice B m d, .slice C q e] 26
  rw [show ([.slice A n k, .slice B m d, .slice C q e] : List Value).toArray = #[.slice A n k, .slice B m d, .slice C q e] from rfl] at KB
  generalize w.alloc (.cells #[.slice A n k, .slice B m d, .slice C q e] 26) = W at *
  obtain ⟨_, x0, x1, x2, _⟩ := KB.head.three
  by_cases h1 : 60 < n
  · have d1 : decide ((n : Int) > 60) = true := decide_eq_true (by omega)
    go_wp2
    go_ret
    exact ⟨false, rfl, (fun h => by cases h), KB.hb⟩
  by_cases h2 : 60 < m
  · have d1 : decide ((n : Int) > 60) = false := decide_eq_false (by omega)
    have d2 : decide ((m : Int) > 60) = true := decide_eq_true (by omega)
    go_wp2
    go_ret
    exact ⟨false, rfl, (fun h => by cases h), KB.hb⟩
  by_cases h3 : 200 < q
  · have d1 : decide ((n : Int) > 60) = false := decide_eq_false (by omega)
    have d2 : decide ((m : Int) > 60) = false := decide_eq_false (by omega)
    have d3 : decide ((q : Int) > 200) = true := decide_eq_true (by omega)
    go_wp2
    go_ret
    exact ⟨false, rfl, (fun h => by cases h), KB.hb⟩
  have d1 : decide ((n : Int) > 60) = false := decide_eq_false (by omega)
  have d2 : decide ((m : Int) > 60) = false := decide_eq_false (by omega)
  have d3 : decide ((q : Int) > 200) = false := decide_eq_false (by omega)
  have SM := Lib.hid (show n ≤ 60 ∧ m ≤ 60 ∧ q ≤ 200 by omega)
  go_wp2_with fail
  clear d1 d2 d3 x0 x1 x2
  go_loopw [3, 4, 5] (fun v3 v4 v5 wr => ∃ (i : Nat) (lo hi : Int), i ≤ n ∧ v5 = .int .i64 i ∧ v3 = .int .i64 lo ∧ v4 = .int .i64 hi ∧ BK w [(w.heap.size, [.slice A n k, .slice B m d, .slice C q e])] wr) (fun _ _ v _ => n - (intOf v).toNat)
  case atStart => exact ⟨0, _, _, by omega, rfl, rfl, rfl, KB⟩
  case round =>
    clear KB
    obtain ⟨i, lo, hi, hi9, rfl, rfl, rfl, KB⟩ := hrel
    obtain ⟨_, x0, x1, x2, _⟩ := KB.head.three
    by_cases h4 : i < n
    · obtain ⟨x, hxx⟩ : ∃ x, S.rules[i]? = some x := ⟨_, List.getElem?_eq_getElem (by rw [LR.out]; exact h4)⟩
      obtain ⟨g, o, ea0, hg, ca⟩ := (HR.out.below KB.hb).cells (by omega)
      subst ea0
      have ra := row_at ca (show (S.rules.map Rl.vals)[i]? = some (Rl.vals x) by rw [List.getElem?_map, hxx]; rfl)
      have y1 : wr.cell? ⟨g, o + i * 11 + 1, none⟩ = some (.int .i64 x.fr) := ra 1 _ rfl
      have y2 : wr.cell? ⟨g, o + i * 11 + 2, none⟩ = some (.int .i64 x.last) := ra 2 _ rfl
      clear ca hxx ra
      generalize x.fr = fr at *
      generalize x.last = last at *
      go_wp2
      all_goals
        go_roundw
        case rel => exact ⟨i + 1, _, _, by omega, int_eqS (by omega), rfl, rfl, KB⟩
        case measure => simp only [intOf]; omega
    · obtain rfl : i = n := by omega
      go_wp2_with fail
      clear x0 x1 x2
      go_loopw [6, 7] (fun v6 v7 wr => ∃ j s : Nat, j ≤ m ∧ v7 = .int .i64 j ∧ v6 = .int .i64 s ∧ s ≤ 60 * j ∧ BK w [(w.heap.size, [.slice A i k, .slice B m d, .slice C q e])] wr) (fun _ v _ => m - (intOf v).toNat)
      case atStart => exact ⟨0, 0, by omega, rfl, rfl, by omega, KB⟩
      case round =>
        clear KB
        obtain ⟨j, s, hj, rfl, rfl, hs, KB⟩ := hrel
        obtain ⟨_, x0, x1, x2, _⟩ := KB.head.three
        by_cases h5 : j < m
        · obtain ⟨x, hxx⟩ : ∃ x, ze[j]? = some x := ⟨_, List.getElem?_eq_getElem (by rw [LZ.out]; exact h5)⟩
          obtain ⟨g, o, ea0, hg, ca⟩ := (HZ.out.below KB.hb).cells (by omega)
          subst ea0
          have ra := row_at ca (show (ze.map Ze.vals)[j]? = some (Ze.vals x) by rw [List.getElem?_map, hxx]; rfl)
          obtain ⟨⟨zn, es⟩, ⟨ea, en, ec⟩⟩ := x
          have y1 : wr.cell? ⟨g, o + j * 2 + 1, none⟩ = some (.slice ea en ec) := ra 1 _ rfl
          clear ca hxx ra
          by_cases h6 : 60 < en
          · have d6 : decide ((en : Int) > 60) = true := decide_eq_true (by omega)
            go_wp2
            go_ret
            exact ⟨false, rfl, (fun h => by cases h), KB.hb⟩
          · have d6 : decide ((en : Int) > 60) = false := decide_eq_false (by omega)
            have s60 := SM.out.2.1
            go_wp2
            go_roundw
            case rel => exact ⟨j + 1, s + en, by omega, int_eqS (by omega), int_eqS (by omega), by omega, KB⟩
            case measure => simp only [intOf]; omega
        · go_wp2
          all_goals
            go_ret
            exact ⟨_, rfl, fun _ => SM.out, KB.hb⟩
def ixD (o : Option Nat) : Int := match o with | some i => i | none => -1
theorem toList_beq13 (s t : ByteArray) : (s.toList == t.toList) = decide (s = t) := toList_beqT s t
theorem fi_hit {α : Type} {l : List α} {p : α → Bool} {i : Nat} {x : α} (h : l[i]? = some x) (k : p x = true) (m : (l.take i).findIdx? p = none) : l.findIdx? p = some i := by
  obtain ⟨hi, e⟩ := List.getElem?_eq_some_iff.1 h
  rw [List.findIdx?_eq_some_iff_getElem]
  refine ⟨hi, by rw [e]; exact k, fun j hj => ?_⟩
  rw [List.findIdx?_eq_none_iff] at m
  have := m l[j] (List.mem_of_getElem? (i := j) (by rw [List.getElem?_take, if_pos hj]; exact List.getElem?_eq_getElem (by omega)))
  rw [this]; simp
theorem zoneDR (S : Sr) (a b c : Hd) (ze : List Ze) (w : World) (hv : SrcV w S a b c ze) (s : ByteArray) : Calls Tryz.prog 28 #[.agg #[a.val, b.val, c.val], .string s] w (RetV w (.int .i64 (ixD (zoneI S s)))) := by
  have HR := Lib.hid hv.zones
  have LN := Lib.hid (show S.zones.length = b.n by rw [← hv.all, List.length_map]; have := hv.zones.len; simpa using this)
  have mx : b.n ≤ 9223372036854775807 := Nat.le_trans hv.zones.cap hv.zones.max
  have EQ0 := Lib.hid (show (S.zones.take 0).findIdx? (fun z => decide (z.name = s)) = none from rfl)
  have NX := Lib.hid (fun i x (h : S.zones[i]? = some x) => fi_snoc (p := fun z => decide (z.name = s)) h)
  have AL := Lib.hid (show (S.zones.take b.n).findIdx? (fun z => decide (z.name = s)) = zoneI S s by rw [← LN.out, List.take_length]; rfl)
  have HIT := Lib.hid (fun i x (h : S.zones[i]? = some x) (k : x.name = s) (m : (S.zones.take i).findIdx? (fun z => decide (z.name = s)) = none) => fi_hit (p := fun z => decide (z.name = s)) h (decide_eq_true k) m)
  have ZA := Lib.hid (fun i (x : Ze) (h : ze[i]? = some x) => (show S.zones[i]? = some x.1 by rw [← hv.all, List.getElem?_map, h]; rfl))
  have LZ := Lib.hid (show ze.length = b.n by have := hv.zones.len; simpa using this)
  have HT := Lib.hid (show ∀ i, (S.zones.findIdx? (fun z => decide (z.name = s)) = some i) → zoneI S s = some i from fun i h => h)
  clear hv
  obtain ⟨A, n, k⟩ := a
  obtain ⟨B, m, d⟩ := b
  obtain ⟨C, q, e⟩ := c
  simp only [Hd.val] at *
  go_enter Tryz.func28, Tryz.ntmps28
  go_upto_region 1 with (fail)
  have KB := (BK.nil w).lit [.slice A n k, .slice B m d, .slice C q e] 26
  rw [show ([.slice A n k, .slice B m d, .slice C q e] : List Value).toArray = #[.slice A n k, .slice B m d, .slice C q e] from rfl] at KB
  generalize w.alloc (.cells #[.slice A n k, .slice B m d, .slice C q e] 26) = W at *
  obtain ⟨_, x0, x1, x2, _⟩ := KB.head.three
  go_wp2_with fail
  clear x0 x1 x2
  go_loopw [5] (fun v5 wr => ∃ i : Nat, i ≤ m ∧ v5 = .int .i64 i ∧ Hid ((S.zones.take i).findIdx? (fun z => decide (z.name = s)) = none) ∧ BK w [(w.heap.size, [.slice A n k, .slice B m d, .slice C q e])] wr) (fun v _ => m - (intOf v).toNat)
  case atStart => exact ⟨0, by omega, rfl, EQ0, KB⟩
  case round =>
    clear KB
    obtain ⟨i, hi, rfl, HM, KB⟩ := hrel
    obtain ⟨_, x0, x1, x2, _⟩ := KB.head.three
    by_cases h4 : i < m
    · obtain ⟨x, hxx⟩ : ∃ x, ze[i]? = some x := ⟨_, List.getElem?_eq_getElem (by rw [LZ.out]; exact h4)⟩
      obtain ⟨g, o, ea0, hg, ca⟩ := (HR.out.below KB.hb).cells (by omega)
      subst ea0
      have ra := row_at ca (show (ze.map Ze.vals)[i]? = some (Ze.vals x) by rw [List.getElem?_map, hxx]; rfl)
      have hz := ZA.out i x hxx
      have N1 := Lib.hid (NX.out i _ hz)
      have H1 := Lib.hid (fun k => HT.out i (HIT.out i _ hz k HM.out))
      obtain ⟨⟨nm, es⟩, ⟨ea, en, ec⟩⟩ := x
      have y0 : wr.cell? ⟨g, o + i * 2, none⟩ = some (.string nm) := ra 0 _ rfl
      clear ca hxx ra hz
      simp only at *
      by_cases h5 : nm = s
      · have EQ := Lib.hid (H1.out h5)
        subst h5
        clear N1 H1 HM
        go_wp2
        go_ret
        exact ⟨by rw [EQ.out]; rfl, KB.hb⟩
      · have d5 : (nm.toList == s.toList) = false := by rw [toList_beq13]; exact decide_eq_false h5
        have d6 : ¬ nm.toList = s.toList := by simpa using d5
        have H2 := Lib.hid (show (S.zones.take (i + 1)).findIdx? (fun z => decide (z.name = s)) = none by rw [N1.out, HM.out]; simp [h5])
        clear N1 H1 HM
        go_wp2
        go_roundw
        case rel => exact ⟨i + 1, by omega, int_eqS (by omega), H2, KB⟩
        case measure => simp only [intOf]; omega
    · obtain rfl : i = m := by omega
      have EQ := Lib.hid (AL.out.symm.trans HM.out)
      go_wp2
      go_ret
      exact ⟨by rw [EQ.out]; rfl, KB.hb⟩
theorem linkDR (S : Sr) (a b c : Hd) (ze : List Ze) (w : World) (hv : SrcV w S a b c ze) (s : ByteArray) : Calls Tryz.prog 29 #[.agg #[a.val, b.val, c.val], .string s] w (RetV w (.int .i64 (ixD (linkI S s)))) := by
  have HR := Lib.hid hv.links
  have LN := Lib.hid (show S.links.length = c.n by have := hv.links.len; simpa using this)
  have mx : c.n ≤ 9223372036854775807 := Nat.le_trans hv.links.cap hv.links.max
  have EQ0 := Lib.hid (show (S.links.take 0).findIdx? (fun z => decide (z.name = s)) = none from rfl)
  have NX := Lib.hid (fun i x (h : S.links[i]? = some x) => fi_snoc (p := fun z => decide (z.name = s)) h)
  have AL := Lib.hid (show (S.links.take c.n).findIdx? (fun z => decide (z.name = s)) = linkI S s by rw [← LN.out, List.take_length]; rfl)
  have HIT := Lib.hid (fun i x (h : S.links[i]? = some x) (k : x.name = s) (m : (S.links.take i).findIdx? (fun z => decide (z.name = s)) = none) => fi_hit (p := fun z => decide (z.name = s)) h (decide_eq_true k) m)
  have HT := Lib.hid (show ∀ i, (S.links.findIdx? (fun z => decide (z.name = s)) = some i) → linkI S s = some i from fun i h => h)
  clear hv
  obtain ⟨A, n, k⟩ := a
  obtain ⟨B, m, d⟩ := b
  obtain ⟨C, q, e⟩ := c
  simp only [Hd.val] at *
  go_enter Tryz.func29, Tryz.ntmps29
  go_upto_region 1 with (fail)
  have KB := (BK.nil w).lit [.slice A n k, .slice B m d, .slice C q e] 26
  rw [show ([.slice A n k, .slice B m d, .slice C q e] : List Value).toArray = #[.slice A n k, .slice B m d, .slice C q e] from rfl] at KB
  generalize w.alloc (.cells #[.slice A n k, .slice B m d, .slice C q e] 26) = W at *
  obtain ⟨_, x0, x1, x2, _⟩ := KB.head.three
  go_wp2_with fail
  clear x0 x1 x2
  go_loopw [5] (fun v5 wr => ∃ i : Nat, i ≤ q ∧ v5 = .int .i64 i ∧ Hid ((S.links.take i).findIdx? (fun z => decide (z.name = s)) = none) ∧ BK w [(w.heap.size, [.slice A n k, .slice B m d, .slice C q e])] wr) (fun v _ => q - (intOf v).toNat)
  case atStart => exact ⟨0, by omega, rfl, EQ0, KB⟩
  case round =>
    clear KB
    obtain ⟨i, hi, rfl, HM, KB⟩ := hrel
    obtain ⟨_, x0, x1, x2, _⟩ := KB.head.three
    by_cases h4 : i < q
    · obtain ⟨x, hxx⟩ : ∃ x, S.links[i]? = some x := ⟨_, List.getElem?_eq_getElem (by rw [LN.out]; exact h4)⟩
      obtain ⟨g, o, ea0, hg, ca⟩ := (HR.out.below KB.hb).cells (by omega)
      subst ea0
      have ra := row_at ca (show (S.links.map Lk.vals)[i]? = some (Lk.vals x) by rw [List.getElem?_map, hxx]; rfl)
      have hz := hxx
      have N1 := Lib.hid (NX.out i _ hz)
      have H1 := Lib.hid (fun k => HT.out i (HIT.out i _ hz k HM.out))
      obtain ⟨tg, nm⟩ := x
      have y0 : wr.cell? ⟨g, o + i * 2 + 1, none⟩ = some (.string nm) := ra 1 _ rfl
      clear ca hxx ra hz
      simp only at *
      by_cases h5 : nm = s
      · have EQ := Lib.hid (H1.out h5)
        subst h5
        clear N1 H1 HM
        go_wp2
        go_ret
        exact ⟨by rw [EQ.out]; rfl, KB.hb⟩
      · have d5 : (nm.toList == s.toList) = false := by rw [toList_beq13]; exact decide_eq_false h5
        have d6 : ¬ nm.toList = s.toList := by simpa using d5
        have H2 := Lib.hid (show (S.links.take (i + 1)).findIdx? (fun z => decide (z.name = s)) = none by rw [N1.out, HM.out]; simp [h5])
        clear N1 H1 HM
        go_wp2
        go_roundw
        case rel => exact ⟨i + 1, by omega, int_eqS (by omega), H2, KB⟩
        case measure => simp only [intOf]; omega
    · obtain rfl : i = q := by omega
      have EQ := Lib.hid (AL.out.symm.trans HM.out)
      go_wp2
      go_ret
      exact ⟨by rw [EQ.out]; rfl, KB.hb⟩
theorem resolveDR (S : Sr) (a b c : Hd) (ze : List Ze) (w : World) (hv : SrcV w S a b c ze) (nm : ByteArray) (small : S.links.length ≤ 1000) : Calls Tryz.prog 12 #[.agg #[a.val, b.val, c.val], .string nm] w (RetZI w (resR S nm)) := by
  have HL := Lib.hid (show Rs 2 w c.a c.n c.c (S.links.map Lk.vals) from hv.links)
  have LL := Lib.hid (show S.links.length = c.n by have := HL.out.len; simpa using this)
  have sm : c.n ≤ 1000 := by rw [← LL.out]; exact small
  have ZC := Lib.hid (fun s W (h : Below w.heap.size w W) => zoneDR S a b c ze W (hv.below h) s)
  have LC := Lib.hid (fun s W (h : Below w.heap.size w W) => linkDR S a b c ze W (hv.below h) s)
  have R0 := Lib.hid (show resGo S (c.n + 1) nm = resR S nm from by unfold resR; rw [LL.out])
  clear hv small
  generalize resR S nm = r at *
  obtain ⟨A, n, k⟩ := a
  obtain ⟨B, m, d⟩ := b
  obtain ⟨C, q, e⟩ := c
  simp only [Hd.val] at *
  go_enter Tryz.func12, Tryz.ntmps12
  go_upto_region 1 with (fail)
  have KB := (BK.nil w).lit [.slice A n k, .slice B m d, .slice C q e] 26
  rw [show ([.slice A n k, .slice B m d, .slice C q e] : List Value).toArray = #[.slice A n k, .slice B m d, .slice C q e] from rfl] at KB
  generalize w.alloc (.cells #[.slice A n k, .slice B m d, .slice C q e] 26) = W at *
  go_wp2_with fail
  go_loopw [1, 6] (fun v1 v6 wr => ∃ (j : Nat) (cu : ByteArray), j ≤ q + 1 ∧ v6 = .int .i64 j ∧ v1 = .string cu ∧ Hid (resGo S (q + 1 - j) cu = r) ∧ BK w [(w.heap.size, [.slice A n k, .slice B m d, .slice C q e])] wr) (fun _ v _ => q + 1 - (intOf v).toNat)
  case atStart => exact ⟨0, nm, by omega, rfl, rfl, Lib.hid R0.out, KB⟩
  case round =>
    clear KB R0
    obtain ⟨j, cu, hj, rfl, rfl, HR, KB⟩ := hrel
    obtain ⟨_, x0, x1, x2, _⟩ := KB.head.three
    by_cases h4 : j < q + 1
    · have e1 : q + 1 - j = (q - j) + 1 := by omega
      cases hz : zoneI S cu with
      | some z =>
        have EQ := Lib.hid (show r = some z from by rw [← HR.out, e1]; exact resGo_zone hz _)
        replace ZC := Lib.hid (fun W h => (show Calls Tryz.prog 28 #[.agg #[.slice A n k, .slice B m d, .slice C q e], .string cu] W (RetV W (.int .i64 z)) from by have t := ZC.out cu W h; rw [hz] at t; exact t))
        have d0 : decide ((z : Int) ≥ 0) = true := decide_eq_true (by omega)
        clear hz HR e1
        go_wp2_with (go_at_call 28; refine (ZC.out _ KB.hb).mono ?_; rintro e9 W1 ⟨rfl, hk⟩; replace KB := KB.below hk; clear hk)
        go_ret2
        exact ⟨by rw [EQ.out]; rfl, KB.hb⟩
      | none =>
        replace ZC := Lib.hid (fun W h => (show Calls Tryz.prog 28 #[.agg #[.slice A n k, .slice B m d, .slice C q e], .string cu] W (RetV W (.int .i64 (-1))) from by have t := ZC.out cu W h; rw [hz] at t; exact t))
        cases hl : linkI S cu with
        | none =>
          have EQ := Lib.hid (show r = none from by rw [← HR.out, e1]; exact resGo_none hz hl _)
          replace LC := Lib.hid (fun W h => (show Calls Tryz.prog 29 #[.agg #[.slice A n k, .slice B m d, .slice C q e], .string cu] W (RetV W (.int .i64 (-1))) from by have t := LC.out cu W h; rw [hl] at t; exact t))
          clear hz hl HR e1
          go_wp2_with (first
            | (go_at_call 28; refine (ZC.out _ KB.hb).mono ?_; rintro e9 W1 ⟨rfl, hk⟩; replace KB := KB.below hk; clear hk x0 x1 x2; (obtain ⟨_, x0, x1, x2, _⟩ := KB.head.three))
            | (go_at_call 29; refine (LC.out _ KB.hb).mono ?_; rintro e9 W2 ⟨rfl, hk⟩; replace KB := KB.below hk; clear hk))
          go_ret2
          exact ⟨by rw [EQ.out]; rfl, KB.hb⟩
        | some l =>
          obtain ⟨x, hxx, hlt⟩ := linkI_row hl
          have EQ := Lib.hid (show resGo S (q - j) x.target = r from by rw [← HR.out, e1]; exact (resGo_link hz hl hxx _).symm)
          rw [LL.out] at hlt
          replace LC := Lib.hid (fun W h => (show Calls Tryz.prog 29 #[.agg #[.slice A n k, .slice B m d, .slice C q e], .string cu] W (RetV W (.int .i64 l)) from by have t := LC.out cu W h; rw [hl] at t; exact t))
          have HX := Lib.hid hxx
          have d0 : decide ((l : Int) < 0) = false := decide_eq_false (by omega)
          clear hz hl HR hxx e1
          go_upto_region 10 with (first
            | (go_at_call 28; refine (ZC.out _ KB.hb).mono ?_; rintro e9 W1 ⟨rfl, hk⟩; replace KB := KB.below hk; clear hk x0 x1 x2; (obtain ⟨_, x0, x1, x2, _⟩ := KB.head.three))
            | (go_at_call 29; refine (LC.out _ KB.hb).mono ?_; rintro e9 W2 ⟨rfl, hk⟩; replace KB := KB.below hk; clear hk x0 x1 x2; (obtain ⟨_, x0, x1, x2, _⟩ := KB.head.three)))
          obtain ⟨g, o, ea0, hg, ca⟩ := (HL.out.below KB.hb).cells (by omega)
          subst ea0
          have ra := row_at ca (show (S.links.map Lk.vals)[l]? = some (Lk.vals x) by rw [List.getElem?_map, HX.out]; rfl)
          have y0 := ra 0 _ rfl
          have e2 : q + 1 - (j + 1) = q - j := by omega
          clear ca ra HX
          obtain ⟨tg, ln⟩ := x
          simp only [Nat.add_zero] at y0
          go_wp2
          go_roundw
          case rel => exact ⟨j + 1, tg, by omega, int_eqS (by omega), rfl, Lib.hid (by rw [e2]; exact EQ.out), KB⟩
          case measure => simp only [intOf]; omega
    · obtain rfl : j = q + 1 := by omega
      have EQ := Lib.hid (show r = none from by rw [← HR.out, Nat.sub_self]; rfl)
      clear HR
      go_wp2
      go_ret2
      exact ⟨by rw [EQ.out]; rfl, KB.hb⟩
theorem putN_le (x : ByteArray) : ∀ l : List ByteArray, (putN x l).length ≤ l.length + 1
  | [] => by simp [putN]
  | y :: t => by
    have := putN_le x t
    rw [putN_cons]
    split
    · simp only [List.length_cons]; omega
    · split <;> simp only [List.length_cons] <;> omega
theorem putsN_le : ∀ (l acc : List ByteArray), (putsN acc l).length ≤ acc.length + l.length
  | [], acc => by simp [putsN]
  | x :: l, acc => by
    have h1 := putsN_le l (putN x acc)
    have h2 := putN_le x acc
    show (putsN (putN x acc) l).length ≤ _
    simp only [List.length_cons]; omega
theorem take_snocN {l : List ByteArray} {i : Nat} {y : ByteArray} (h : l[i]? = some y) (x : ByteArray) : (l.take (i + 1)).foldl (stepN x) ([], false) = stepN x ((l.take i).foldl (stepN x) ([], false)) y := by
  rw [List.take_add_one, h, List.foldl_append]; rfl
theorem putDR (l : List ByteArray) (s : ByteArray) (A : Option Addr) (n c : Nat) (w : World) (hm : Ss w A n c l) (small : n ≤ 1000) : Calls Tryz.prog 32 #[.slice A n c, .string s] w (RetSs w (putN s l)) := by
  obtain ⟨i0, hi, hz0, hz1, hz2⟩ := info_partsS str_info
  have HA := Lib.hid hm
  have LN := Lib.hid hm.len
  have END := Lib.hid (step_put s l [])
  have NXT := Lib.hid (fun i (y : ByteArray) (h : l[i]? = some y) => take_snocN h s)
  have AL := Lib.hid (show (l.take n).foldl (stepN s) ([], false) = l.foldl (stepN s) ([], false) by rw [← LN.out, List.take_length])
  clear hm
  go_enter Tryz.func32, Tryz.ntmps32
  go_wp2_with fail
  go_loopw [5, 6, 7] (fun v5 v6 v7 wr => ∃ (i ml : Nat) (out : List ByteArray) (dn : Bool), i ≤ n ∧ v7 = .int .i64 i ∧ v6 = .bool dn ∧ Hid ((l.take i).foldl (stepN s) ([], false) = (out, dn)) ∧ wr.ownsRow w.heap.size 9 1 v5 ml (strs out) ∧ ml ≤ 2 * i ∧ Below w.heap.size w wr) (fun _ _ v _ => n - (intOf v).toNat)
  case atStart => exact ⟨0, 0, [], false, by omega, rfl, rfl, Lib.hid rfl, World.ownsRow_nil w _ _ _, by omega, Below.refl _ _⟩
  case round =>
    obtain ⟨i, ml, out, dn, hi9, rfl, rfl, HF, hown0, hml, hb0⟩ := hrel
    by_cases h4 : i < n
    · obtain ⟨y, hyy⟩ : ∃ y, l[i]? = some y := ⟨_, List.getElem?_eq_getElem (by rw [LN.out]; exact h4)⟩
      obtain ⟨g, o, ea0, hg, ca⟩ := (HA.out.below hb0).cells (by omega)
      subst ea0
      have c0 : wr.cell? ⟨g, o + i, none⟩ = some (.string y) := by
        obtain ⟨hl, e⟩ := List.getElem?_eq_some_iff.1 hyy
        rw [← e]; exact ca i hl
      have NX := Lib.hid (NXT.out i y hyy)
      have CC := Lib.hid (fun W (h : Below w.heap.size w W) => (show W.cell? ⟨g, o + i, none⟩ = some (.string y) from by
        obtain ⟨g3, o3, e3, _, ca3⟩ := (HA.out.below h).cells (by omega)
        cases e3
        obtain ⟨hl, e⟩ := List.getElem?_eq_some_iff.1 hyy
        rw [← e]; exact ca3 i hl))
      clear ca hyy
      cases dn with
      | true =>
        skip
        have N2 := Lib.hid (show (l.take (i + 1)).foldl (stepN s) ([], false) = (out ++ [y], true) by rw [NX.out, HF.out]; unfold stepN; rfl)
        clear NX HF
        go_wp2_with (first
        | (at_builtin
           refine wpList_append_own_at _ rfl (.tmp 34) (.tmp 39) 36 rfl w.heap.size 9 i0 _ 1 16 Tryz.underlying36 hi hz0 hz1 hz2 rfl (by decide) u5 ml (strs out) rfl (hown0.alloc _) ⟨wr.heap.size, 0, none⟩ 1 1 [.string y] rfl rfl (cell_one_new _ _ _) ?_ ?_ ?_ ?_ ?_
           · intro u hu; rw [List.mem_singleton.1 hu]; rfl
           · unfold maxLen; omega
           · omega
           · have := hb0.size; simp; omega
           intro v1a w1 hown1 hg1 _ _
           have hb1 := (hb0.alloc hb0.size _).grown hg1 (by have := hb0.size; simp; omega) (fun j hj => (hown0.lt j hj).1)
           clear hg1))
        go_roundw
        case rel => exact ⟨i + 1, ml + 1, out ++ [y], true, by omega, int_eqS (by omega), rfl, N2, by simpa [strs] using hown1, by omega, hb1⟩
        case measure => simp only [intOf]; omega
      | false =>
        cases hlt : ltN y s with
        | true =>
          have e1 : Op.bytesLess y.toList s.toList = true := hlt
          skip
          have N2 := Lib.hid (show (l.take (i + 1)).foldl (stepN s) ([], false) = (out ++ [y], false) by rw [NX.out, HF.out]; unfold stepN; rw [hlt]; rfl)
          clear NX HF hlt
          go_wp2_with (first
          | (at_builtin
             refine wpList_append_own_at _ rfl (.tmp 34) (.tmp 39) 36 rfl w.heap.size 9 i0 _ 1 16 Tryz.underlying36 hi hz0 hz1 hz2 rfl (by decide) u5 ml (strs out) rfl (hown0.alloc _) ⟨wr.heap.size, 0, none⟩ 1 1 [.string y] rfl rfl (cell_one_new _ _ _) ?_ ?_ ?_ ?_ ?_
             · intro u hu; rw [List.mem_singleton.1 hu]; rfl
             · unfold maxLen; omega
             · omega
             · have := hb0.size; simp; omega
             intro v1a w1 hown1 hg1 _ _
             have hb1 := (hb0.alloc hb0.size _).grown hg1 (by have := hb0.size; simp; omega) (fun j hj => (hown0.lt j hj).1)
             clear hg1))
          go_roundw
          case rel => exact ⟨i + 1, ml + 1, out ++ [y], false, by omega, int_eqS (by omega), rfl, N2, by simpa [strs] using hown1, by omega, hb1⟩
          case measure => simp only [intOf]; omega
        | false =>
          have e1 : Op.bytesLess y.toList s.toList = false := hlt
          cases hgt : ltN s y with
          | true =>
            have e2 : Op.bytesLess s.toList y.toList = true := hgt
            have yns : y ≠ s := fun c => by rw [c, ltN_irr] at hgt; cases hgt
            have e3 : (y.toList == s.toList) = false := by rw [toList_beq13]; exact decide_eq_false yns
            have e4 : (s.toList == y.toList) = false := by rw [toList_beq13]; exact decide_eq_false (Ne.symm yns)
            have e5 : ¬ y.toList = s.toList := by simpa using e3
            have e6 : ¬ s.toList = y.toList := fun c => e5 c.symm
            clear yns
            skip
            have N2 := Lib.hid (show (l.take (i + 1)).foldl (stepN s) ([], false) = (out ++ [s] ++ [y], true) by rw [NX.out, HF.out]; unfold stepN; rw [hlt, hgt]; rfl)
            clear NX HF hlt hgt
            go_wp2_with (first
            | (at_builtin
               refine wpList_append_own_at _ rfl (.tmp 30) (.tmp 32) 36 rfl w.heap.size 9 i0 _ 1 16 Tryz.underlying36 hi hz0 hz1 hz2 rfl (by decide) u5 ml (strs out) rfl (hown0.alloc _) ⟨wr.heap.size, 0, none⟩ 1 1 [.string s] rfl rfl (cell_one_new _ _ _) ?_ ?_ ?_ ?_ ?_
               · intro u hu; rw [List.mem_singleton.1 hu]; rfl
               · unfold maxLen; omega
               · omega
               · have := hb0.size; simp; omega
               intro v1a w1 hown1 hg1 _ _
               have hb1 := (hb0.alloc hb0.size _).grown hg1 (by have := hb0.size; simp; omega) (fun j hj => (hown0.lt j hj).1)
               clear hg1
               have c1 := CC.out w1 hb1)
            | (at_builtin
               refine wpList_append_own_at _ rfl (.tmp 34) (.tmp 39) 36 rfl w.heap.size 9 i0 _ 1 16 Tryz.underlying36 hi hz0 hz1 hz2 rfl (by decide) v1a (ml + 1) (strs out ++ [.string s]) rfl (hown1.alloc _) ⟨w1.heap.size, 0, none⟩ 1 1 [.string y] rfl rfl (cell_one_new _ _ _) ?_ ?_ ?_ ?_ ?_
               · intro u hu; rw [List.mem_singleton.1 hu]; rfl
               · unfold maxLen; omega
               · omega
               · have := hb1.size; simp; omega
               intro v2a w2 hown2 hg2 _ _
               have hb2 := (hb1.alloc hb1.size _).grown hg2 (by have := hb1.size; simp; omega) (fun j hj => (hown1.lt j hj).1)
               clear hg2))
            go_roundw
            case rel => exact ⟨i + 1, ml + 2, out ++ [s] ++ [y], true, by omega, int_eqS (by omega), rfl, N2, by simpa [strs] using hown2, by omega, hb2⟩
            case measure => simp only [intOf]; omega
          | false =>
            have e2 : Op.bytesLess s.toList y.toList = false := hgt
            have yes : y = s := ltN_tri hlt hgt
            have e3 : (y.toList == s.toList) = true := by rw [yes]; simp
            have e4 : (s.toList == y.toList) = true := by rw [yes]; simp
            have e5 : y.toList = s.toList := by rw [yes]
            have e7 : Op.bytesLess s.toList s.toList = false := by have t9 := hlt; rw [yes] at t9; exact t9
            clear yes
            skip
            have N2 := Lib.hid (show (l.take (i + 1)).foldl (stepN s) ([], false) = (out ++ [y], true) by rw [NX.out, HF.out]; unfold stepN; rw [hlt, hgt]; simp)
            clear NX HF hlt hgt
            go_wp2_with (first
            | (at_builtin
               refine wpList_append_own_at _ rfl (.tmp 34) (.tmp 39) 36 rfl w.heap.size 9 i0 _ 1 16 Tryz.underlying36 hi hz0 hz1 hz2 rfl (by decide) u5 ml (strs out) rfl (hown0.alloc _) ⟨wr.heap.size, 0, none⟩ 1 1 [.string y] rfl rfl (cell_one_new _ _ _) ?_ ?_ ?_ ?_ ?_
               · intro u hu; rw [List.mem_singleton.1 hu]; rfl
               · unfold maxLen; omega
               · omega
               · have := hb0.size; simp; omega
               intro v1a w1 hown1 hg1 _ _
               have hb1 := (hb0.alloc hb0.size _).grown hg1 (by have := hb0.size; simp; omega) (fun j hj => (hown0.lt j hj).1)
               clear hg1))
            go_roundw
            case rel => exact ⟨i + 1, ml + 1, out ++ [y], true, by omega, int_eqS (by omega), rfl, N2, by simpa [strs] using hown1, by omega, hb1⟩
            case measure => simp only [intOf]; omega
    · obtain rfl : i = n := by omega
      have EQ : endN s (out, dn) = putN s l := by rw [← HF.out, AL.out, END.out]; rfl
      clear HF
      cases dn with
      | true =>
        have E2 : out = putN s l := EQ
        rw [E2] at hown0
        obtain ⟨A', c', rfl, hS⟩ := Ss.of_own hown0
        clear EQ E2
        go_wp2
        go_ret
        exact ⟨A', _, c', rfl, hS, hb0⟩
      | false =>
        have E2 : out ++ [s] = putN s l := EQ
        clear EQ
        go_wp2_with (first
        | (at_builtin
           refine wpList_append_own_at _ rfl (.tmp 43) (.tmp 45) 36 rfl w.heap.size 9 i0 _ 1 16 Tryz.underlying36 hi hz0 hz1 hz2 rfl (by decide) u5 ml (strs out) rfl (hown0.alloc _) ⟨wr.heap.size, 0, none⟩ 1 1 [.string s] rfl rfl (cell_one_new _ _ _) ?_ ?_ ?_ ?_ ?_
           · intro u hu; rw [List.mem_singleton.1 hu]; rfl
           · unfold maxLen; omega
           · omega
           · have := hb0.size; simp; omega
           intro v1a w1 hown1 hg1 _ _
           have hb1 := (hb0.alloc hb0.size _).grown hg1 (by have := hb0.size; simp; omega) (fun j hj => (hown0.lt j hj).1)
           clear hg1))
        rw [strs_snoc, E2] at hown1
        obtain ⟨A', c', rfl, hS⟩ := Ss.of_own hown1
        go_ret
        exact ⟨A', _, c', rfl, hS, hb1⟩
theorem nm_next {pre L : List ByteArray} {i : Nat} {y : ByteArray} (h : L[i]? = some y) : putN y (putsN [] (pre ++ L.take i)) = putsN [] (pre ++ L.take (i + 1)) := by
  rw [← putsN_snoc, List.take_add_one, h, List.append_assoc]; rfl
theorem namesDR (S : Sr) (a b c : Hd) (ze : List Ze) (w : World) (hv : SrcV w S a b c ze) (small : S.zones.length + S.links.length ≤ 1000) : Calls Tryz.prog 15 #[.agg #[a.val, b.val, c.val]] w (RetSs w (namesN S)) := by
  have HZ := Lib.hid (show Rs 2 w b.a b.n b.c (ze.map Ze.vals) from hv.zones)
  have HL := Lib.hid (show Rs 2 w c.a c.n c.c (S.links.map Lk.vals) from hv.links)
  have LZ := Lib.hid (show ze.length = b.n by have := HZ.out.len; simpa using this)
  have LZ2 := Lib.hid (show S.zones.length = b.n by rw [← hv.all, List.length_map]; exact LZ.out)
  have LL := Lib.hid (show S.links.length = c.n by have := HL.out.len; simpa using this)
  have ZA := Lib.hid (fun i (x : Ze) (h : ze[i]? = some x) => (show S.zones[i]? = some x.1 by rw [← hv.all, List.getElem?_map, h]; rfl))
  have m2 : b.n ≤ 9223372036854775807 := Nat.le_trans hv.zones.cap hv.zones.max
  have m3 : c.n ≤ 9223372036854775807 := Nat.le_trans hv.links.cap hv.links.max
  have SM := Lib.hid small
  have FIN := Lib.hid (show putsN [] (S.zones.map (·.name) ++ (S.links.map (·.name)).take c.n) = namesN S by rw [← LL.out, ← List.length_map (f := fun l : Lk => l.name), List.take_length]; rfl)
  clear hv small
  obtain ⟨A, n, k⟩ := a
  obtain ⟨B, m, d⟩ := b
  obtain ⟨C, q, e⟩ := c
  simp only [Hd.val] at *
  go_enter Tryz.func15, Tryz.ntmps15
  go_upto_region 1 with (fail)
  have KB := (BK.nil w).lit [.slice A n k, .slice B m d, .slice C q e] 26
  rw [show ([.slice A n k, .slice B m d, .slice C q e] : List Value).toArray = #[.slice A n k, .slice B m d, .slice C q e] from rfl] at KB
  generalize w.alloc (.cells #[.slice A n k, .slice B m d, .slice C q e] 26) = W at *
  obtain ⟨_, x0, x1, x2, _⟩ := KB.head.three
  go_wp2_with fail
  clear x0 x1 x2
  have SS : Ss W none 0 0 (putsN [] ([] ++ (S.zones.map (·.name)).take 0)) := Ss.nil W
  go_loopw [3, 4] (fun v3 v4 wr => ∃ (i m9 c9 : Nat) (X : Option Addr), i ≤ m ∧ v4 = .int .i64 i ∧ v3 = .slice X m9 c9 ∧ Ss wr X m9 c9 (putsN [] ([] ++ (S.zones.map (·.name)).take i)) ∧ BK w [(w.heap.size, [.slice A n k, .slice B m d, .slice C q e])] wr) (fun _ v _ => m - (intOf v).toNat)
  case atStart => exact ⟨0, 0, 0, none, by omega, rfl, rfl, SS, KB⟩
  case round =>
    clear KB SS
    obtain ⟨i, m9, c9, X, hi, rfl, rfl, SS, KB⟩ := hrel
    obtain ⟨_, x0, x1, x2, _⟩ := KB.head.three
    by_cases h4 : i < m
    · obtain ⟨x, hxx⟩ : ∃ x, ze[i]? = some x := ⟨_, List.getElem?_eq_getElem (by rw [LZ.out]; exact h4)⟩
      obtain ⟨g, o, ea0, hg, ca⟩ := (HZ.out.below KB.hb).cells (by omega)
      subst ea0
      have ra := row_at ca (show (ze.map Ze.vals)[i]? = some (Ze.vals x) by rw [List.getElem?_map, hxx]; rfl)
      have hz := ZA.out i x hxx
      have NX := Lib.hid (nm_next (pre := []) (L := S.zones.map (·.name)) (i := i) (y := x.1.name) (by rw [List.getElem?_map, hz]; rfl))
      have sl := SS.len
      have sm9 : m9 ≤ 1000 := by
        rw [← sl]
        refine Nat.le_trans (putsN_le _ _) ?_
        rw [List.length_append, List.length_take, List.length_map]
        simp only [List.length_nil]
        have := SM.out; have := LZ2.out; have := LL.out
        omega
      clear hz sl
      obtain ⟨⟨nm, es⟩, ⟨ea, en, ec⟩⟩ := x
      have y0 : wr.cell? ⟨g, o + i * 2, none⟩ = some (.string nm) := ra 0 _ rfl
      have PC := Lib.hid (putDR _ nm X m9 c9 wr SS sm9)
      clear ra ca hxx SS
      go_wp2_with (go_at_call 32; refine PC.out.mono ?_; clear PC; rintro e9 W9 ⟨X2, m2, c2, rfl, SS2, hk⟩; replace KB := KB.below hk; clear hk)
      have N9 := NX.out
      rw [N9] at SS2
      go_roundw
      case rel => exact ⟨i + 1, m2, c2, X2, by omega, int_eqS (by omega), rfl, SS2, KB⟩
      case measure => simp only [intOf]; omega
    · obtain rfl : i = m := by omega
      have e9 : [] ++ (S.zones.map (·.name)).take i = S.zones.map (·.name) ++ (S.links.map (·.name)).take 0 := by rw [List.nil_append, ← LZ2.out, ← List.length_map (f := fun l : Zn => l.name), List.take_length, List.take_zero, List.append_nil]
      rw [e9] at SS
      clear e9
      go_wp2_with fail
      clear x0 x1 x2
      go_loopw [3, 5] (fun v3 v5 wr => ∃ (j m9 c9 : Nat) (X : Option Addr), j ≤ q ∧ v5 = .int .i64 j ∧ v3 = .slice X m9 c9 ∧ Ss wr X m9 c9 (putsN [] (S.zones.map (·.name) ++ (S.links.map (·.name)).take j)) ∧ BK w [(w.heap.size, [.slice A n k, .slice B i d, .slice C q e])] wr) (fun _ v _ => q - (intOf v).toNat)
      case atStart => exact ⟨0, _, _, _, by omega, rfl, rfl, SS, KB⟩
      case round =>
        clear KB SS
        obtain ⟨j, m9, c9, X, hj, rfl, rfl, SS, KB⟩ := hrel
        obtain ⟨_, x0, x1, x2, _⟩ := KB.head.three
        by_cases h4 : j < q
        · obtain ⟨x, hxx⟩ : ∃ x, S.links[j]? = some x := ⟨_, List.getElem?_eq_getElem (by rw [LL.out]; exact h4)⟩
          obtain ⟨g, o, ea0, hg, ca⟩ := (HL.out.below KB.hb).cells (by omega)
          subst ea0
          have ra := row_at ca (show (S.links.map Lk.vals)[j]? = some (Lk.vals x) by rw [List.getElem?_map, hxx]; rfl)
          have hz := hxx
          have NX := Lib.hid (nm_next (pre := S.zones.map (·.name)) (L := S.links.map (·.name)) (i := j) (y := x.name) (by rw [List.getElem?_map, hz]; rfl))
          have sl := SS.len
          have sm9 : m9 ≤ 1000 := by
            rw [← sl]
            refine Nat.le_trans (putsN_le _ _) ?_
            rw [List.length_append, List.length_take, List.length_map, List.length_map]
            simp only [List.length_nil]
            have := SM.out; have := LZ2.out; have := LL.out
            omega
          clear hz sl
          obtain ⟨tg, nm⟩ := x
          have y0 : wr.cell? ⟨g, o + j * 2 + 1, none⟩ = some (.string nm) := ra 1 _ rfl
          have PC := Lib.hid (putDR _ nm X m9 c9 wr SS sm9)
          clear ra ca hxx SS
          go_wp2_with (go_at_call 32; refine PC.out.mono ?_; clear PC; rintro e9 W9 ⟨X2, m2, c2, rfl, SS2, hk⟩; replace KB := KB.below hk; clear hk)
          have N9 := NX.out
          rw [N9] at SS2
          go_roundw
          case rel => exact ⟨j + 1, m2, c2, X2, by omega, int_eqS (by omega), rfl, SS2, KB⟩
          case measure => simp only [intOf]; omega
        · obtain rfl : j = q := by omega
          rw [FIN.out] at SS
          go_wp2
          go_ret
          exact ⟨X, m9, c9, rfl, SS, KB.hb⟩
end Go.Proofs.YtpbgddoicjjhnaaGreatDoor
