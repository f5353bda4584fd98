import Derived.Test.YtmhpnmlgfdomkaaGreatDoorZGnb
import Derived.Test.YtmhpnmlgfdomkaaGreatDoorZGne
import Derived.Test.YtmhpnmlgfdomkaaGreatDoorZGeb
set_option maxRecDepth 100000
set_option maxHeartbeats 64000000
namespace Go.Proofs.YtmhpnmlgfdomkaaGreatDoor
open Go.RowKit Go.Maps Go.WideShapes
def RetLi (w : World) (n m q : Nat) (e : Ending) (w' : World) : Prop := ∃ r : Bool, e = .returned (.bool r) ∧ (r = true → n ≤ 60 ∧ m ≤ 60 ∧ q ≤ 200) ∧ Below w.heap.size w w'
theorem lightDR (S : Sr) (a b c : Hd) (ze : List Ze) (w : World) (hv : SrcV w S a b c ze) : Calls Tryz.prog 4 #[.agg #[a.val, b.val, c.val]] w (RetLi w a.n b.n c.n) := by
  have HR := Lib.hid (show RulV w a.a a.n a.c S.rules from hv.rules)
  have HZ := Lib.hid (show Rs 2 w b.a b.n b.c (ze.map Ze.vals) from hv.zones)
  have LR := Lib.hid (show S.rules.length = a.n by have := HR.out.len; simpa using this)
  have LZ := Lib.hid (show ze.length = b.n by have := HZ.out.len; simpa using this)
  have m1 : a.n ≤ 9223372036854775807 := Nat.le_trans hv.rules.cap hv.rules.max
  have m2 : b.n ≤ 9223372036854775807 := Nat.le_trans hv.zones.cap hv.zones.max
  have m3 : c.n ≤ 9223372036854775807 := Nat.le_trans hv.links.cap hv.links.max
  clear hv
  obtain ⟨A, n, k⟩ := a
  obtain ⟨B, m, d⟩ := b
  obtain ⟨C, q, e⟩ := c
  simp only [Hd.val] at *
  go_enter Tryz.func4, Tryz.ntmps4
  go_upto_region 1 with (fail)
  have KB := (BK.nil w).lit [.slice A n k, .slice B m d, .slice C q e] 26
  generalize w.alloc (.cells #[.slice A n k, .slice B m d, .slice C q e] 26) = W at *
  obtain ⟨_, x0, x1, x2, _⟩ := KB.head.three
  by_cases h1 : 60 < n
  · have d1 : decide ((n : Int) > 60) = true := decide_eq_true (by omega)
    go_wp2
    go_ret
    exact ⟨false, rfl, (fun h => by cases h), KB.hb⟩
  by_cases h2 : 60 < m
  · have d1 : decide ((n : Int) > 60) = false := decide_eq_false (by omega)
    have d2 : decide ((m : Int) > 60) = true := decide_eq_true (by omega)
    go_wp2
    go_ret
    exact ⟨false, rfl, (fun h => by cases h), KB.hb⟩
  by_cases h3 : 200 < q
  · have d1 : decide ((n : Int) > 60) = false := decide_eq_false (by omega)
    have d2 : decide ((m : Int) > 60) = false := decide_eq_false (by omega)
    have d3 : decide ((q : Int) > 200) = true := decide_eq_true (by omega)
    go_wp2
    go_ret
    exact ⟨false, rfl, (fun h => by cases h), KB.hb⟩
  have d1 : decide ((n : Int) > 60) = false := decide_eq_false (by omega)
  have d2 : decide ((m : Int) > 60) = false := decide_eq_false (by omega)
  have d3 : decide ((q : Int) > 200) = false := decide_eq_false (by omega)
  have SM := Lib.hid (show n ≤ 60 ∧ m ≤ 60 ∧ q ≤ 200 by omega)
  go_wp2_with fail
  clear d1 d2 d3 x0 x1 x2
  go_loopw [3, 4, 5] (fun v3 v4 v5 wr => ∃ (i : Nat) (lo hi : Int), i ≤ n ∧ v5 = .int .i64 i ∧ v3 = .int .i64 lo ∧ v4 = .int .i64 hi ∧ BK w [(w.heap.size, [.slice A n k, .slice B m d, .slice C q e])] wr) (fun _ _ v _ => n - (intOf v).toNat)
  case atStart => exact ⟨0, _, _, by omega, rfl, rfl, rfl, KB⟩
  case round =>
    clear KB
    obtain ⟨i, lo, hi, hi9, rfl, rfl, rfl, KB⟩ := hrel
    obtain ⟨_, x0, x1, x2, _⟩ := KB.head.three
    by_cases h4 : i < n
    · obtain ⟨x, hxx⟩ : ∃ x, S.rules[i]? = some x := ⟨_, List.getElem?_eq_getElem (by rw [LR.out]; exact h4)⟩
      obtain ⟨g, o, ea0, hg, ca⟩ := (HR.out.below KB.hb).cells (by omega)
      subst ea0
      have ra := row_at ca (show (S.rules.map Rl.vals)[i]? = some (Rl.vals x) by rw [List.getElem?_map, hxx]; rfl)
      have y1 : wr.cell? ⟨g, o + i * 11 + 1, none⟩ = some (.int .i64 x.fr) := ra 1 _ rfl
      have y2 : wr.cell? ⟨g, o + i * 11 + 2, none⟩ = some (.int .i64 x.last) := ra 2 _ rfl
      clear ca hxx ra
      generalize x.fr = fr at *
      generalize x.last = last at *
      go_wp2
      all_goals
        go_roundw
        case rel => exact ⟨i + 1, _, _, by omega, int_eqS (by omega), rfl, rfl, KB⟩
        case measure => simp only [intOf]; omega
    · obtain rfl : i = n := by omega
      go_wp2_with fail
      clear x0 x1 x2
      go_loopw [6, 7] (fun v6 v7 wr => ∃ j s : Nat, j ≤ m ∧ v7 = .int .i64 j ∧ v6 = .int .i64 s ∧ s ≤ 60 * j ∧ BK w [(w.heap.size, [.slice A i k, .slice B m d, .slice C q e])] wr) (fun _ v _ => m - (intOf v).toNat)
      case atStart => exact ⟨0, 0, by omega, rfl, rfl, by omega, KB⟩
      case round =>
        clear KB
        obtain ⟨j, s, hj, rfl, rfl, hs, KB⟩ := hrel
        obtain ⟨_, x0, x1, x2, _⟩ := KB.head.three
        by_cases h5 : j < m
        · obtain ⟨x, hxx⟩ : ∃ x, ze[j]? = some x := ⟨_, List.getElem?_eq_getElem (by rw [LZ.out]; exact h5)⟩
          obtain ⟨g, o, ea0, hg, ca⟩ := (HZ.out.below KB.hb).cells (by omega)
          subst ea0
          have ra := row_at ca (show (ze.map Ze.vals)[j]? = some (Ze.vals x) by rw [List.getElem?_map, hxx]; rfl)
          obtain ⟨⟨zn, es⟩, ⟨ea, en, ec⟩⟩ := x
          have y1 : wr.cell? ⟨g, o + j * 2 + 1, none⟩ = some (.slice ea en ec) := ra 1 _ rfl
          clear ca hxx ra
          by_cases h6 : 60 < en
          · have d6 : decide ((en : Int) > 60) = true := decide_eq_true (by omega)
            go_wp2
            go_ret
            exact ⟨false, rfl, (fun h => by cases h), KB.hb⟩
          · have d6 : decide ((en : Int) > 60) = false := decide_eq_false (by omega)
            have s60 := SM.out.2.1
            go_wp2
            go_roundw
            case rel => exact ⟨j + 1, s + en, by omega, int_eqS (by omega), int_eqS (by omega), by omega, KB⟩
            case measure => simp only [intOf]; omega
        · go_wp2
          all_goals
            go_ret
            exact ⟨_, rfl, fun _ => SM.out, KB.hb⟩
theorem beyondDR (n : Int) (w : World) : Calls Tryz.prog 40 #[.int .i64 n] w (RetV w (.bool (!ltD n))) := by
  by_cases h1 : n ≤ -86400
  · have EQ := Lib.hid (show (!ltD n) = true by unfold ltD; rw [decide_eq_false (show ¬ -86400 < n by omega)]; rfl)
    have d1 : decide (n ≤ -86400) = true := decide_eq_true h1
    go_enter Tryz.func40, Tryz.ntmps40
    go_wp2
    go_ret
    exact ⟨by rw [EQ.out]; rfl, Below.refl _ _⟩
  · have d1 : decide (n ≤ -86400) = false := decide_eq_false h1
    by_cases h2 : n ≥ 86400
    · have EQ := Lib.hid (show (!ltD n) = true by unfold ltD; rw [decide_eq_false (show ¬ n < 86400 by omega), Bool.and_false]; rfl)
      have d2 : decide (n ≥ 86400) = true := decide_eq_true h2
      go_enter Tryz.func40, Tryz.ntmps40
      go_wp2
      go_ret
      exact ⟨by rw [EQ.out]; rfl, Below.refl _ _⟩
    · have EQ := Lib.hid (show (!ltD n) = false by unfold ltD; rw [decide_eq_true (show -86400 < n by omega), decide_eq_true (show n < 86400 by omega)]; rfl)
      have d2 : decide (n ≥ 86400) = false := decide_eq_false h2
      go_enter Tryz.func40, Tryz.ntmps40
      go_wp2
      go_ret
      exact ⟨by rw [EQ.out]; rfl, Below.refl _ _⟩
theorem flawDR (er kk av ev : Int) (w : World) : Calls Tryz.prog 14 #[.int .i64 er, .int .i64 kk, .int .i64 av, .int .i64 ev] w (RetV w (.agg #[.int .i64 er, .int .i64 kk, .int .i64 av, .int .i64 ev])) := by
  go_enter Tryz.func14, Tryz.ntmps14
  go_upto_region 1 with (fail)
  have KB := (BK.nil w).lit [.int .i64 0, .int .i64 0, .int .i64 0, .int .i64 0] 31
  generalize w.alloc (.cells #[.int .i64 0, .int .i64 0, .int .i64 0, .int .i64 0] 31) = W at *
  have KZ := (KB.put (by omega) (by simp) [.int .i64 er, .int .i64 kk, .int .i64 av, .int .i64 ev] rfl)
  obtain ⟨_, q0, q1, q2, q3, f0, f1, f2, f3⟩ := KB.head.four
  obtain ⟨_, r0, r1, r2, r3, _⟩ := KZ.head.four
  have HB := KZ.hb
  simp only [setAll] at r0 r1 r2 r3 HB
  clear KZ
  go_wp2
  exact bodyPost_ret (v := .agg #[.int .i64 er, .int .i64 kk, .int .i64 av, .int .i64 ev]) (by simp [results, Tryz.results14, go_sem, r0, r1, r2, r3]) rfl ⟨rfl, HB⟩
def ixD (o : Option Nat) : Int := match o with | some i => i | none => -1
theorem toList_beq13 (s t : ByteArray) : (s.toList == t.toList) = decide (s = t) := toList_beqT s t
theorem fi_hit {α : Type} {l : List α} {p : α → Bool} {i : Nat} {x : α} (h : l[i]? = some x) (k : p x = true) (m : (l.take i).findIdx? p = none) : l.findIdx? p = some i := by
  obtain ⟨hi, e⟩ := List.getElem?_eq_some_iff.1 h
  rw [List.findIdx?_eq_some_iff_getElem]
  refine ⟨hi, by rw [e]; exact k, fun j hj => ?_⟩
  rw [List.findIdx?_eq_none_iff] at m
  have := m l[j] (List.mem_of_getElem? (i := j) (by rw [List.getElem?_take, if_pos hj]; exact List.getElem?_eq_getElem (by omega)))
  rw [this]; simp
theorem zoneDR (S : Sr) (a b c : Hd) (ze : List Ze) (w : World) (hv : SrcV w S a b c ze) (s : ByteArray) : Calls Tryz.prog 42 #[.agg #[a.val, b.val, c.val], .string s] w (RetV w (.int .i64 (ixD (zoneI S s)))) := by
  have HR := Lib.hid hv.zones
  have LN := Lib.hid (show S.zones.length = b.n by rw [← hv.all, List.length_map]; have := hv.zones.len; simpa using this)
  have mx : b.n ≤ 9223372036854775807 := Nat.le_trans hv.zones.cap hv.zones.max
  have EQ0 := Lib.hid (show (S.zones.take 0).findIdx? (fun z => decide (z.name = s)) = none from rfl)
  have NX := Lib.hid (fun i x (h : S.zones[i]? = some x) => fi_snoc (p := fun z => decide (z.name = s)) h)
  have AL := Lib.hid (show (S.zones.take b.n).findIdx? (fun z => decide (z.name = s)) = zoneI S s by rw [← LN.out, List.take_length]; rfl)
  have HIT := Lib.hid (fun i x (h : S.zones[i]? = some x) (k : x.name = s) (m : (S.zones.take i).findIdx? (fun z => decide (z.name = s)) = none) => fi_hit (p := fun z => decide (z.name = s)) h (decide_eq_true k) m)
  have ZA := Lib.hid (fun i (x : Ze) (h : ze[i]? = some x) => (show S.zones[i]? = some x.1 by rw [← hv.all, List.getElem?_map, h]; rfl))
  have LZ := Lib.hid (show ze.length = b.n by have := hv.zones.len; simpa using this)
  have HT := Lib.hid (show ∀ i, (S.zones.findIdx? (fun z => decide (z.name = s)) = some i) → zoneI S s = some i from fun i h => h)
  clear hv
  obtain ⟨A, n, k⟩ := a
  obtain ⟨B, m, d⟩ := b
  obtain ⟨C, q, e⟩ := c
  simp only [Hd.val] at *
  go_enter Tryz.func42, Tryz.ntmps42
  go_upto_region 1 with (fail)
  have KB := (BK.nil w).lit [.slice A n k, .slice B m d, .slice C q e] 26
  generalize w.alloc (.cells #[.slice A n k, .slice B m d, .slice C q e] 26) = W at *
  obtain ⟨_, x0, x1, x2, _⟩ := KB.head.three
  go_wp2_with fail
  clear x0 x1 x2
  go_loopw [5] (fun v5 wr => ∃ i : Nat, i ≤ m ∧ v5 = .int .i64 i ∧ Hid ((S.zones.take i).findIdx? (fun z => decide (z.name = s)) = none) ∧ BK w [(w.heap.size, [.slice A n k, .slice B m d, .slice C q e])] wr) (fun v _ => m - (intOf v).toNat)
  case atStart => exact ⟨0, by omega, rfl, EQ0, KB⟩
  case round =>
    clear KB
    obtain ⟨i, hi, rfl, HM, KB⟩ := hrel
    obtain ⟨_, x0, x1, x2, _⟩ := KB.head.three
    by_cases h4 : i < m
    · obtain ⟨x, hxx⟩ : ∃ x, ze[i]? = some x := ⟨_, List.getElem?_eq_getElem (by rw [LZ.out]; exact h4)⟩
      obtain ⟨g, o, ea0, hg, ca⟩ := (HR.out.below KB.hb).cells (by omega)
      subst ea0
      have ra := row_at ca (show (ze.map Ze.vals)[i]? = some (Ze.vals x) by rw [List.getElem?_map, hxx]; rfl)
      have hz := ZA.out i x hxx
      have N1 := Lib.hid (NX.out i _ hz)
      have H1 := Lib.hid (fun k => HT.out i (HIT.out i _ hz k HM.out))
      obtain ⟨⟨nm, es⟩, ⟨ea, en, ec⟩⟩ := x
      have y0 : wr.cell? ⟨g, o + i * 2, none⟩ = some (.string nm) := ra 0 _ rfl
      clear ca hxx ra hz
      simp only at *
      by_cases h5 : nm = s
      · have EQ := Lib.hid (H1.out h5)
        subst h5
        clear N1 H1 HM
        go_wp2
        go_ret
        exact ⟨by rw [EQ.out]; rfl, KB.hb⟩
      · have d5 : (nm.toList == s.toList) = false := by rw [toList_beq13]; exact decide_eq_false h5
        have d6 : ¬ nm.toList = s.toList := by simpa using d5
        have H2 := Lib.hid (show (S.zones.take (i + 1)).findIdx? (fun z => decide (z.name = s)) = none by rw [N1.out, HM.out]; simp [h5])
        clear N1 H1 HM
        go_wp2
        go_roundw
        case rel => exact ⟨i + 1, by omega, int_eqS (by omega), H2, KB⟩
        case measure => simp only [intOf]; omega
    · obtain rfl : i = m := by omega
      have EQ := Lib.hid (AL.out.symm.trans HM.out)
      go_wp2
      go_ret
      exact ⟨by rw [EQ.out]; rfl, KB.hb⟩
theorem linkDR (S : Sr) (a b c : Hd) (ze : List Ze) (w : World) (hv : SrcV w S a b c ze) (s : ByteArray) : Calls Tryz.prog 43 #[.agg #[a.val, b.val, c.val], .string s] w (RetV w (.int .i64 (ixD (linkI S s)))) := by
  have HR := Lib.hid hv.links
  have LN := Lib.hid (show S.links.length = c.n by have := hv.links.len; simpa using this)
  have mx : c.n ≤ 9223372036854775807 := Nat.le_trans hv.links.cap hv.links.max
  have EQ0 := Lib.hid (show (S.links.take 0).findIdx? (fun z => decide (z.name = s)) = none from rfl)
  have NX := Lib.hid (fun i x (h : S.links[i]? = some x) => fi_snoc (p := fun z => decide (z.name = s)) h)
  have AL := Lib.hid (show (S.links.take c.n).findIdx? (fun z => decide (z.name = s)) = linkI S s by rw [← LN.out, List.take_length]; rfl)
  have HIT := Lib.hid (fun i x (h : S.links[i]? = some x) (k : x.name = s) (m : (S.links.take i).findIdx? (fun z => decide (z.name = s)) = none) => fi_hit (p := fun z => decide (z.name = s)) h (decide_eq_true k) m)
  have HT := Lib.hid (show ∀ i, (S.links.findIdx? (fun z => decide (z.name = s)) = some i) → linkI S s = some i from fun i h => h)
  clear hv
  obtain ⟨A, n, k⟩ := a
  obtain ⟨B, m, d⟩ := b
  obtain ⟨C, q, e⟩ := c
  simp only [Hd.val] at *
  go_enter Tryz.func43, Tryz.ntmps43
  go_upto_region 1 with (fail)
  have KB := (BK.nil w).lit [.slice A n k, .slice B m d, .slice C q e] 26
  generalize w.alloc (.cells #[.slice A n k, .slice B m d, .slice C q e] 26) = W at *
  obtain ⟨_, x0, x1, x2, _⟩ := KB.head.three
  go_wp2_with fail
  clear x0 x1 x2
  go_loopw [5] (fun v5 wr => ∃ i : Nat, i ≤ q ∧ v5 = .int .i64 i ∧ Hid ((S.links.take i).findIdx? (fun z => decide (z.name = s)) = none) ∧ BK w [(w.heap.size, [.slice A n k, .slice B m d, .slice C q e])] wr) (fun v _ => q - (intOf v).toNat)
  case atStart => exact ⟨0, by omega, rfl, EQ0, KB⟩
  case round =>
    clear KB
    obtain ⟨i, hi, rfl, HM, KB⟩ := hrel
    obtain ⟨_, x0, x1, x2, _⟩ := KB.head.three
    by_cases h4 : i < q
    · obtain ⟨x, hxx⟩ : ∃ x, S.links[i]? = some x := ⟨_, List.getElem?_eq_getElem (by rw [LN.out]; exact h4)⟩
      obtain ⟨g, o, ea0, hg, ca⟩ := (HR.out.below KB.hb).cells (by omega)
      subst ea0
      have ra := row_at ca (show (S.links.map Lk.vals)[i]? = some (Lk.vals x) by rw [List.getElem?_map, hxx]; rfl)
      have hz := hxx
      have N1 := Lib.hid (NX.out i _ hz)
      have H1 := Lib.hid (fun k => HT.out i (HIT.out i _ hz k HM.out))
      obtain ⟨tg, nm⟩ := x
      have y0 : wr.cell? ⟨g, o + i * 2 + 1, none⟩ = some (.string nm) := ra 1 _ rfl
      clear ca hxx ra hz
      simp only at *
      by_cases h5 : nm = s
      · have EQ := Lib.hid (H1.out h5)
        subst h5
        clear N1 H1 HM
        go_wp2
        go_ret
        exact ⟨by rw [EQ.out]; rfl, KB.hb⟩
      · have d5 : (nm.toList == s.toList) = false := by rw [toList_beq13]; exact decide_eq_false h5
        have d6 : ¬ nm.toList = s.toList := by simpa using d5
        have H2 := Lib.hid (show (S.links.take (i + 1)).findIdx? (fun z => decide (z.name = s)) = none by rw [N1.out, HM.out]; simp [h5])
        clear N1 H1 HM
        go_wp2
        go_roundw
        case rel => exact ⟨i + 1, by omega, int_eqS (by omega), H2, KB⟩
        case measure => simp only [intOf]; omega
    · obtain rfl : i = q := by omega
      have EQ := Lib.hid (AL.out.symm.trans HM.out)
      go_wp2
      go_ret
      exact ⟨by rw [EQ.out]; rfl, KB.hb⟩
theorem firstDR (S : Sr) (a b c : Hd) (ze : List Ze) (w : World) (hv : SrcV w S a b c ze) (i : Nat) (x : Rl) (hi : S.rules[i]? = some x) {r : Bool} (hr : r = true ↔ firstR S.rules i) : Calls Tryz.prog 15 #[.agg #[a.val, b.val, c.val], .int .i64 i] w (RetV w (.bool r)) := by
  have HR := Lib.hid (show RulV w a.a a.n a.c S.rules from hv.rules)
  have LR := Lib.hid (show S.rules.length = a.n by have := HR.out.len; simpa using this)
  have m1 : a.n ≤ 9223372036854775807 := Nat.le_trans hv.rules.cap hv.rules.max
  have hin : i < a.n := by rw [← LR.out]; exact (List.getElem?_eq_some_iff.1 hi).1
  have HI := Lib.hid hi
  have NO := Lib.hid (fun k (y : Rl) (hk : k < i) (hy : S.rules[k]? = some y) (e : y.name = x.name) => (show r = false from by
    rw [Bool.eq_false_iff]
    exact fun c => hr.1 c x hi k y hk hy e))
  have YE := Lib.hid (fun (h : ∀ (k : Nat) (y : Rl), k < i → S.rules[k]? = some y → y.name ≠ x.name) => (show r = true from hr.2 (fun x' hx' k y hk hy => by
    rw [hi] at hx'
    obtain rfl := Option.some.inj hx'
    exact h k y hk hy)))
  clear hv hi hr
  obtain ⟨A, n, k⟩ := a
  obtain ⟨B, m, d⟩ := b
  obtain ⟨C, q, e⟩ := c
  simp only [Hd.val] at *
  go_enter Tryz.func15, Tryz.ntmps15
  go_upto_region 1 with (fail)
  have KB := (BK.nil w).lit [.slice A n k, .slice B m d, .slice C q e] 26
  generalize w.alloc (.cells #[.slice A n k, .slice B m d, .slice C q e] 26) = W at *
  obtain ⟨_, x0, x1, x2, _⟩ := KB.head.three
  go_wp2_with fail
  clear x0 x1 x2
  go_loopw [5] (fun v5 wr => ∃ jj : Nat, jj ≤ i ∧ v5 = .int .i64 jj ∧ Hid (∀ (j : Nat) (y : Rl), j < jj → S.rules[j]? = some y → y.name ≠ x.name) ∧ BK w [(w.heap.size, [.slice A n k, .slice B m d, .slice C q e])] wr) (fun v _ => i - (intOf v).toNat)
  case atStart => exact ⟨0, by omega, rfl, Lib.hid (fun j y h => absurd h (by omega)), KB⟩
  case round =>
    clear KB
    obtain ⟨j, hj, rfl, HM, KB⟩ := hrel
    obtain ⟨_, x0, x1, x2, _⟩ := KB.head.three
    by_cases h4 : j < i
    · obtain ⟨y, hyy⟩ : ∃ y, S.rules[j]? = some y := ⟨_, List.getElem?_eq_getElem (by rw [LR.out]; omega)⟩
      obtain ⟨g, o, ea0, hg, ca⟩ := (HR.out.below KB.hb).cells (by omega)
      subst ea0
      have ra := row_at ca (show (S.rules.map Rl.vals)[j]? = some (Rl.vals y) by rw [List.getElem?_map, hyy]; rfl)
      have rb := row_at ca (show (S.rules.map Rl.vals)[i]? = some (Rl.vals x) by rw [List.getElem?_map, HI.out]; rfl)
      have y0 : wr.cell? ⟨g, o + j * 11, none⟩ = some (.string y.name) := ra 0 _ rfl
      have y1 : wr.cell? ⟨g, o + i * 11, none⟩ = some (.string x.name) := rb 0 _ rfl
      have BAD := Lib.hid (fun e => NO.out j y h4 hyy e)
      have STEP := Lib.hid (fun (e : y.name ≠ x.name) => (show ∀ (j' : Nat) (z : Rl), j' < j + 1 → S.rules[j']? = some z → z.name ≠ x.name from fun j' z hj' hz => by
        by_cases c : j' = j
        · subst c
          rw [hyy] at hz
          obtain rfl := Option.some.inj hz
          exact e
        · exact HM.out j' z (by omega) hz))
      clear ca ra rb hyy
      generalize y.name = s at *
      have xh := Lib.hid (show ∃ t, t = x.name from ⟨_, rfl⟩)
      clear xh
      by_cases h5 : s = x.name
      · have EQ := Lib.hid (BAD.out h5)
        have d5 : (s.toList == x.name.toList) = true := by rw [toList_beq13]; exact decide_eq_true h5
        have d6 : s.toList = x.name.toList := by rw [h5]
        clear BAD STEP HM
        go_wp2_with fail
        go_region
        all_goals
          go_wp2
          go_ret
          exact ⟨by rw [EQ.out]; rfl, below_drewN KB.hb _⟩
      · have H2 := Lib.hid (STEP.out h5)
        have d5 : (s.toList == x.name.toList) = false := by rw [toList_beq13]; exact decide_eq_false h5
        have d6 : ¬ s.toList = x.name.toList := by simpa using d5
        clear BAD STEP HM
        go_wp2_with fail
        go_region
        all_goals
          go_wp2
          go_roundw
          case rel => exact ⟨j + 1, by omega, int_eqS (by omega), H2, KB.below (below_drewN (Below.refl _ _) _)⟩
          case measure => simp only [intOf]; omega
    · obtain rfl : j = i := by omega
      have EQ := Lib.hid (YE.out HM.out)
      go_wp2
      go_ret
      exact ⟨by rw [EQ.out]; rfl, KB.hb⟩
theorem sd_a (l : List Rl) (A : Option Addr) (n c : Nat) (mz : Int) (w : World) (_hm : RulV w A n c l) (MO : Hid (∀ W, Below w.heap.size w W → Calls Tryz.prog 38 #[.slice A n c] W (RetV W (.int .i64 mz)))) (d0 : decide (mz > 10) = true) : Calls Tryz.prog 16 #[.slice A n c] w (RetV w (.int .i64 12)) := by
  have hb := Below.refl w.heap.size w
  go_enter Tryz.func16, Tryz.ntmps16
  go_wp2_with (go_at_call 38; refine (MO.out _ hb).mono ?_; rintro e W2 ⟨rfl, hk⟩; replace hb := below_thru hb hk; clear hk)
  go_ret
  exact ⟨rfl, hb⟩
theorem sd_b (l : List Rl) (A : Option Addr) (n c : Nat) (mz : Int) (w : World) (hm : RulV w A n c l) (MO : Hid (∀ W, Below w.heap.size w W → Calls Tryz.prog 38 #[.slice A n c] W (RetV W (.int .i64 mz)))) (d0 : decide (mz > 10) = false) (d1 : decide ((evers l : Int) > 2) = true) : Calls Tryz.prog 16 #[.slice A n c] w (RetV w (.int .i64 15)) := by
  have LN := Lib.hid (show l.length = n by have := hm.len; simpa using this)
  have mx : n ≤ 9223372036854775807 := Nat.le_trans hm.cap hm.max
  have HA := Lib.hid hm
  have NX := Lib.hid (fun i x (h : l[i]? = some x) => evers_next h)
  have EQ := Lib.hid (show evers (l.take n) = evers l by rw [← LN.out, List.take_length])
  have E0 := Lib.hid (show evers (l.take 0) = 0 from rfl)
  have D1 := Lib.hid d1
  clear hm d1
  have hb := Below.refl w.heap.size w
  go_enter Tryz.func16, Tryz.ntmps16
  go_wp2_with (go_at_call 38; refine (MO.out _ hb).mono ?_; rintro e W2 ⟨rfl, hk⟩; replace hb := below_thru hb hk; clear hk)
  go_loopw [3, 4] (fun v3 v4 wr => ∃ i m : Nat, i ≤ n ∧ v4 = .int .i64 i ∧ v3 = .int .i64 m ∧ Hid (evers (l.take i) = m) ∧ m ≤ i ∧ Below w.heap.size w wr) (fun _ v _ => n - (intOf v).toNat)
  case atStart => exact ⟨0, 0, by omega, rfl, rfl, Lib.hid E0.out, by omega, hb⟩
  case round =>
    clear hb
    obtain ⟨i, m, hi, rfl, rfl, HM, hmi, hb⟩ := hrel
    by_cases h4 : i < n
    · obtain ⟨x, hxx⟩ : ∃ x, l[i]? = some x := ⟨_, List.getElem?_eq_getElem (by rw [LN.out]; exact h4)⟩
      obtain ⟨g, o, ea0, hg, ca⟩ := (HA.out.below hb).cells (by omega)
      subst ea0
      have ra := row_at ca (show (l.map Rl.vals)[i]? = some (Rl.vals x) by rw [List.getElem?_map, hxx]; rfl)
      have N1 := Lib.hid (NX.out i x hxx)
      have y2 : wr.cell? ⟨g, o + i * 11 + 2, none⟩ = some (.int .i64 x.last) := ra 2 _ rfl
      clear ca hxx ra
      generalize x.last = last at *
      by_cases h5 : last = 1000000
      · have d5 : (last == 1000000) = true := by simp [h5]
        have N2 := Lib.hid (show evers (l.take (i + 1)) = m + 1 by rw [N1.out, HM.out, if_pos h5])
        clear N1 HM h5
        go_wp2
        go_roundw
        case rel => exact ⟨i + 1, m + 1, by omega, int_eqS (by omega), int_eqS (by omega), N2, by omega, hb⟩
        case measure => simp only [intOf]; omega
      · have d5 : (last == 1000000) = false := by simp [h5]
        have N2 := Lib.hid (show evers (l.take (i + 1)) = m by rw [N1.out, HM.out, if_neg h5]; rfl)
        clear N1 HM h5
        go_wp2
        go_roundw
        case rel => exact ⟨i + 1, m, by omega, int_eqS (by omega), rfl, N2, by omega, hb⟩
        case measure => simp only [intOf]; omega
    · obtain rfl : i = n := by omega
      have em : evers l = m := by rw [← EQ.out, HM.out]
      have dd := D1.out
      rw [em] at dd
      clear em
      go_wp2
      go_ret
      exact ⟨rfl, hb⟩
theorem sd_c (l : List Rl) (A : Option Addr) (n c : Nat) (mz : Int) (w : World) (hm : RulV w A n c l) (MO : Hid (∀ W, Below w.heap.size w W → Calls Tryz.prog 38 #[.slice A n c] W (RetV W (.int .i64 mz)))) (d0 : decide (mz > 10) = false) (NE : Hid (∀ W, Below w.heap.size w W → Calls Tryz.prog 39 #[.slice A n c] W (RetV W (.bool true)))) (d1 : decide ((evers l : Int) > 2) = false) : Calls Tryz.prog 16 #[.slice A n c] w (RetV w (.int .i64 17)) := by
  have LN := Lib.hid (show l.length = n by have := hm.len; simpa using this)
  have mx : n ≤ 9223372036854775807 := Nat.le_trans hm.cap hm.max
  have HA := Lib.hid hm
  have NX := Lib.hid (fun i x (h : l[i]? = some x) => evers_next h)
  have EQ := Lib.hid (show evers (l.take n) = evers l by rw [← LN.out, List.take_length])
  have E0 := Lib.hid (show evers (l.take 0) = 0 from rfl)
  have D1 := Lib.hid d1
  clear hm d1
  have hb := Below.refl w.heap.size w
  go_enter Tryz.func16, Tryz.ntmps16
  go_wp2_with (go_at_call 38; refine (MO.out _ hb).mono ?_; rintro e W2 ⟨rfl, hk⟩; replace hb := below_thru hb hk; clear hk)
  go_loopw [3, 4] (fun v3 v4 wr => ∃ i m : Nat, i ≤ n ∧ v4 = .int .i64 i ∧ v3 = .int .i64 m ∧ Hid (evers (l.take i) = m) ∧ m ≤ i ∧ Below w.heap.size w wr) (fun _ v _ => n - (intOf v).toNat)
  case atStart => exact ⟨0, 0, by omega, rfl, rfl, Lib.hid E0.out, by omega, hb⟩
  case round =>
    clear hb
    obtain ⟨i, m, hi, rfl, rfl, HM, hmi, hb⟩ := hrel
    by_cases h4 : i < n
    · obtain ⟨x, hxx⟩ : ∃ x, l[i]? = some x := ⟨_, List.getElem?_eq_getElem (by rw [LN.out]; exact h4)⟩
      obtain ⟨g, o, ea0, hg, ca⟩ := (HA.out.below hb).cells (by omega)
      subst ea0
      have ra := row_at ca (show (l.map Rl.vals)[i]? = some (Rl.vals x) by rw [List.getElem?_map, hxx]; rfl)
      have N1 := Lib.hid (NX.out i x hxx)
      have y2 : wr.cell? ⟨g, o + i * 11 + 2, none⟩ = some (.int .i64 x.last) := ra 2 _ rfl
      clear ca hxx ra
      generalize x.last = last at *
      by_cases h5 : last = 1000000
      · have d5 : (last == 1000000) = true := by simp [h5]
        have N2 := Lib.hid (show evers (l.take (i + 1)) = m + 1 by rw [N1.out, HM.out, if_pos h5])
        clear N1 HM h5
        go_wp2
        go_roundw
        case rel => exact ⟨i + 1, m + 1, by omega, int_eqS (by omega), int_eqS (by omega), N2, by omega, hb⟩
        case measure => simp only [intOf]; omega
      · have d5 : (last == 1000000) = false := by simp [h5]
        have N2 := Lib.hid (show evers (l.take (i + 1)) = m by rw [N1.out, HM.out, if_neg h5]; rfl)
        clear N1 HM h5
        go_wp2
        go_roundw
        case rel => exact ⟨i + 1, m, by omega, int_eqS (by omega), rfl, N2, by omega, hb⟩
        case measure => simp only [intOf]; omega
    · obtain rfl : i = n := by omega
      have em : evers l = m := by rw [← EQ.out, HM.out]
      have dd := D1.out
      rw [em] at dd
      clear em
      go_wp2_with (go_at_call 39; refine (NE.out _ hb).mono ?_; rintro e W2 ⟨rfl, hk⟩; replace hb := below_thru hb hk; clear hk)
      go_ret
      exact ⟨rfl, hb⟩
theorem sd_d (l : List Rl) (A : Option Addr) (n c : Nat) (mz : Int) (w : World) (hm : RulV w A n c l) (MO : Hid (∀ W, Below w.heap.size w W → Calls Tryz.prog 38 #[.slice A n c] W (RetV W (.int .i64 mz)))) (d0 : decide (mz > 10) = false) (NE : Hid (∀ W, Below w.heap.size w W → Calls Tryz.prog 39 #[.slice A n c] W (RetV W (.bool false)))) (d1 : decide ((evers l : Int) > 2) = false) : Calls Tryz.prog 16 #[.slice A n c] w (RetV w (.int .i64 0)) := by
  have LN := Lib.hid (show l.length = n by have := hm.len; simpa using this)
  have mx : n ≤ 9223372036854775807 := Nat.le_trans hm.cap hm.max
  have HA := Lib.hid hm
  have NX := Lib.hid (fun i x (h : l[i]? = some x) => evers_next h)
  have EQ := Lib.hid (show evers (l.take n) = evers l by rw [← LN.out, List.take_length])
  have E0 := Lib.hid (show evers (l.take 0) = 0 from rfl)
  have D1 := Lib.hid d1
  clear hm d1
  have hb := Below.refl w.heap.size w
  go_enter Tryz.func16, Tryz.ntmps16
  go_wp2_with (go_at_call 38; refine (MO.out _ hb).mono ?_; rintro e W2 ⟨rfl, hk⟩; replace hb := below_thru hb hk; clear hk)
  go_loopw [3, 4] (fun v3 v4 wr => ∃ i m : Nat, i ≤ n ∧ v4 = .int .i64 i ∧ v3 = .int .i64 m ∧ Hid (evers (l.take i) = m) ∧ m ≤ i ∧ Below w.heap.size w wr) (fun _ v _ => n - (intOf v).toNat)
  case atStart => exact ⟨0, 0, by omega, rfl, rfl, Lib.hid E0.out, by omega, hb⟩
  case round =>
    clear hb
    obtain ⟨i, m, hi, rfl, rfl, HM, hmi, hb⟩ := hrel
    by_cases h4 : i < n
    · obtain ⟨x, hxx⟩ : ∃ x, l[i]? = some x := ⟨_, List.getElem?_eq_getElem (by rw [LN.out]; exact h4)⟩
      obtain ⟨g, o, ea0, hg, ca⟩ := (HA.out.below hb).cells (by omega)
      subst ea0
      have ra := row_at ca (show (l.map Rl.vals)[i]? = some (Rl.vals x) by rw [List.getElem?_map, hxx]; rfl)
      have N1 := Lib.hid (NX.out i x hxx)
      have y2 : wr.cell? ⟨g, o + i * 11 + 2, none⟩ = some (.int .i64 x.last) := ra 2 _ rfl
      clear ca hxx ra
      generalize x.last = last at *
      by_cases h5 : last = 1000000
      · have d5 : (last == 1000000) = true := by simp [h5]
        have N2 := Lib.hid (show evers (l.take (i + 1)) = m + 1 by rw [N1.out, HM.out, if_pos h5])
        clear N1 HM h5
        go_wp2
        go_roundw
        case rel => exact ⟨i + 1, m + 1, by omega, int_eqS (by omega), int_eqS (by omega), N2, by omega, hb⟩
        case measure => simp only [intOf]; omega
      · have d5 : (last == 1000000) = false := by simp [h5]
        have N2 := Lib.hid (show evers (l.take (i + 1)) = m by rw [N1.out, HM.out, if_neg h5]; rfl)
        clear N1 HM h5
        go_wp2
        go_roundw
        case rel => exact ⟨i + 1, m, by omega, int_eqS (by omega), rfl, N2, by omega, hb⟩
        case measure => simp only [intOf]; omega
    · obtain rfl : i = n := by omega
      have em : evers l = m := by rw [← EQ.out, HM.out]
      have dd := D1.out
      rw [em] at dd
      clear em
      go_wp2_with (go_at_call 39; refine (NE.out _ hb).mono ?_; rintro e W2 ⟨rfl, hk⟩; replace hb := below_thru hb hk; clear hk)
      go_ret
      exact ⟨rfl, hb⟩
theorem setErrDR (l : List Rl) (hl : fitL l) (A : Option Addr) (n c : Nat) (w : World) (hm : RulV w A n c l) (small : n ≤ 100) : Calls Tryz.prog 16 #[.slice A n c] w (RetV w (.int .i64 (setErr l))) := by
  have MO := fun W (h : Below w.heap.size w W) => (show Calls Tryz.prog 38 #[.slice A n c] W (RetV W (.int .i64 (mostN l))) from mostDR l A n c W (hm.below h))
  have NE := fun (b : Bool) (hb : b = true ↔ nearP l) W (h : Below w.heap.size w W) => nearDR l hl A n c W (hm.below h) small hb
  unfold setErr
  by_cases h1 : 10 < mostN l
  · rw [if_pos h1]
    exact sd_a l A n c _ w hm (Lib.hid MO) (decide_eq_true (by omega))
  · rw [if_neg h1]
    have d0 : decide ((mostN l : Int) > 10) = false := decide_eq_false (by omega)
    by_cases h2 : 2 < evers l
    · rw [if_pos h2]
      exact sd_b l A n c _ w hm (Lib.hid MO) d0 (decide_eq_true (by omega))
    · rw [if_neg h2]
      have d2 : decide ((evers l : Int) > 2) = false := decide_eq_false (by omega)
      by_cases h3 : nearP l
      · rw [if_pos h3]
        exact sd_c l A n c _ w hm (Lib.hid MO) d0 (Lib.hid (NE true (by simpa using h3))) d2
      · rw [if_neg h3]
        exact sd_d l A n c _ w hm (Lib.hid MO) d0 (Lib.hid (NE false (by simpa using h3))) d2
theorem resolveDR (S : Sr) (a b c : Hd) (ze : List Ze) (w : World) (hv : SrcV w S a b c ze) (nm : ByteArray) (small : S.links.length ≤ 1000) : Calls Tryz.prog 44 #[.agg #[a.val, b.val, c.val], .string nm] w (RetZI w (resR S nm)) := by
  have HL := Lib.hid (show Rs 2 w c.a c.n c.c (S.links.map Lk.vals) from hv.links)
  have LL := Lib.hid (show S.links.length = c.n by have := HL.out.len; simpa using this)
  have sm : c.n ≤ 1000 := by rw [← LL.out]; exact small
  have ZC := Lib.hid (fun s W (h : Below w.heap.size w W) => zoneDR S a b c ze W (hv.below h) s)
  have LC := Lib.hid (fun s W (h : Below w.heap.size w W) => linkDR S a b c ze W (hv.below h) s)
  have R0 := Lib.hid (show resGo S (c.n + 1) nm = resR S nm from by unfold resR; rw [LL.out])
  clear hv small
  generalize resR S nm = r at *
  obtain ⟨A, n, k⟩ := a
  obtain ⟨B, m, d⟩ := b
  obtain ⟨C, q, e⟩ := c
  simp only [Hd.val] at *
  go_enter Tryz.func44, Tryz.ntmps44
  go_upto_region 1 with (fail)
  have KB := (BK.nil w).lit [.slice A n k, .slice B m d, .slice C q e] 26
  generalize w.alloc (.cells #[.slice A n k, .slice B m d, .slice C q e] 26) = W at *
  go_wp2_with fail
  go_loopw [1, 6] (fun v1 v6 wr => ∃ (j : Nat) (cu : ByteArray), j ≤ q + 1 ∧ v6 = .int .i64 j ∧ v1 = .string cu ∧ Hid (resGo S (q + 1 - j) cu = r) ∧ BK w [(w.heap.size, [.slice A n k, .slice B m d, .slice C q e])] wr) (fun _ v _ => q + 1 - (intOf v).toNat)
  case atStart => exact ⟨0, nm, by omega, rfl, rfl, Lib.hid R0.out, KB⟩
  case round =>
    clear KB R0
    obtain ⟨j, cu, hj, rfl, rfl, HR, KB⟩ := hrel
    obtain ⟨_, x0, x1, x2, _⟩ := KB.head.three
    by_cases h4 : j < q + 1
    · have e1 : q + 1 - j = (q - j) + 1 := by omega
      cases hz : zoneI S cu with
      | some z =>
        have EQ := Lib.hid (show r = some z from by rw [← HR.out, e1]; exact resGo_zone hz _)
        replace ZC := Lib.hid (fun W h => (show Calls Tryz.prog 42 #[.agg #[.slice A n k, .slice B m d, .slice C q e], .string cu] W (RetV W (.int .i64 z)) from by have t := ZC.out cu W h; rw [hz] at t; exact t))
        have d0 : decide ((z : Int) ≥ 0) = true := decide_eq_true (by omega)
        clear hz HR e1
        go_wp2_with (go_at_call 42; refine (ZC.out _ KB.hb).mono ?_; rintro e9 W1 ⟨rfl, hk⟩; replace KB := KB.below hk; clear hk)
        go_ret2
        exact ⟨by rw [EQ.out]; rfl, KB.hb⟩
      | none =>
        replace ZC := Lib.hid (fun W h => (show Calls Tryz.prog 42 #[.agg #[.slice A n k, .slice B m d, .slice C q e], .string cu] W (RetV W (.int .i64 (-1))) from by have t := ZC.out cu W h; rw [hz] at t; exact t))
        cases hl : linkI S cu with
        | none =>
          have EQ := Lib.hid (show r = none from by rw [← HR.out, e1]; exact resGo_none hz hl _)
          replace LC := Lib.hid (fun W h => (show Calls Tryz.prog 43 #[.agg #[.slice A n k, .slice B m d, .slice C q e], .string cu] W (RetV W (.int .i64 (-1))) from by have t := LC.out cu W h; rw [hl] at t; exact t))
          clear hz hl HR e1
          go_wp2_with (first
            | (go_at_call 42; refine (ZC.out _ KB.hb).mono ?_; rintro e9 W1 ⟨rfl, hk⟩; replace KB := KB.below hk; clear hk x0 x1 x2; (obtain ⟨_, x0, x1, x2, _⟩ := KB.head.three))
            | (go_at_call 43; refine (LC.out _ KB.hb).mono ?_; rintro e9 W2 ⟨rfl, hk⟩; replace KB := KB.below hk; clear hk))
          go_ret2
          exact ⟨by rw [EQ.out]; rfl, KB.hb⟩
        | some l =>
          obtain ⟨x, hxx, hlt⟩ := linkI_row hl
          have EQ := Lib.hid (show resGo S (q - j) x.target = r from by rw [← HR.out, e1]; exact (resGo_link hz hl hxx _).symm)
          rw [LL.out] at hlt
          replace LC := Lib.hid (fun W h => (show Calls Tryz.prog 43 #[.agg #[.slice A n k, .slice B m d, .slice C q e], .string cu] W (RetV W (.int .i64 l)) from by have t := LC.out cu W h; rw [hl] at t; exact t))
          have HX := Lib.hid hxx
          have d0 : decide ((l : Int) < 0) = false := decide_eq_false (by omega)
          clear hz hl HR hxx e1
          go_upto_region 10 with (first
            | (go_at_call 42; refine (ZC.out _ KB.hb).mono ?_; rintro e9 W1 ⟨rfl, hk⟩; replace KB := KB.below hk; clear hk x0 x1 x2; (obtain ⟨_, x0, x1, x2, _⟩ := KB.head.three))
            | (go_at_call 43; refine (LC.out _ KB.hb).mono ?_; rintro e9 W2 ⟨rfl, hk⟩; replace KB := KB.below hk; clear hk x0 x1 x2; (obtain ⟨_, x0, x1, x2, _⟩ := KB.head.three)))
          obtain ⟨g, o, ea0, hg, ca⟩ := (HL.out.below KB.hb).cells (by omega)
          subst ea0
          have ra := row_at ca (show (S.links.map Lk.vals)[l]? = some (Lk.vals x) by rw [List.getElem?_map, HX.out]; rfl)
          have y0 := ra 0 _ rfl
          have e2 : q + 1 - (j + 1) = q - j := by omega
          clear ca ra HX
          obtain ⟨tg, ln⟩ := x
          simp only [Nat.add_zero] at y0
          go_wp2
          go_roundw
          case rel => exact ⟨j + 1, tg, by omega, int_eqS (by omega), rfl, Lib.hid (by rw [e2]; exact EQ.out), KB⟩
          case measure => simp only [intOf]; omega
    · obtain rfl : j = q + 1 := by omega
      have EQ := Lib.hid (show r = none from by rw [← HR.out, Nat.sub_self]; rfl)
      clear HR
      go_wp2
      go_ret2
      exact ⟨by rw [EQ.out]; rfl, KB.hb⟩
end Go.Proofs.YtmhpnmlgfdomkaaGreatDoor
