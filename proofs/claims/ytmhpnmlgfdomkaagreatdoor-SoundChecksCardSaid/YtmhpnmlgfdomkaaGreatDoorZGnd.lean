import Derived.Test.YtmhpnmlgfdomkaaGreatDoorZGnc
import Derived.Test.YtmhpnmlgfdomkaaGreatDoorZGec
import Derived.Test.YtmhpnmlgfdomkaaGreatDoorZGnb
set_option maxRecDepth 100000
set_option maxHeartbeats 64000000
namespace Go.Proofs.YtmhpnmlgfdomkaaGreatDoor
open Go.RowKit Go.Maps Go.WideShapes
def ltD (n : Int) : Bool := decide (-86400 < n) && decide (n < 86400)
theorem ltD_is {n : Int} : ltD n = false ↔ beyond n := by
  unfold ltD beyond
  simp only [Bool.and_eq_false_iff, decide_eq_false_iff_not]
  omega
theorem lessE (n : Int) (w : World) : Calls Tryz.prog 118 #[.int .i64 n] w (RetV w (.bool (ltD n))) := by
  by_cases h1 : n > -86400
  · by_cases h2 : n < 86400
    · have EQ := Lib.hid (show ltD n = true by unfold ltD; rw [decide_eq_true h2, Bool.and_true]; exact decide_eq_true h1)
      have d1 : decide (n > -86400) = true := decide_eq_true h1
      have d2 : decide (n < 86400) = true := decide_eq_true h2
      go_enter Tryz.func118, Tryz.ntmps118
      go_wp2
      go_ret
      exact ⟨by rw [EQ.out]; rfl, Below.refl _ _⟩
    · have EQ := Lib.hid (show ltD n = false by unfold ltD; rw [decide_eq_false h2, Bool.and_false])
      have d1 : decide (n > -86400) = true := decide_eq_true h1
      have d2 : decide (n < 86400) = false := decide_eq_false h2
      go_enter Tryz.func118, Tryz.ntmps118
      go_wp2
      go_ret
      exact ⟨by rw [EQ.out]; rfl, Below.refl _ _⟩
  · have EQ := Lib.hid (show ltD n = false by unfold ltD; rw [show decide (-86400 < n) = false from decide_eq_false h1, Bool.false_and])
    have d1 : decide (n > -86400) = false := decide_eq_false h1
    go_enter Tryz.func118, Tryz.ntmps118
    go_wp2
    go_ret
    exact ⟨by rw [EQ.out]; rfl, Below.refl _ _⟩
theorem evers_next {l : List Rl} {i : Nat} {x : Rl} (h : l[i]? = some x) : evers (l.take (i + 1)) = evers (l.take i) + (if x.last = 1000000 then 1 else 0) := by
  unfold evers
  rw [List.take_add_one, h, List.countP_append]
  by_cases c : x.last = 1000000 <;> simp [c]
theorem evers_le (l : List Rl) (i : Nat) : evers (l.take i) ≤ i := Nat.le_trans List.countP_le_length (by rw [List.length_take]; omega)
theorem endlessE (l : List Rl) (A : Option Addr) (n c : Nat) (w : World) (hm : RulV w A n c l) : Calls Tryz.prog 89 #[.slice A n c] w (RetV w (.int .i64 (evers l))) := by
  have LN := Lib.hid (show l.length = n by have := hm.len; simpa using this)
  have mx : n ≤ 9223372036854775807 := Nat.le_trans hm.cap hm.max
  have HA := Lib.hid hm
  have LE := Lib.hid (evers_le l)
  have NX := Lib.hid (fun i x (h : l[i]? = some x) => evers_next h)
  have EQ := Lib.hid (show evers (l.take n) = evers l by rw [← LN.out, List.take_length])
  have E0 := Lib.hid (show evers (l.take 0) = 0 from rfl)
  clear hm
  go_enter Tryz.func89, Tryz.ntmps89
  go_wp2_with fail
  go_loopw [3, 8] (fun v3 v8 wr => ∃ i m : Nat, i ≤ n ∧ v8 = .int .i64 i ∧ v3 = .int .i64 m ∧ Hid (evers (l.take i) = m) ∧ m ≤ i ∧ Below w.heap.size w wr) (fun _ v _ => n - (intOf v).toNat)
  case atStart => exact ⟨0, 0, by omega, rfl, rfl, Lib.hid E0.out, by omega, Below.refl _ _⟩
  case round =>
    obtain ⟨i, m, hi, rfl, rfl, HM, hmi, hb⟩ := hrel
    by_cases h4 : i < n
    · obtain ⟨x, hxx⟩ : ∃ x, l[i]? = some x := ⟨_, List.getElem?_eq_getElem (by rw [LN.out]; exact h4)⟩
      obtain ⟨g, o, ea0, hg, ca⟩ := (HA.out.below hb).cells (by omega)
      subst ea0
      have ra := row_at ca (show (l.map Rl.vals)[i]? = some (Rl.vals x) by rw [List.getElem?_map, hxx]; rfl)
      have N1 := Lib.hid (NX.out i x hxx)
      clear ca hxx
      obtain ⟨nm, fr, last, ⟨mo, ki, wd, da, ti, re⟩, save, le⟩ := x
      have x0 : wr.cell? ⟨g, o + i * 11, none⟩ = some (.string nm) := ra 0 _ rfl
      have x1 : wr.cell? ⟨g, o + i * 11 + 1, none⟩ = some (.int .i64 fr) := ra 1 _ rfl
      have x2 : wr.cell? ⟨g, o + i * 11 + 2, none⟩ = some (.int .i64 last) := ra 2 _ rfl
      have x3 : wr.cell? ⟨g, o + i * 11 + 3, none⟩ = some (.int .i64 mo) := ra 3 _ rfl
      have x4 : wr.cell? ⟨g, o + i * 11 + 4, none⟩ = some (.int .i64 ki) := ra 4 _ rfl
      have x5 : wr.cell? ⟨g, o + i * 11 + 5, none⟩ = some (.int .i64 wd) := ra 5 _ rfl
      have x6 : wr.cell? ⟨g, o + i * 11 + 6, none⟩ = some (.int .i64 da) := ra 6 _ rfl
      have x7 : wr.cell? ⟨g, o + i * 11 + 7, none⟩ = some (.int .i64 ti) := ra 7 _ rfl
      have x8 : wr.cell? ⟨g, o + i * 11 + 8, none⟩ = some (.int .i64 re) := ra 8 _ rfl
      have x9 : wr.cell? ⟨g, o + i * 11 + 9, none⟩ = some (.int .i64 save) := ra 9 _ rfl
      have x10 : wr.cell? ⟨g, o + i * 11 + 10, none⟩ = some (.string le) := ra 10 _ rfl
      clear ra
      simp only at N1
      have hb2 := Lib.hid (below_thru hb (below_box wr (.cells #[.string nm, .int .i64 fr, .int .i64 last, .int .i64 mo, .int .i64 ki, .int .i64 wd, .int .i64 da, .int .i64 ti, .int .i64 re, .int .i64 save, .string le] 36)))
      clear hb
      by_cases h5 : last = 1000000
      · have d5 : (last == 1000000) = true := by simp [h5]
        have N2 := Lib.hid (show evers (l.take (i + 1)) = m + 1 by rw [N1.out, HM.out, if_pos h5])
        clear N1 HM h5
        go_wp2
        go_roundw
        case rel => exact ⟨i + 1, m + 1, by omega, int_eqS (by omega), int_eqS (by omega), N2, by omega, hb2.out⟩
        case measure => simp only [intOf]; omega
      · have d5 : (last == 1000000) = false := by simp [h5]
        have N2 := Lib.hid (show evers (l.take (i + 1)) = m by rw [N1.out, HM.out, if_neg h5]; rfl)
        clear N1 HM h5
        go_wp2
        go_roundw
        case rel => exact ⟨i + 1, m, by omega, int_eqS (by omega), rfl, N2, by omega, hb2.out⟩
        case measure => simp only [intOf]; omega
    · obtain rfl : i = n := by omega
      have Z := Lib.hid (show evers l = m by rw [← EQ.out, HM.out])
      go_wp2
      go_ret
      exact ⟨by rw [Z.out]; rfl, hb⟩
theorem ws_a (A : Option Addr) (n c : Nat) (w : World) (CR : Hid (∀ W, Below w.heap.size w W → Calls Tryz.prog 88 #[.slice A n c] W (RetV W (.bool true)))) : Calls Tryz.prog 58 #[.slice A n c] w (RetV w (.int .i64 12)) := by
  have hb := Below.refl w.heap.size w
  go_enter Tryz.func58, Tryz.ntmps58
  go_wp2_with (first
    | (go_at_call 88; refine (CR.out _ hb).mono ?_; rintro e W2 ⟨rfl, hk⟩; replace hb := below_thru hb hk; clear hk))
  go_ret
  exact ⟨rfl, hb⟩
theorem ws_b (A : Option Addr) (n c : Nat) (w : World) (CR : Hid (∀ W, Below w.heap.size w W → Calls Tryz.prog 88 #[.slice A n c] W (RetV W (.bool false)))) (z : Nat) (EN : Hid (∀ W, Below w.heap.size w W → Calls Tryz.prog 89 #[.slice A n c] W (RetV W (.int .i64 z)))) (d : decide ((z : Int) > 2) = true) : Calls Tryz.prog 58 #[.slice A n c] w (RetV w (.int .i64 15)) := by
  have hb := Below.refl w.heap.size w
  go_enter Tryz.func58, Tryz.ntmps58
  go_wp2_with (first
    | (go_at_call 88; refine (CR.out _ hb).mono ?_; rintro e W2 ⟨rfl, hk⟩; replace hb := below_thru hb hk; clear hk)
    | (go_at_call 89; refine (EN.out _ hb).mono ?_; rintro e W3 ⟨rfl, hk⟩; replace hb := below_thru hb hk; clear hk))
  go_ret
  exact ⟨rfl, hb⟩
theorem ws_c (A : Option Addr) (n c : Nat) (w : World) (CR : Hid (∀ W, Below w.heap.size w W → Calls Tryz.prog 88 #[.slice A n c] W (RetV W (.bool false)))) (z : Nat) (EN : Hid (∀ W, Below w.heap.size w W → Calls Tryz.prog 89 #[.slice A n c] W (RetV W (.int .i64 z)))) (d : decide ((z : Int) > 2) = false) (NE : Hid (∀ W, Below w.heap.size w W → Calls Tryz.prog 90 #[.slice A n c] W (RetV W (.bool true)))) : Calls Tryz.prog 58 #[.slice A n c] w (RetV w (.int .i64 17)) := by
  have hb := Below.refl w.heap.size w
  go_enter Tryz.func58, Tryz.ntmps58
  go_wp2_with (first
    | (go_at_call 88; refine (CR.out _ hb).mono ?_; rintro e W2 ⟨rfl, hk⟩; replace hb := below_thru hb hk; clear hk)
    | (go_at_call 89; refine (EN.out _ hb).mono ?_; rintro e W3 ⟨rfl, hk⟩; replace hb := below_thru hb hk; clear hk)
    | (go_at_call 90; refine (NE.out _ hb).mono ?_; rintro e W4 ⟨rfl, hk⟩; replace hb := below_thru hb hk; clear hk))
  go_ret
  exact ⟨rfl, hb⟩
theorem ws_d (A : Option Addr) (n c : Nat) (w : World) (CR : Hid (∀ W, Below w.heap.size w W → Calls Tryz.prog 88 #[.slice A n c] W (RetV W (.bool false)))) (z : Nat) (EN : Hid (∀ W, Below w.heap.size w W → Calls Tryz.prog 89 #[.slice A n c] W (RetV W (.int .i64 z)))) (d : decide ((z : Int) > 2) = false) (NE : Hid (∀ W, Below w.heap.size w W → Calls Tryz.prog 90 #[.slice A n c] W (RetV W (.bool false)))) : Calls Tryz.prog 58 #[.slice A n c] w (RetV w (.int .i64 0)) := by
  have hb := Below.refl w.heap.size w
  go_enter Tryz.func58, Tryz.ntmps58
  go_wp2_with (first
    | (go_at_call 88; refine (CR.out _ hb).mono ?_; rintro e W2 ⟨rfl, hk⟩; replace hb := below_thru hb hk; clear hk)
    | (go_at_call 89; refine (EN.out _ hb).mono ?_; rintro e W3 ⟨rfl, hk⟩; replace hb := below_thru hb hk; clear hk)
    | (go_at_call 90; refine (NE.out _ hb).mono ?_; rintro e W4 ⟨rfl, hk⟩; replace hb := below_thru hb hk; clear hk))
  go_ret
  exact ⟨rfl, hb⟩
theorem wrongSetE (l : List Rl) (hl : fitL l) (A : Option Addr) (n c : Nat) (w : World) (hm : RulV w A n c l) (LE : Lens w) : Calls Tryz.prog 58 #[.slice A n c] w (RetV w (.int .i64 (setErr l))) := by
  have hf : fitB l = true := @decide_eq_true _ (Classical.propDecidable _) hl
  have CR := fun W (h : Below w.heap.size w W) => crowdedE l A n c W (hm.below h)
  have EN := fun W (h : Below w.heap.size w W) => endlessE l A n c W (hm.below h)
  have NE := fun W (h : Below w.heap.size w W) => nearE l A n c W (hm.below h) (LE.mono h)
  unfold setErr
  by_cases h1 : 10 < mostN l
  · rw [if_pos h1]
    rw [crowdB_is hf (b := true) (by rw [← crowd_most]; simpa using h1)] at CR
    exact ws_a A n c w (Lib.hid CR)
  · rw [if_neg h1]
    have hc : crowdB l = false := crowdB_is hf (by rw [← crowd_most]; simpa using h1)
    rw [hc] at CR
    by_cases h2 : 2 < evers l
    · rw [if_pos h2]
      exact ws_b A n c w (Lib.hid CR) _ (Lib.hid EN) (decide_eq_true (by omega))
    · rw [if_neg h2]
      have d2 : decide ((evers l : Int) > 2) = false := decide_eq_false (by omega)
      by_cases h3 : nearP l
      · rw [if_pos h3]
        rw [nearB_is hf hc (b := true) (by simpa using h3)] at NE
        exact ws_c A n c w (Lib.hid CR) _ (Lib.hid EN) d2 (Lib.hid NE)
      · rw [if_neg h3]
        rw [nearB_is hf hc (b := false) (by simpa using h3)] at NE
        exact ws_d A n c w (Lib.hid CR) _ (Lib.hid EN) d2 (Lib.hid NE)
def RetFw (w : World) (o : Option Fw) (e : Ending) (w' : World) : Prop := e = .returned (o.getD Fw.zero).val ∧ Below w.heap.size w w'
theorem upto_succ {α : Type} {F : Nat → Option α} {i : Nat} (h : ∀ j, j < i → F j = none) (k : F i = none) : ∀ j, j < i + 1 → F j = none := fun j hj => by
  by_cases c : j = i
  · rw [c]; exact k
  · exact h j (by omega)
theorem fs_none {α : Type} {n : Nat} {F : Nat → Option α} (h : ∀ j, j < n → F j = none) : fsR n F = none := fsR_none.2 h
theorem fi_first {L : List Rl} {i : Nat} {x : Rl} (h : L[i]? = some x) : ∃ j, fiL L x.name = some j ∧ j ≤ i ∧ (j = i ↔ firstR L i) := by
  have hi : i < L.length := (List.getElem?_eq_some_iff.1 h).1
  cases e : fiL L x.name with
  | none =>
    unfold fiL at e
    rw [List.findIdx?_eq_none_iff] at e
    have := e x (List.mem_of_getElem? h)
    simp at this
  | some j =>
    unfold fiL at e
    rw [List.findIdx?_eq_some_iff_getElem] at e
    obtain ⟨h1, h2, h3⟩ := e
    have hle : j ≤ i := by
      by_cases c : j ≤ i
      · exact c
      · have := h3 i (by omega)
        rw [(List.getElem?_eq_some_iff.1 h).2] at this
        simp at this
    refine ⟨j, rfl, hle, fun e => ?_, fun hf => ?_⟩
    · subst e
      intro y hy k z hk hz
      rw [h] at hy
      obtain rfl := Option.some.inj hy
      have := h3 k hk
      rw [(List.getElem?_eq_some_iff.1 hz).2] at this
      simpa using this
    · by_cases c : j = i
      · exact c
      · have := hf x h j L[j] (by omega) (List.getElem?_eq_getElem h1)
        exact absurd (of_decide_eq_true h2) this
theorem setF_first {L : List Rl} {i : Nat} {x : Rl} (h : L[i]? = some x) (f : firstR L i) : setF L i = if setErr (setL L x.name) ≠ 0 then some ⟨setErr (setL L x.name), 1, i, 0⟩ else none := by
  unfold setF; rw [h]
  simp only
  by_cases c : setErr (setL L x.name) ≠ 0
  · rw [if_pos ⟨f, c⟩, if_pos c]
  · rw [if_neg (fun k => c k.2), if_neg c]
theorem setF_not {L : List Rl} {i : Nat} {x : Rl} (h : L[i]? = some x) (f : ¬ firstR L i) : setF L i = none := by
  unfold setF; rw [h]
  simp only
  rw [if_neg (fun k => f k.1)]
theorem st_found {w : World} {b n : Nat} {L : List Rl} {f : ByteArray → Option (Nat × Hd)} (h : StM w b n L L.length f) {s : ByteArray} {j : Nat} (e : fiL L s = some j) : stI f s = j ∧ RulV w (stH f s).a (stH f s).n (stH f s).c (setL L s) := by
  have h1 := h.fst s
  rw [List.take_length, e] at h1
  unfold stI stH
  cases hf : f s with
  | none => rw [hf] at h1; cases h1
  | some p =>
    rw [hf] at h1
    exact ⟨by simpa using h1, h.rows s p hf⟩
theorem ruleF_at {L : List Rl} {i : Nat} {x : Rl} (h : L[i]? = some x) : ruleF L i = if x.last < x.fr then some ⟨16, 1, i, 0⟩ else none := by unfold ruleF; rw [h]
theorem inYearsE (S : Sr) (a b c : Hd) (ze : List Ze) (b1 n1 b2 n2 : Nat) (f : ByteArray → Option (Nat × Hd)) (w : World) (hv : LkV w S a b c ze b1 n1 b2 n2 f) : Calls Tryz.prog 31 #[.agg #[.slice a.a a.n a.c, .slice b.a b.n b.c, .slice c.a c.n c.c, .map (some b1), .map (some b2)]] w (RetFw w (fsR S.rules.length (ruleF S.rules))) := by
  have HR := Lib.hid hv.src.rules
  have LN := Lib.hid (show S.rules.length = a.n by have := hv.src.rules.len; simpa using this)
  have mx : a.n ≤ 9223372036854775807 := Nat.le_trans hv.src.rules.cap hv.src.rules.max
  have NO := Lib.hid (fun (h : ∀ j, j < a.n → ruleF S.rules j = none) => fs_none (n := S.rules.length) (F := ruleF S.rules) (fun j hj => h j (by rw [← LN.out]; exact hj)))
  have HIT := Lib.hid (fun i v (hi : i < a.n) (h : ruleF S.rules i = some v) (m : ∀ j, j < i → ruleF S.rules j = none) => fsR_hit (n := S.rules.length) (by rw [LN.out]; exact hi) h m)
  clear hv
  obtain ⟨A, n, k⟩ := a
  obtain ⟨B, m, d⟩ := b
  obtain ⟨C, q, e⟩ := c
  simp only at *
  go_enter Tryz.func31, Tryz.ntmps31
  go_upto_region 1 with (fail)
  have KB := ((BK.nil w).lit [.slice A n k, .slice B m d, .slice C q e, .map (some b1), .map (some b2)] 52).lit [.int .i64 0, .int .i64 0, .int .i64 0, .int .i64 0] 31
  simp only [World.size_alloc] at *
  generalize (w.alloc (.cells #[.slice A n k, .slice B m d, .slice C q e, .map (some b1), .map (some b2)] 52)).alloc (.cells #[.int .i64 0, .int .i64 0, .int .i64 0, .int .i64 0] 31) = W at *
  obtain ⟨_, x0, x1, x2, x3, x4, _⟩ := KB.tail.head.fiveL
  go_wp2_with fail
  clear x0 x1 x2 x3 x4
  go_loopw [9] (fun v9 wr => ∃ i : Nat, i ≤ n ∧ v9 = .int .i64 i ∧ Hid (∀ j, j < i → ruleF S.rules j = none) ∧ BK w [(w.heap.size + 1, [.int .i64 0, .int .i64 0, .int .i64 0, .int .i64 0]), (w.heap.size, [.slice A n k, .slice B m d, .slice C q e, .map (some b1), .map (some b2)])] wr) (fun v _ => n - (intOf v).toNat)
  case atStart => exact ⟨0, by omega, rfl, Lib.hid (fun j h => absurd h (by omega)), KB⟩
  case round =>
    clear KB
    obtain ⟨i, hi, rfl, HM, KB⟩ := hrel
    by_cases h4 : i < n
    · obtain ⟨x, hxx⟩ : ∃ x, S.rules[i]? = some x := ⟨_, List.getElem?_eq_getElem (by rw [LN.out]; exact h4)⟩
      obtain ⟨g, o, ea0, hg, ca⟩ := (HR.out.below KB.hb).cells (by omega)
      subst ea0
      have ra := row_at ca (show (S.rules.map Rl.vals)[i]? = some (Rl.vals x) by rw [List.getElem?_map, hxx]; rfl)
      have RF := Lib.hid (ruleF_at hxx)
      clear ca hxx
      obtain ⟨nm, fr, last, ⟨mo, ki, wd, da, ti, re⟩, save, le⟩ := x
      have x0 : wr.cell? ⟨g, o + i * 11, none⟩ = some (.string nm) := ra 0 _ rfl
      have x1 : wr.cell? ⟨g, o + i * 11 + 1, none⟩ = some (.int .i64 fr) := ra 1 _ rfl
      have x2 : wr.cell? ⟨g, o + i * 11 + 2, none⟩ = some (.int .i64 last) := ra 2 _ rfl
      have x3 : wr.cell? ⟨g, o + i * 11 + 3, none⟩ = some (.int .i64 mo) := ra 3 _ rfl
      have x4 : wr.cell? ⟨g, o + i * 11 + 4, none⟩ = some (.int .i64 ki) := ra 4 _ rfl
      have x5 : wr.cell? ⟨g, o + i * 11 + 5, none⟩ = some (.int .i64 wd) := ra 5 _ rfl
      have x6 : wr.cell? ⟨g, o + i * 11 + 6, none⟩ = some (.int .i64 da) := ra 6 _ rfl
      have x7 : wr.cell? ⟨g, o + i * 11 + 7, none⟩ = some (.int .i64 ti) := ra 7 _ rfl
      have x8 : wr.cell? ⟨g, o + i * 11 + 8, none⟩ = some (.int .i64 re) := ra 8 _ rfl
      have x9 : wr.cell? ⟨g, o + i * 11 + 9, none⟩ = some (.int .i64 save) := ra 9 _ rfl
      have x10 : wr.cell? ⟨g, o + i * 11 + 10, none⟩ = some (.string le) := ra 10 _ rfl
      clear ra
      simp only at RF
      go_upto_region 4 with (fail)
      have KC := KB.lit [.string nm, .int .i64 fr, .int .i64 last, .int .i64 mo, .int .i64 ki, .int .i64 wd, .int .i64 da, .int .i64 ti, .int .i64 re, .int .i64 save, .string le] 36
      generalize wr.alloc (.cells #[.string nm, .int .i64 fr, .int .i64 last, .int .i64 mo, .int .i64 ki, .int .i64 wd, .int .i64 da, .int .i64 ti, .int .i64 re, .int .i64 save, .string le] 36) = V at *
      generalize wr.heap.size = rb at *
      clear x0 x1 x2 x3 x4 x5 x6 x7 x8 x9 x10 KB hg
      obtain ⟨y0, y1, y2, y3, y4, y5, y6, y7, y8, y9, y10⟩ := KC.head.elevenC
      have KB := KC.tail
      clear KC y0 y3 y4 y5 y6 y7 y8 y9 y10
      by_cases h5 : last < fr
      · have d5 : decide (last < fr) = true := decide_eq_true h5
        have EQ := Lib.hid (HIT.out i ⟨16, 1, i, 0⟩ h4 (by rw [RF.out, if_pos h5]) HM.out)
        clear RF HM h5
        go_upto_region 5 with (fail)
        clear y1 y2
        have KZ := (KB.put (by omega) (by simp) [.int .i64 16, .int .i64 1, .int .i64 i, .int .i64 0] rfl)
        obtain ⟨_, q0, q1, q2, q3, f0, f1, f2, f3⟩ := (KB).head.four
        obtain ⟨_, r0, r1, r2, r3, _⟩ := KZ.head.four
        have HB := KZ.hb
        simp only [setAll] at r0 r1 r2 r3 HB
        clear KZ
        go_wp2
        exact bodyPost_ret (v := .agg #[.int .i64 16, .int .i64 1, .int .i64 i, .int .i64 0]) (by simp [results, Tryz.results31, go_sem, r0, r1, r2, r3]) rfl ⟨by rw [EQ.out]; rfl, HB⟩
      · have d5 : decide (last < fr) = false := decide_eq_false h5
        have R2 : ruleF S.rules i = none := by rw [RF.out, if_neg h5]
        have H2 := Lib.hid (show ∀ j, j < i + 1 → ruleF S.rules j = none from upto_succ HM.out R2)
        clear RF HM h5 R2
        go_wp2
        go_roundw
        case rel => exact ⟨i + 1, by omega, int_eqS (by omega), H2, KB⟩
        case measure => simp only [intOf]; omega
    · obtain rfl : i = n := by omega
      have EQ := Lib.hid (NO.out HM.out)
      have KZ := (KB.put (by omega) (by simp) [.int .i64 0, .int .i64 0, .int .i64 0, .int .i64 0] rfl)
      obtain ⟨_, q0, q1, q2, q3, f0, f1, f2, f3⟩ := (KB).head.four
      obtain ⟨_, r0, r1, r2, r3, _⟩ := KZ.head.four
      have HB := KZ.hb
      simp only [setAll] at r0 r1 r2 r3 HB
      clear KZ
      go_wp2
      exact bodyPost_ret (v := .agg #[.int .i64 0, .int .i64 0, .int .i64 0, .int .i64 0]) (by simp [results, Tryz.results31, go_sem, r0, r1, r2, r3]) rfl ⟨by rw [EQ.out]; rfl, HB⟩
theorem inSetsE (S : Sr) (a b c : Hd) (ze : List Ze) (b1 n1 b2 n2 : Nat) (f : ByteArray → Option (Nat × Hd)) (w : World) (hv : LkV w S a b c ze b1 n1 b2 n2 f) (hx : S.in64) (hfit : fitL S.rules) (LE : Lens w) : Calls Tryz.prog 32 #[.agg #[.slice a.a a.n a.c, .slice b.a b.n b.c, .slice c.a c.n c.c, .map (some b1), .map (some b2)]] w (RetFw w (fsR S.rules.length (setF S.rules))) := by
  have HR := Lib.hid hv.src.rules
  have LN := Lib.hid (show S.rules.length = a.n by have := hv.src.rules.len; simpa using this)
  have mx : a.n ≤ 9223372036854775807 := Nat.le_trans hv.src.rules.cap hv.src.rules.max
  have NO := Lib.hid (fun (h : ∀ j, j < a.n → setF S.rules j = none) => fs_none (n := S.rules.length) (F := setF S.rules) (fun j hj => h j (by rw [← LN.out]; exact hj)))
  have HIT := Lib.hid (fun i v (hi : i < a.n) (h : setF S.rules i = some v) (m : ∀ j, j < i → setF S.rules j = none) => fsR_hit (n := S.rules.length) (by rw [LN.out]; exact hi) h m)
  have ST := Lib.hid (fun W (h : Below w.heap.size w W) => StM.below hv.st (by first | exact h | exact h))
  have XN := Lib.hid (fun (i : Nat) (x : Rl) (h : S.rules[i]? = some x) => (hx.1 x (List.mem_of_getElem? h)).1)
  have WS := Lib.hid (fun s (A : Option Addr) (n c : Nat) W (h : Below w.heap.size w W) (hm : RulV W A n c (setL S.rules s)) => wrongSetE (setL S.rules s) (setL_fit hfit s) A n c W hm (LE.mono h))
  clear hv hx hfit LE
  obtain ⟨A, n, k⟩ := a
  obtain ⟨B, m, d⟩ := b
  obtain ⟨C, q, e⟩ := c
  simp only at *
  go_enter Tryz.func32, Tryz.ntmps32
  go_upto_region 1 with (fail)
  have KB := ((BK.nil w).lit [.slice A n k, .slice B m d, .slice C q e, .map (some b1), .map (some b2)] 52).lit [.int .i64 0, .int .i64 0, .int .i64 0, .int .i64 0] 31
  simp only [World.size_alloc] at *
  generalize (w.alloc (.cells #[.slice A n k, .slice B m d, .slice C q e, .map (some b1), .map (some b2)] 52)).alloc (.cells #[.int .i64 0, .int .i64 0, .int .i64 0, .int .i64 0] 31) = W at *
  obtain ⟨_, x0, x1, x2, x3, x4, _⟩ := KB.tail.head.fiveL
  go_wp2_with fail
  clear x0 x1 x2 x3 x4
  go_loopw [11] (fun v11 wr => ∃ i : Nat, i ≤ n ∧ v11 = .int .i64 i ∧ Hid (∀ j, j < i → setF S.rules j = none) ∧ BK w [(w.heap.size + 1, [.int .i64 0, .int .i64 0, .int .i64 0, .int .i64 0]), (w.heap.size, [.slice A n k, .slice B m d, .slice C q e, .map (some b1), .map (some b2)])] wr) (fun v _ => n - (intOf v).toNat)
  case atStart => exact ⟨0, by omega, rfl, Lib.hid (fun j h => absurd h (by omega)), KB⟩
  case round =>
    clear KB
    obtain ⟨i, hi, rfl, HM, KB⟩ := hrel
    by_cases h4 : i < n
    · obtain ⟨x, hxx⟩ : ∃ x, S.rules[i]? = some x := ⟨_, List.getElem?_eq_getElem (by rw [LN.out]; exact h4)⟩
      obtain ⟨g, o, ea0, hg, ca⟩ := (HR.out.below KB.hb).cells (by omega)
      subst ea0
      have ra := row_at ca (show (S.rules.map Rl.vals)[i]? = some (Rl.vals x) by rw [List.getElem?_map, hxx]; rfl)
      have zn := XN.out i x hxx
      obtain ⟨j, hj, hji, hjf⟩ := fi_first hxx
      have SF := Lib.hid (fun h => setF_first hxx h)
      have SN := Lib.hid (fun h => setF_not hxx h)
      clear ca hxx
      obtain ⟨nm, fr, last, ⟨mo, ki, wd, da, ti, re⟩, save, le⟩ := x
      have x0 : wr.cell? ⟨g, o + i * 11, none⟩ = some (.string nm) := ra 0 _ rfl
      have x1 : wr.cell? ⟨g, o + i * 11 + 1, none⟩ = some (.int .i64 fr) := ra 1 _ rfl
      have x2 : wr.cell? ⟨g, o + i * 11 + 2, none⟩ = some (.int .i64 last) := ra 2 _ rfl
      have x3 : wr.cell? ⟨g, o + i * 11 + 3, none⟩ = some (.int .i64 mo) := ra 3 _ rfl
      have x4 : wr.cell? ⟨g, o + i * 11 + 4, none⟩ = some (.int .i64 ki) := ra 4 _ rfl
      have x5 : wr.cell? ⟨g, o + i * 11 + 5, none⟩ = some (.int .i64 wd) := ra 5 _ rfl
      have x6 : wr.cell? ⟨g, o + i * 11 + 6, none⟩ = some (.int .i64 da) := ra 6 _ rfl
      have x7 : wr.cell? ⟨g, o + i * 11 + 7, none⟩ = some (.int .i64 ti) := ra 7 _ rfl
      have x8 : wr.cell? ⟨g, o + i * 11 + 8, none⟩ = some (.int .i64 re) := ra 8 _ rfl
      have x9 : wr.cell? ⟨g, o + i * 11 + 9, none⟩ = some (.int .i64 save) := ra 9 _ rfl
      have x10 : wr.cell? ⟨g, o + i * 11 + 10, none⟩ = some (.string le) := ra 10 _ rfl
      clear ra
      simp only at SF SN hj zn
      have HJ := Lib.hid hj
      have HJF := Lib.hid hjf
      have HJI := Lib.hid hji
      clear hj hjf hji
      go_upto_region 4 with (fail)
      have KC := KB.lit [.string nm, .int .i64 fr, .int .i64 last, .int .i64 mo, .int .i64 ki, .int .i64 wd, .int .i64 da, .int .i64 ti, .int .i64 re, .int .i64 save, .string le] 36
      generalize wr.alloc (.cells #[.string nm, .int .i64 fr, .int .i64 last, .int .i64 mo, .int .i64 ki, .int .i64 wd, .int .i64 da, .int .i64 ti, .int .i64 re, .int .i64 save, .string le] 36) = V at *
      generalize wr.heap.size = rb at *
      clear x0 x1 x2 x3 x4 x5 x6 x7 x8 x9 x10 KB hg
      have y0 := KC.head.cs.1
      have KB := KC.tail
      clear KC
      have ST1 := ST.out V KB.hb
      have lk := look_st0 ST1 nm zn
      obtain ⟨ej, RW⟩ := st_found ST1 HJ.out
      rw [ej] at lk
      clear ej ST1 zn
      generalize stH f nm = hh at *
      obtain ⟨ha, hn, hc⟩ := hh
      have y3 := KB.tail.head.fiveL.2.2.2.2.1
      by_cases h5 : j = i
      · have FI := Lib.hid (HJF.out.1 h5)
        rw [h5] at lk
        clear HJ HJF HJI h5
        have WSX := Lib.hid (fun W (hb : Below w.heap.size w W) (k : Below V.heap.size V W) => WS.out nm ha hn hc W hb (RW.below k))
        have SFX := Lib.hid (SF.out FI.out)
        clear SF SN WS RW FI
        generalize setErr (setL S.rules nm) = er at *
        go_upto_region 5 with (fail)
        have KD := KB.lit [.int .i64 i, .slice ha hn hc] 71
        have kv := (Below.refl V.heap.size V).trans (below_box V (.cells #[.int .i64 i, .slice ha hn hc] 71))
        generalize V.alloc (.cells #[.int .i64 i, .slice ha hn hc] 71) = U at *
        clear lk y0 y3 KB
        obtain ⟨_, y0, y1, _⟩ := KD.head.two
        have KB := KD.tail
        clear KD
        have d5 : ((i : Int) != (i : Int)) = false := by simp
        go_upto_region 7 with (go_at_call 58; refine (WSX.out _ KB.hb kv).mono ?_; rintro e U2 ⟨rfl, hk⟩)
        replace KB := KB.below hk
        clear hk kv y0 y1 WSX
        by_cases h6 : er = 0
        · have R2 : setF S.rules i = none := by rw [SFX.out, if_neg (by simpa using h6)]
          have H2 := Lib.hid (show ∀ j, j < i + 1 → setF S.rules j = none from upto_succ HM.out R2)
          have d6 : (er != 0) = false := by simp [h6]
          have d7 : (er == 0) = true := by simp [h6]
          clear SFX HM R2
          subst h6
          go_wp2
          go_roundw
          case rel => exact ⟨i + 1, by omega, int_eqS (by omega), H2, KB⟩
          case measure => simp only [intOf]; omega
        · have EQ := Lib.hid (HIT.out i ⟨er, 1, i, 0⟩ h4 (by rw [SFX.out, if_pos h6]) HM.out)
          have d6 : (er != 0) = true := by simp [h6]
          have d7 : (er == 0) = false := by simp [h6]
          clear SFX HM
          go_upto_region 8 with (fail)
          have KZ := (KB.put (by omega) (by simp) [.int .i64 er, .int .i64 1, .int .i64 i, .int .i64 0] rfl)
          obtain ⟨_, q0, q1, q2, q3, f0, f1, f2, f3⟩ := (KB).head.four
          obtain ⟨_, r0, r1, r2, r3, _⟩ := KZ.head.four
          have HB := KZ.hb
          simp only [setAll] at r0 r1 r2 r3 HB
          clear KZ
          go_wp2
          exact bodyPost_ret (v := .agg #[.int .i64 er, .int .i64 1, .int .i64 i, .int .i64 0]) (by simp [results, Tryz.results32, go_sem, r0, r1, r2, r3]) rfl ⟨by rw [EQ.out]; rfl, HB⟩
      · have R2 : setF S.rules i = none := SN.out (fun h => h5 (HJF.out.2 h))
        have H2 := Lib.hid (show ∀ j, j < i + 1 → setF S.rules j = none from upto_succ HM.out R2)
        have d5 : ((j : Int) != (i : Int)) = true := by simp; omega
        have d6 : ((j : Int) == (i : Int)) = false := by simp; omega
        have h6 : ¬ (j : Int) = (i : Int) := by omega
        clear HJ HJF HJI RW SF SN WS HM R2
        have KX := Lib.hid (KB.below (below_box V (.cells #[.int .i64 j, .slice ha hn hc] 71)))
        clear KB
        go_wp2
        go_roundw
        case rel => exact ⟨i + 1, by omega, int_eqS (by omega), H2, KX.out⟩
        case measure => simp only [intOf]; omega
    · obtain rfl : i = n := by omega
      have EQ := Lib.hid (NO.out HM.out)
      have KZ := (KB.put (by omega) (by simp) [.int .i64 0, .int .i64 0, .int .i64 0, .int .i64 0] rfl)
      obtain ⟨_, q0, q1, q2, q3, f0, f1, f2, f3⟩ := (KB).head.four
      obtain ⟨_, r0, r1, r2, r3, _⟩ := KZ.head.four
      have HB := KZ.hb
      simp only [setAll] at r0 r1 r2 r3 HB
      clear KZ
      go_wp2
      exact bodyPost_ret (v := .agg #[.int .i64 0, .int .i64 0, .int .i64 0, .int .i64 0]) (by simp [results, Tryz.results32, go_sem, r0, r1, r2, r3]) rfl ⟨by rw [EQ.out]; rfl, HB⟩
theorem linkF1_at {S : Sr} {i : Nat} {x : Lk} (h : S.links[i]? = some x) (k : (∃ z ∈ S.zones, z.name = x.name) ∨ (∃ (k : Nat) (y : Lk), k < i ∧ S.links[k]? = some y ∧ y.name = x.name)) : linkF1 S i = some ⟨10, 3, i, 0⟩ := by
  unfold linkF1; rw [h]; simp only; rw [if_pos k]
theorem linkF1_no {S : Sr} {i : Nat} {x : Lk} (h : S.links[i]? = some x) (k : ¬ ((∃ z ∈ S.zones, z.name = x.name) ∨ (∃ (k : Nat) (y : Lk), k < i ∧ S.links[k]? = some y ∧ y.name = x.name))) : linkF1 S i = none := by
  unfold linkF1; rw [h]; simp only; rw [if_neg k]
theorem link_least {S : Sr} {nm : ByteArray} {j : Nat} (h : linkI S nm = some j) : (∃ y, S.links[j]? = some y ∧ y.name = nm) ∧ ∀ k y, k < j → S.links[k]? = some y → y.name ≠ nm := by
  unfold linkI at h
  rw [List.findIdx?_eq_some_iff_getElem] at h
  obtain ⟨h1, h2, h3⟩ := h
  refine ⟨⟨_, List.getElem?_eq_getElem h1, of_decide_eq_true h2⟩, fun k y hk hy => ?_⟩
  have := h3 k hk
  rw [(List.getElem?_eq_some_iff.1 hy).2] at this
  simpa using this
theorem lk_mean {S : Sr} {i : Nat} {x : Lk} (h : S.links[i]? = some x) : (∃ z, nmA S x.name = some (2, z) ∧ linkF1 S i = some ⟨10, 3, i, 0⟩) ∨ ∃ j, nmA S x.name = some (3, j) ∧ j ≤ i ∧ (j ≠ i → linkF1 S i = some ⟨10, 3, i, 0⟩) ∧ (j = i → linkF1 S i = none) := by
  cases hz : zoneI S x.name with
  | some z =>
    obtain ⟨y, hy, e⟩ := zoneI_some hz
    exact .inl ⟨z, nmA_zone hz, linkF1_at h (.inl ⟨y, List.mem_of_getElem? hy, e⟩)⟩
  | none =>
    have nz := zoneI_none.1 hz
    cases hl : linkI S x.name with
    | none => exact absurd rfl (linkI_none.1 hl x (List.mem_of_getElem? h))
    | some j =>
      obtain ⟨⟨y, hy, e⟩, lm⟩ := link_least hl
      have hle : j ≤ i := by
        by_cases c : j ≤ i
        · exact c
        · exact absurd rfl (lm i x (by omega) h)
      refine .inr ⟨j, nmA_link hz hl, hle, fun c => linkF1_at h (.inr ⟨j, y, by omega, hy, e⟩), fun c => linkF1_no h ?_⟩
      rintro (⟨z, hz, e⟩ | ⟨k, y, hk, hy, e⟩)
      · exact nz z hz e
      · exact lm k y (by omega) hy e
theorem linkF2_is {S : Sr} {i : Nat} {x : Lk} (h : S.links[i]? = some x) : linkF2 S i = if (nmA S x.target).isSome = true then none else some ⟨8, 3, i, 0⟩ := by
  unfold linkF2; rw [h]; simp only
  by_cases c : (nmA S x.target).isSome = true
  · rw [if_pos c, if_neg]
    have := nmA_some.1 c
    unfold allN at this
    rw [List.mem_append, List.mem_map, List.mem_map] at this
    rintro ⟨a, b⟩
    rcases this with t | t
    · exact a t
    · exact b t
  · rw [if_neg c, if_pos]
    have := fun k => c (nmA_some.2 k)
    unfold allN at this
    rw [List.mem_append, List.mem_map, List.mem_map] at this
    exact ⟨fun t => this (.inl t), fun t => this (.inr t)⟩
def ringF (S : Sr) (i : Nat) : Option Fw := match S.links[i]? with
  | some x => if resR S x.target = none then some ⟨16, 3, i, 0⟩ else none
  | none => none
theorem ringF_at {S : Sr} {i : Nat} {x : Lk} (h : S.links[i]? = some x) : ringF S i = if (resR S x.target).isSome = true then none else some ⟨16, 3, i, 0⟩ := by
  unfold ringF; rw [h]
  cases e : resR S x.target <;> simp [e]
theorem ring_is {S : Sr} (h : ∀ i, i < S.links.length → linkF1 S i = none) : ∀ i, ringF S i = linkF3 S i := fun i => by
  unfold ringF linkF3
  cases e : S.links[i]? with
  | none => rfl
  | some x =>
    simp only
    have hi := (List.getElem?_eq_some_iff.1 e).1
    have h1 := h i hi
    rcases lk_mean e with ⟨z, _, k⟩ | ⟨j, hn, hj, k1, k2⟩
    · rw [h1] at k; cases k
    · have hz : zoneI S x.name = none := by
        cases hz : zoneI S x.name with
        | none => rfl
        | some z => rw [nmA_zone hz] at hn; cases hn
      have hl : linkI S x.name = some j := by
        cases hl : linkI S x.name with
        | none => rw [nmA_none hz hl] at hn; cases hn
        | some j' => rw [nmA_link hz hl] at hn; cases hn; rfl
      have hji : j = i := by
        by_cases c : j = i
        · exact c
        · have := k1 c; rw [h1] at this; cases this
      subst hji
      have e1 := resGo_ge (S := S) (n := S.links.length + 2) (by omega) x.name
      rw [show S.links.length + 2 = (S.links.length + 1) + 1 from rfl, resGo_link hz hl e] at e1
      rw [show resR S x.target = resGo S (S.links.length + 1) x.target from rfl, e1]
theorem inNamesE (S : Sr) (a b c : Hd) (ze : List Ze) (b1 n1 b2 n2 : Nat) (f : ByteArray → Option (Nat × Hd)) (w : World) (hv : LkV w S a b c ze b1 n1 b2 n2 f) (hx : S.in64) : Calls Tryz.prog 34 #[.agg #[.slice a.a a.n a.c, .slice b.a b.n b.c, .slice c.a c.n c.c, .map (some b1), .map (some b2)]] w (RetFw w (fsR S.links.length (linkF1 S))) := by
  have HR := Lib.hid hv.src.links
  have LN := Lib.hid (show S.links.length = c.n by have := hv.src.links.len; simpa using this)
  have mx : c.n ≤ 9223372036854775807 := Nat.le_trans hv.src.links.cap hv.src.links.max
  have NO := Lib.hid (fun (h : ∀ j, j < c.n → linkF1 S j = none) => fs_none (n := S.links.length) (F := linkF1 S) (fun j hj => h j (by rw [← LN.out]; exact hj)))
  have HIT := Lib.hid (fun i v (hi : i < c.n) (h : linkF1 S i = some v) (m : ∀ j, j < i → linkF1 S j = none) => fsR_hit (n := S.links.length) (by rw [LN.out]; exact hi) h m)
  have NM := Lib.hid (fun W (h : Below w.heap.size w W) => SM.below hv.nm (by first | exact h | exact h))
  have XN := Lib.hid (fun (i : Nat) (x : Lk) (h : S.links[i]? = some x) => hx.2.2 x (List.mem_of_getElem? h))
  clear hv hx
  obtain ⟨A, n, k⟩ := a
  obtain ⟨B, m, d⟩ := b
  obtain ⟨C, q, e⟩ := c
  simp only at *
  go_enter Tryz.func34, Tryz.ntmps34
  go_upto_region 1 with (fail)
  have KB := ((BK.nil w).lit [.slice A n k, .slice B m d, .slice C q e, .map (some b1), .map (some b2)] 52).lit [.int .i64 0, .int .i64 0, .int .i64 0, .int .i64 0] 31
  simp only [World.size_alloc] at *
  generalize (w.alloc (.cells #[.slice A n k, .slice B m d, .slice C q e, .map (some b1), .map (some b2)] 52)).alloc (.cells #[.int .i64 0, .int .i64 0, .int .i64 0, .int .i64 0] 31) = W at *
  obtain ⟨_, x0, x1, x2, x3, x4, _⟩ := KB.tail.head.fiveL
  go_wp2_with fail
  clear x0 x1 x2 x3 x4
  go_loopw [9] (fun v9 wr => ∃ i : Nat, i ≤ q ∧ v9 = .int .i64 i ∧ Hid (∀ j, j < i → linkF1 S j = none) ∧ BK w [(w.heap.size + 1, [.int .i64 0, .int .i64 0, .int .i64 0, .int .i64 0]), (w.heap.size, [.slice A n k, .slice B m d, .slice C q e, .map (some b1), .map (some b2)])] wr) (fun v _ => q - (intOf v).toNat)
  case atStart => exact ⟨0, by omega, rfl, Lib.hid (fun j h => absurd h (by omega)), KB⟩
  case round =>
    clear KB
    obtain ⟨i, hi, rfl, HM, KB⟩ := hrel
    by_cases h4 : i < q
    · obtain ⟨x, hxx⟩ : ∃ x, S.links[i]? = some x := ⟨_, List.getElem?_eq_getElem (by rw [LN.out]; exact h4)⟩
      obtain ⟨g, o, ea0, hg, ca⟩ := (HR.out.below KB.hb).cells (by omega)
      subst ea0
      have ra := row_at ca (show (S.links.map Lk.vals)[i]? = some (Lk.vals x) by rw [List.getElem?_map, hxx]; rfl)
      obtain ⟨zt, zn⟩ := XN.out i x hxx
      have LM := lk_mean hxx
      clear ca hxx
      obtain ⟨tg, nm⟩ := x
      have x0 : wr.cell? ⟨g, o + i * 2, none⟩ = some (.string tg) := ra 0 _ rfl
      have x1 : wr.cell? ⟨g, o + i * 2 + 1, none⟩ = some (.string nm) := ra 1 _ rfl
      clear ra
      simp only at *
      go_upto_region 4 with (fail)
      have KC := KB.lit [.string tg, .string nm] 43
      generalize wr.alloc (.cells #[.string tg, .string nm] 43) = V at *
      generalize wr.heap.size = rb at *
      clear x0 x1 KB hg
      obtain ⟨_, y0, y1, _⟩ := KC.head.two
      have KB := KC.tail
      clear KC
      obtain ⟨_, s0, s1, s2, s3, s4, _⟩ := KB.tail.head.fiveL
      have NV := NM.out V KB.hb
      have lk := look_br0 50 Tryz.underlying50 NV nm zn
      clear NV
      rcases LM with ⟨z, e1, e2⟩ | ⟨j, e1, e2, e3, e4⟩
      · rw [e1] at lk
        simp only [Option.getD] at lk
        have EQ := Lib.hid (HIT.out i ⟨10, 3, i, 0⟩ h4 e2 HM.out)
        clear e1 e2 HM
        go_upto_region 5 with (fail)
        have KZ := (KB.put (by omega) (by simp) [.int .i64 10, .int .i64 3, .int .i64 i, .int .i64 0] rfl)
        obtain ⟨_, q0, q1, q2, q3, f0, f1, f2, f3⟩ := (KB).head.four
        obtain ⟨_, r0, r1, r2, r3, _⟩ := KZ.head.four
        have HB := KZ.hb
        simp only [setAll] at r0 r1 r2 r3 HB
        clear KZ
        go_wp2
        exact bodyPost_ret (v := .agg #[.int .i64 10, .int .i64 3, .int .i64 i, .int .i64 0]) (by simp [results, Tryz.results34, go_sem, r0, r1, r2, r3]) rfl ⟨by rw [EQ.out]; rfl, HB⟩
      · rw [e1] at lk
        simp only [Option.getD] at lk
        by_cases h5 : j = i
        · subst h5
          have R2 : linkF1 S j = none := e4 rfl
          have H2 := Lib.hid (show ∀ j9, j9 < j + 1 → linkF1 S j9 = none from upto_succ HM.out R2)
          clear HM R2
          clear e1 e2 e3 e4
          go_wp2
          go_roundw
          case rel => exact ⟨j + 1, by omega, int_eqS (by omega), H2, KB⟩
          case measure => simp only [intOf]; omega
        · have EQ := Lib.hid (HIT.out i ⟨10, 3, i, 0⟩ h4 (e3 h5) HM.out)
          have d5 : ((j : Int) == (i : Int)) = false := by simp; omega
          have h6 : ¬ (j : Int) = (i : Int) := by omega
          clear e1 e2 e3 e4 HM
          go_upto_region 5 with (fail)
          have KZ := (KB.put (by omega) (by simp) [.int .i64 10, .int .i64 3, .int .i64 i, .int .i64 0] rfl)
          obtain ⟨_, q0, q1, q2, q3, f0, f1, f2, f3⟩ := (KB).head.four
          obtain ⟨_, r0, r1, r2, r3, _⟩ := KZ.head.four
          have HB := KZ.hb
          simp only [setAll] at r0 r1 r2 r3 HB
          clear KZ
          go_wp2
          exact bodyPost_ret (v := .agg #[.int .i64 10, .int .i64 3, .int .i64 i, .int .i64 0]) (by simp [results, Tryz.results34, go_sem, r0, r1, r2, r3]) rfl ⟨by rw [EQ.out]; rfl, HB⟩
    · obtain rfl : i = q := by omega
      have EQ := Lib.hid (NO.out HM.out)
      have KZ := (KB.put (by omega) (by simp) [.int .i64 0, .int .i64 0, .int .i64 0, .int .i64 0] rfl)
      obtain ⟨_, q0, q1, q2, q3, f0, f1, f2, f3⟩ := (KB).head.four
      obtain ⟨_, r0, r1, r2, r3, _⟩ := KZ.head.four
      have HB := KZ.hb
      simp only [setAll] at r0 r1 r2 r3 HB
      clear KZ
      go_wp2
      exact bodyPost_ret (v := .agg #[.int .i64 0, .int .i64 0, .int .i64 0, .int .i64 0]) (by simp [results, Tryz.results34, go_sem, r0, r1, r2, r3]) rfl ⟨by rw [EQ.out]; rfl, HB⟩
theorem inTargetsE (S : Sr) (a b c : Hd) (ze : List Ze) (b1 n1 b2 n2 : Nat) (f : ByteArray → Option (Nat × Hd)) (w : World) (hv : LkV w S a b c ze b1 n1 b2 n2 f) (hx : S.in64) : Calls Tryz.prog 35 #[.agg #[.slice a.a a.n a.c, .slice b.a b.n b.c, .slice c.a c.n c.c, .map (some b1), .map (some b2)]] w (RetFw w (fsR S.links.length (linkF2 S))) := by
  have HR := Lib.hid hv.src.links
  have LN := Lib.hid (show S.links.length = c.n by have := hv.src.links.len; simpa using this)
  have mx : c.n ≤ 9223372036854775807 := Nat.le_trans hv.src.links.cap hv.src.links.max
  have NO := Lib.hid (fun (h : ∀ j, j < c.n → linkF2 S j = none) => fs_none (n := S.links.length) (F := linkF2 S) (fun j hj => h j (by rw [← LN.out]; exact hj)))
  have HIT := Lib.hid (fun i v (hi : i < c.n) (h : linkF2 S i = some v) (m : ∀ j, j < i → linkF2 S j = none) => fsR_hit (n := S.links.length) (by rw [LN.out]; exact hi) h m)
  have NM := Lib.hid (fun W (h : Below w.heap.size w W) => SM.below hv.nm (by first | exact h | exact h))
  have XN := Lib.hid (fun (i : Nat) (x : Lk) (h : S.links[i]? = some x) => hx.2.2 x (List.mem_of_getElem? h))
  clear hv hx
  obtain ⟨A, n, k⟩ := a
  obtain ⟨B, m, d⟩ := b
  obtain ⟨C, q, e⟩ := c
  simp only at *
  go_enter Tryz.func35, Tryz.ntmps35
  go_upto_region 1 with (fail)
  have KB := ((BK.nil w).lit [.slice A n k, .slice B m d, .slice C q e, .map (some b1), .map (some b2)] 52).lit [.int .i64 0, .int .i64 0, .int .i64 0, .int .i64 0] 31
  simp only [World.size_alloc] at *
  generalize (w.alloc (.cells #[.slice A n k, .slice B m d, .slice C q e, .map (some b1), .map (some b2)] 52)).alloc (.cells #[.int .i64 0, .int .i64 0, .int .i64 0, .int .i64 0] 31) = W at *
  obtain ⟨_, x0, x1, x2, x3, x4, _⟩ := KB.tail.head.fiveL
  go_wp2_with fail
  clear x0 x1 x2 x3 x4
  go_loopw [9] (fun v9 wr => ∃ i : Nat, i ≤ q ∧ v9 = .int .i64 i ∧ Hid (∀ j, j < i → linkF2 S j = none) ∧ BK w [(w.heap.size + 1, [.int .i64 0, .int .i64 0, .int .i64 0, .int .i64 0]), (w.heap.size, [.slice A n k, .slice B m d, .slice C q e, .map (some b1), .map (some b2)])] wr) (fun v _ => q - (intOf v).toNat)
  case atStart => exact ⟨0, by omega, rfl, Lib.hid (fun j h => absurd h (by omega)), KB⟩
  case round =>
    clear KB
    obtain ⟨i, hi, rfl, HM, KB⟩ := hrel
    by_cases h4 : i < q
    · obtain ⟨x, hxx⟩ : ∃ x, S.links[i]? = some x := ⟨_, List.getElem?_eq_getElem (by rw [LN.out]; exact h4)⟩
      obtain ⟨g, o, ea0, hg, ca⟩ := (HR.out.below KB.hb).cells (by omega)
      subst ea0
      have ra := row_at ca (show (S.links.map Lk.vals)[i]? = some (Lk.vals x) by rw [List.getElem?_map, hxx]; rfl)
      obtain ⟨zt, zn⟩ := XN.out i x hxx
      have LF := linkF2_is hxx
      clear ca hxx
      obtain ⟨tg, nm⟩ := x
      have x0 : wr.cell? ⟨g, o + i * 2, none⟩ = some (.string tg) := ra 0 _ rfl
      have x1 : wr.cell? ⟨g, o + i * 2 + 1, none⟩ = some (.string nm) := ra 1 _ rfl
      clear ra
      simp only at *
      go_upto_region 4 with (fail)
      have KC := KB.lit [.string tg, .string nm] 43
      generalize wr.alloc (.cells #[.string tg, .string nm] 43) = V at *
      generalize wr.heap.size = rb at *
      clear x0 x1 KB hg
      obtain ⟨_, y0, y1, _⟩ := KC.head.two
      have KB := KC.tail
      clear KC
      obtain ⟨_, s0, s1, s2, s3, s4, _⟩ := KB.tail.head.fiveL
      have NV := NM.out V KB.hb
      have HC := Lib.hid (hasE tg zt V NV)
      clear NV
      cases hc : (nmA S tg).isSome with
      | true =>
        rw [hc] at HC LF
        go_upto_region 5 with (go_at_call 60; refine HC.out.mono ?_; clear HC; rintro e U2 ⟨rfl, hk⟩; replace KB := KB.below hk; clear hk y0 y1 s0 s1 s2 s3 s4)
        have R2 : linkF2 S i = none := by rw [LF]; rfl
        have H2 := Lib.hid (show ∀ j, j < i + 1 → linkF2 S j = none from upto_succ HM.out R2)
        clear HM R2
        clear LF hc
        go_roundw
        case rel => exact ⟨i + 1, by omega, int_eqS (by omega), H2, KB⟩
        case measure => simp only [intOf]; omega
      | false =>
        rw [hc] at HC LF
        have EQ := Lib.hid (HIT.out i ⟨8, 3, i, 0⟩ h4 LF HM.out)
        clear LF HM hc
        go_upto_region 5 with (go_at_call 60; refine HC.out.mono ?_; clear HC; rintro e U2 ⟨rfl, hk⟩; replace KB := KB.below hk; clear hk y0 y1 s0 s1 s2 s3 s4)
        have KZ := (KB.put (by omega) (by simp) [.int .i64 8, .int .i64 3, .int .i64 i, .int .i64 0] rfl)
        obtain ⟨_, q0, q1, q2, q3, f0, f1, f2, f3⟩ := (KB).head.four
        obtain ⟨_, r0, r1, r2, r3, _⟩ := KZ.head.four
        have HB := KZ.hb
        simp only [setAll] at r0 r1 r2 r3 HB
        clear KZ
        go_wp2
        exact bodyPost_ret (v := .agg #[.int .i64 8, .int .i64 3, .int .i64 i, .int .i64 0]) (by simp [results, Tryz.results35, go_sem, r0, r1, r2, r3]) rfl ⟨by rw [EQ.out]; rfl, HB⟩
    · obtain rfl : i = q := by omega
      have EQ := Lib.hid (NO.out HM.out)
      have KZ := (KB.put (by omega) (by simp) [.int .i64 0, .int .i64 0, .int .i64 0, .int .i64 0] rfl)
      obtain ⟨_, q0, q1, q2, q3, f0, f1, f2, f3⟩ := (KB).head.four
      obtain ⟨_, r0, r1, r2, r3, _⟩ := KZ.head.four
      have HB := KZ.hb
      simp only [setAll] at r0 r1 r2 r3 HB
      clear KZ
      go_wp2
      exact bodyPost_ret (v := .agg #[.int .i64 0, .int .i64 0, .int .i64 0, .int .i64 0]) (by simp [results, Tryz.results35, go_sem, r0, r1, r2, r3]) rfl ⟨by rw [EQ.out]; rfl, HB⟩
theorem inRingsE (S : Sr) (a b c : Hd) (ze : List Ze) (b1 n1 b2 n2 : Nat) (f : ByteArray → Option (Nat × Hd)) (w : World) (hv : LkV w S a b c ze b1 n1 b2 n2 f) (hx : S.in64) (small : S.zones.length + S.links.length ≤ 1000) : Calls Tryz.prog 36 #[.agg #[.slice a.a a.n a.c, .slice b.a b.n b.c, .slice c.a c.n c.c, .map (some b1), .map (some b2)]] w (RetFw w (fsR S.links.length (ringF S))) := by
  have HR := Lib.hid hv.src.links
  have LN := Lib.hid (show S.links.length = c.n by have := hv.src.links.len; simpa using this)
  have mx : c.n ≤ 9223372036854775807 := Nat.le_trans hv.src.links.cap hv.src.links.max
  have NO := Lib.hid (fun (h : ∀ j, j < c.n → ringF S j = none) => fs_none (n := S.links.length) (F := ringF S) (fun j hj => h j (by rw [← LN.out]; exact hj)))
  have HIT := Lib.hid (fun i v (hi : i < c.n) (h : ringF S i = some v) (m : ∀ j, j < i → ringF S j = none) => fsR_hit (n := S.links.length) (by rw [LN.out]; exact hi) h m)
  have NM := Lib.hid (fun W (h : Below w.heap.size w W) => SM.below hv.nm (by first | exact h | exact h))
  have XN := Lib.hid (fun (i : Nat) (x : Lk) (h : S.links[i]? = some x) => hx.2.2 x (List.mem_of_getElem? h))
  have ZC := Lib.hid (fun (nm : ByteArray) (hn : nm.size ≤ maxLen) W (h : Below w.heap.size w W) (hm : SM W b2 n2 (brF (nmA S))) => zoneOfE S c.a c.n c.c b2 n2 nm hn W (hv.src.links.below h) hx.2.2 (by omega) (by have := hv.src.links.len; simp at this; omega) hm)
  clear hv hx small
  obtain ⟨A, n, k⟩ := a
  obtain ⟨B, m, d⟩ := b
  obtain ⟨C, q, e⟩ := c
  simp only at *
  go_enter Tryz.func36, Tryz.ntmps36
  go_upto_region 1 with (fail)
  have KB := ((BK.nil w).lit [.slice A n k, .slice B m d, .slice C q e, .map (some b1), .map (some b2)] 52).lit [.int .i64 0, .int .i64 0, .int .i64 0, .int .i64 0] 31
  simp only [World.size_alloc] at *
  generalize (w.alloc (.cells #[.slice A n k, .slice B m d, .slice C q e, .map (some b1), .map (some b2)] 52)).alloc (.cells #[.int .i64 0, .int .i64 0, .int .i64 0, .int .i64 0] 31) = W at *
  obtain ⟨_, x0, x1, x2, x3, x4, _⟩ := KB.tail.head.fiveL
  go_wp2_with fail
  clear x0 x1 x2 x3 x4
  go_loopw [11] (fun v11 wr => ∃ i : Nat, i ≤ q ∧ v11 = .int .i64 i ∧ Hid (∀ j, j < i → ringF S j = none) ∧ BK w [(w.heap.size + 1, [.int .i64 0, .int .i64 0, .int .i64 0, .int .i64 0]), (w.heap.size, [.slice A n k, .slice B m d, .slice C q e, .map (some b1), .map (some b2)])] wr) (fun v _ => q - (intOf v).toNat)
  case atStart => exact ⟨0, by omega, rfl, Lib.hid (fun j h => absurd h (by omega)), KB⟩
  case round =>
    clear KB
    obtain ⟨i, hi, rfl, HM, KB⟩ := hrel
    by_cases h4 : i < q
    · obtain ⟨x, hxx⟩ : ∃ x, S.links[i]? = some x := ⟨_, List.getElem?_eq_getElem (by rw [LN.out]; exact h4)⟩
      obtain ⟨g, o, ea0, hg, ca⟩ := (HR.out.below KB.hb).cells (by omega)
      subst ea0
      have ra := row_at ca (show (S.links.map Lk.vals)[i]? = some (Lk.vals x) by rw [List.getElem?_map, hxx]; rfl)
      obtain ⟨zt, zn⟩ := XN.out i x hxx
      have LF := ringF_at hxx
      clear ca hxx
      obtain ⟨tg, nm⟩ := x
      have x0 : wr.cell? ⟨g, o + i * 2, none⟩ = some (.string tg) := ra 0 _ rfl
      have x1 : wr.cell? ⟨g, o + i * 2 + 1, none⟩ = some (.string nm) := ra 1 _ rfl
      clear ra
      simp only at *
      go_upto_region 4 with (fail)
      have KC := KB.lit [.string tg, .string nm] 43
      generalize wr.alloc (.cells #[.string tg, .string nm] 43) = V at *
      generalize wr.heap.size = rb at *
      clear x0 x1 KB hg
      obtain ⟨_, y0, y1, _⟩ := KC.head.two
      have KB := KC.tail
      clear KC
      obtain ⟨_, s0, s1, s2, s3, s4, _⟩ := KB.tail.head.fiveL
      have NV := NM.out V KB.hb
      have HC := Lib.hid (ZC.out tg zt V KB.hb NV)
      clear NV
      cases hc : resR S tg with
      | some z =>
        rw [hc] at HC LF
        go_upto_region 6 with (go_at_call 21; refine HC.out.mono ?_; clear HC; rintro e U2 ⟨rfl, hk⟩; replace KB := KB.below hk; clear hk y0 y1 s0 s1 s2 s3 s4)
        have R2 : ringF S i = none := by rw [LF]; rfl
        have H2 := Lib.hid (show ∀ j, j < i + 1 → ringF S j = none from upto_succ HM.out R2)
        clear HM R2
        clear LF hc
        go_roundw
        case rel => exact ⟨i + 1, by omega, int_eqS (by omega), H2, KB⟩
        case measure => simp only [intOf]; omega
      | none =>
        rw [hc] at HC LF
        have EQ := Lib.hid (HIT.out i ⟨16, 3, i, 0⟩ h4 LF HM.out)
        clear LF HM hc
        go_upto_region 6 with (go_at_call 21; refine HC.out.mono ?_; clear HC; rintro e U2 ⟨rfl, hk⟩; replace KB := KB.below hk; clear hk y0 y1 s0 s1 s2 s3 s4)
        have KZ := (KB.put (by omega) (by simp) [.int .i64 16, .int .i64 3, .int .i64 i, .int .i64 0] rfl)
        obtain ⟨_, q0, q1, q2, q3, f0, f1, f2, f3⟩ := (KB).head.four
        obtain ⟨_, r0, r1, r2, r3, _⟩ := KZ.head.four
        have HB := KZ.hb
        simp only [setAll] at r0 r1 r2 r3 HB
        clear KZ
        go_wp2
        exact bodyPost_ret (v := .agg #[.int .i64 16, .int .i64 3, .int .i64 i, .int .i64 0]) (by simp [results, Tryz.results36, go_sem, r0, r1, r2, r3]) rfl ⟨by rw [EQ.out]; rfl, HB⟩
    · obtain rfl : i = q := by omega
      have EQ := Lib.hid (NO.out HM.out)
      have KZ := (KB.put (by omega) (by simp) [.int .i64 0, .int .i64 0, .int .i64 0, .int .i64 0] rfl)
      obtain ⟨_, q0, q1, q2, q3, f0, f1, f2, f3⟩ := (KB).head.four
      obtain ⟨_, r0, r1, r2, r3, _⟩ := KZ.head.four
      have HB := KZ.hb
      simp only [setAll] at r0 r1 r2 r3 HB
      clear KZ
      go_wp2
      exact bodyPost_ret (v := .agg #[.int .i64 0, .int .i64 0, .int .i64 0, .int .i64 0]) (by simp [results, Tryz.results36, go_sem, r0, r1, r2, r3]) rfl ⟨by rw [EQ.out]; rfl, HB⟩
theorem fld_st (fi : Nat) (a : Option Addr) (n c : Nat) : ∀ w : World, (Instr.field 71 (.agg #[.int .i64 fi, .slice a n c]) 1).run Tryz.prog w = .ok (.slice a n c) w := fun _ => by kernel_rfl
def wiE (L : List Rl) (x : Er) : Bool := (setL L x.rules).all (fun r => ltD (x.off + r.save)) && ltD (x.off + x.save)
theorem st_rows {w : World} {b n : Nat} {L : List Rl} {f : ByteArray → Option (Nat × Hd)} (h : StM w b n L L.length f) (s : ByteArray) : RulV w (stH f s).a (stH f s).n (stH f s).c (setL L s) := by
  cases e : fiL L s with
  | some j => exact (st_found h e).2
  | none =>
    have h1 := h.fst s
    rw [List.take_length, e] at h1
    have hs : setL L s = [] := by
      unfold fiL at e
      rw [List.findIdx?_eq_none_iff] at e
      unfold setL
      rw [List.filter_eq_nil_iff]
      intro x hx
      have := e x hx
      simp at this ⊢
      exact this
    unfold stH
    cases hf : f s with
    | none => rw [hs]; exact Rs.nil 11 w
    | some p => rw [hf] at h1; cases h1
theorem withinM (S : Sr) (a b c : Hd) (ze : List Ze) (b1 n1 b2 n2 : Nat) (f : ByteArray → Option (Nat × Hd)) (w : World) (hv : LkV w S a b c ze b1 n1 b2 n2 f) (x : Er) (zx : x.rules.size ≤ maxLen) (o1 : -86400 < x.off) (o2 : x.off < 86400) (s1 : -43200 ≤ x.save) (s2 : x.save ≤ 43200) (hfit : fitL S.rules) : Calls Tryz.prog 92 #[.agg #[.slice a.a a.n a.c, .slice b.a b.n b.c, .slice c.a c.n c.c, .map (some b1), .map (some b2)], x.val] w (RetV w (.bool (wiE S.rules x))) := by
  have HR := Lib.hid (st_rows hv.st x.rules)
  have mx : (stH f x.rules).n ≤ 9223372036854775807 := Nat.le_trans HR.out.cap HR.out.max
  have LN := Lib.hid (show (setL S.rules x.rules).length = (stH f x.rules).n by have := HR.out.len; simpa using this)
  have LK := Lib.hid (fun W (h : Below w.heap.size w W) => look_st0 (StM.below hv.st (by first | exact h | exact h)) x.rules zx)
  have SB := Lib.hid (fun r (h : r ∈ setL S.rules x.rules) => (setL_fit hfit x.rules r h).2.2.2)
  have NO := Lib.hid (fun (h : ltD (x.off + x.save) = false) => (show wiE S.rules x = false by unfold wiE; rw [h, Bool.and_false]))
  have NI := Lib.hid (fun (i : Nat) (r : Rl) (h : (setL S.rules x.rules)[i]? = some r) (k : ltD (x.off + r.save) = false) => (show wiE S.rules x = false by unfold wiE; rw [all_no (ok := fun r : Rl => ltD (x.off + r.save)) h k, Bool.false_and]))
  have YE := Lib.hid (fun (h : ∀ j r, j < (setL S.rules x.rules).length → (setL S.rules x.rules)[j]? = some r → ltD (x.off + r.save) = true) => (show wiE S.rules x = ltD (x.off + x.save) by unfold wiE; rw [all_yes (ok := fun r : Rl => ltD (x.off + r.save)) h, Bool.true_and]))
  clear hv zx hfit
  generalize setL S.rules x.rules = l at *
  generalize stI f x.rules = fi at *
  generalize stH f x.rules = hh at *
  generalize wiE S.rules x = res at *
  obtain ⟨ha, hn, hc⟩ := hh
  obtain ⟨A, n, k⟩ := a
  obtain ⟨B, m, d⟩ := b
  obtain ⟨C, q, e⟩ := c
  obtain ⟨off, kind, sav, rs, fmt, til, yr, ⟨mo, ki, wd, da, ti, re⟩⟩ := x
  simp only at *
  show Calls Tryz.prog 92 #[.agg #[.slice A n k, .slice B m d, .slice C q e, .map (some b1), .map (some b2)], .agg #[.int .i64 off, .int .i64 kind, .int .i64 sav, .string rs, .string fmt, .bool til, .int .i64 yr, .int .i64 mo, .int .i64 ki, .int .i64 wd, .int .i64 da, .int .i64 ti, .int .i64 re]] w (RetV w (.bool res))
  go_enter Tryz.func92, Tryz.ntmps92
  go_upto_region 1 with (fail)
  have KB := ((BK.nil w).lit [.slice A n k, .slice B m d, .slice C q e, .map (some b1), .map (some b2)] 52).lit [.int .i64 off, .int .i64 kind, .int .i64 sav, .string rs, .string fmt, .bool til, .int .i64 yr, .int .i64 mo, .int .i64 ki, .int .i64 wd, .int .i64 da, .int .i64 ti, .int .i64 re] 41
  simp only [World.size_alloc] at *
  generalize (w.alloc (.cells #[.slice A n k, .slice B m d, .slice C q e, .map (some b1), .map (some b2)] 52)).alloc (.cells #[.int .i64 off, .int .i64 kind, .int .i64 sav, .string rs, .string fmt, .bool til, .int .i64 yr, .int .i64 mo, .int .i64 ki, .int .i64 wd, .int .i64 da, .int .i64 ti, .int .i64 re] 41) = W at *
  obtain ⟨_, x0, x1, x2, x3, x4, _⟩ := KB.tail.head.fiveL
  obtain ⟨y0, y1, y2, y3, _⟩ := KB.head.thirteenC
  have lk := LK.out W KB.hb
  have fl := fld_st fi ha hn hc
  clear LK
  go_wp2_with fail
  clear x0 x1 x2 x3 x4 y0 y1 y2 y3 lk fl
  go_loopw [14] (fun v14 wr => ∃ i : Nat, i ≤ hn ∧ v14 = .int .i64 i ∧ Hid (∀ j r, j < i → l[j]? = some r → ltD (off + r.save) = true) ∧ BK w [(w.heap.size + 1, [.int .i64 off, .int .i64 kind, .int .i64 sav, .string rs, .string fmt, .bool til, .int .i64 yr, .int .i64 mo, .int .i64 ki, .int .i64 wd, .int .i64 da, .int .i64 ti, .int .i64 re]), (w.heap.size, [.slice A n k, .slice B m d, .slice C q e, .map (some b1), .map (some b2)])] wr) (fun v _ => hn - (intOf v).toNat)
  case atStart => exact ⟨0, by omega, rfl, Lib.hid (fun j r h => absurd h (by omega)), KB⟩
  case round =>
    clear KB
    obtain ⟨i, hi, rfl, HM, KB⟩ := hrel
    by_cases h4 : i < hn
    · obtain ⟨x, hxx⟩ : ∃ x, l[i]? = some x := ⟨_, List.getElem?_eq_getElem (by rw [LN.out]; exact h4)⟩
      obtain ⟨g, o, ea0, hg, ca⟩ := (HR.out.below KB.hb).cells (by omega)
      subst ea0
      have ra := row_at ca (show (l.map Rl.vals)[i]? = some (Rl.vals x) by rw [List.getElem?_map, hxx]; rfl)
      obtain ⟨t1, t2⟩ := SB.out x (List.mem_of_getElem? hxx)
      have BAD := Lib.hid (fun k => NI.out i x hxx k)
      have GOOD := Lib.hid (fun (k : ltD (off + x.save) = true) => (show ∀ j r, j < i + 1 → l[j]? = some r → ltD (off + r.save) = true from fun j r hj hr => by
        by_cases c9 : j = i
        · subst c9
          rw [hxx] at hr
          obtain rfl := Option.some.inj hr
          exact k
        · exact HM.out j r (by omega) hr))
      clear ca hxx
      obtain ⟨nm, fr, last, ⟨rmo, rki, rwd, rda, rti, rre⟩, save, le⟩ := x
      have x0 : wr.cell? ⟨g, o + i * 11, none⟩ = some (.string nm) := ra 0 _ rfl
      have x1 : wr.cell? ⟨g, o + i * 11 + 1, none⟩ = some (.int .i64 fr) := ra 1 _ rfl
      have x2 : wr.cell? ⟨g, o + i * 11 + 2, none⟩ = some (.int .i64 last) := ra 2 _ rfl
      have x3 : wr.cell? ⟨g, o + i * 11 + 3, none⟩ = some (.int .i64 rmo) := ra 3 _ rfl
      have x4 : wr.cell? ⟨g, o + i * 11 + 4, none⟩ = some (.int .i64 rki) := ra 4 _ rfl
      have x5 : wr.cell? ⟨g, o + i * 11 + 5, none⟩ = some (.int .i64 rwd) := ra 5 _ rfl
      have x6 : wr.cell? ⟨g, o + i * 11 + 6, none⟩ = some (.int .i64 rda) := ra 6 _ rfl
      have x7 : wr.cell? ⟨g, o + i * 11 + 7, none⟩ = some (.int .i64 rti) := ra 7 _ rfl
      have x8 : wr.cell? ⟨g, o + i * 11 + 8, none⟩ = some (.int .i64 rre) := ra 8 _ rfl
      have x9 : wr.cell? ⟨g, o + i * 11 + 9, none⟩ = some (.int .i64 save) := ra 9 _ rfl
      have x10 : wr.cell? ⟨g, o + i * 11 + 10, none⟩ = some (.string le) := ra 10 _ rfl
      clear ra
      simp only at *
      go_upto_region 4 with (fail)
      have KC := KB.lit [.string nm, .int .i64 fr, .int .i64 last, .int .i64 rmo, .int .i64 rki, .int .i64 rwd, .int .i64 rda, .int .i64 rti, .int .i64 rre, .int .i64 save, .string le] 36
      generalize wr.alloc (.cells #[.string nm, .int .i64 fr, .int .i64 last, .int .i64 rmo, .int .i64 rki, .int .i64 rwd, .int .i64 rda, .int .i64 rti, .int .i64 rre, .int .i64 save, .string le] 36) = V at *
      generalize wr.heap.size = rb at *
      clear x0 x1 x2 x3 x4 x5 x6 x7 x8 x9 x10 KB hg
      obtain ⟨y0, y1, y2, y3, y4, y5, y6, y7, y8, y9, y10⟩ := KC.head.elevenC
      have KB := KC.tail
      clear KC y0 y1 y2 y3 y4 y5 y6 y7 y8 y10
      have z0 := KB.head.cs.1
      have LS := Lib.hid (fun W => lessE (off + save) W)
      cases hd : ltD (off + save) with
      | false =>
        rw [hd] at LS
        have EQ := Lib.hid (BAD.out hd)
        clear BAD GOOD HM hd
        go_wp2_with (go_at_call 118; refine (LS.out _).mono ?_; clear LS; rintro e V2 ⟨rfl, hk⟩; replace KB := KB.below hk; clear hk)
        go_ret
        exact ⟨by rw [EQ.out]; rfl, KB.hb⟩
      | true =>
        rw [hd] at LS
        have H2 := Lib.hid (GOOD.out hd)
        clear BAD GOOD HM hd
        go_wp2_with (go_at_call 118; refine (LS.out _).mono ?_; clear LS; rintro e V2 ⟨rfl, hk⟩; replace KB := KB.below hk; clear hk)
        go_roundw
        case rel => exact ⟨i + 1, by omega, int_eqS (by omega), H2, KB⟩
        case measure => simp only [intOf]; omega
    · obtain rfl : i = hn := by omega
      have EQ := Lib.hid (YE.out (fun j r hj hr => HM.out j r (by rw [← LN.out]; exact hj) hr))
      clear HM
      have z0 := KB.head.cs.1
      have z2 := KB.head.cs.2.2.2.2.1
      have LS := Lib.hid (fun W => lessE (off + sav) W)
      go_wp2_with (go_at_call 118; refine (LS.out _).mono ?_; clear LS; rintro e V2 ⟨rfl, hk⟩; replace KB := KB.below hk; clear hk)
      go_ret
      exact ⟨by rw [EQ.out]; rfl, KB.hb⟩
end Go.Proofs.YtmhpnmlgfdomkaaGreatDoor
