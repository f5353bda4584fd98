import Derived.Test.YtmhpnmlgfdomkaaGreatDoorZTdef
import Derived.Test.YtmhpnmlgfdomkaaGreatDoorZMem
import Derived.Laws.AppendOwnNone
import Derived.Test.YtmhpnmlgfdomkaaGreatDoorZGta
import Derived.Test.YtmhpnmlgfdomkaaGreatDoorZGeb
import Derived.Test.YtmhpnmlgfdomkaaGreatDoorZGj
import Derived.BigQuiet
import Derived.Deep.RegionHeld3
set_option maxRecDepth 100000
set_option maxHeartbeats 64000000
namespace Go.Proofs.YtmhpnmlgfdomkaaGreatDoor
open Go.RowKit
abbrev OwnR (w : World) (base : Nat) (v : Value) (l : List Rl) : Prop := w.ownsRow base 36 11 v l.length (l.flatMap Rl.vals)
theorem flatR_len (l : List Rl) : (l.flatMap Rl.vals).length = l.length * 11 := by
  induction l with
  | nil => rfl
  | cons t r ih => rw [List.flatMap_cons, List.length_append, ih, List.length_cons]; show 11 + r.length * 11 = _; omega
theorem flatR_at : ∀ {l : List Rl} {i : Nat} {t : Rl}, l[i]? = some t → ∀ j, j < 11 → (l.flatMap Rl.vals)[i * 11 + j]? = t.vals[j]?
  | [], i, t, h => by simp at h
  | a :: r, 0, t, h => fun j hj => by
    cases h
    rw [List.flatMap_cons, List.getElem?_append_left (by show 0 * 11 + j < 11; omega), Nat.zero_mul, Nat.zero_add]
  | a :: r, i + 1, t, h => fun j hj => by
    rw [List.flatMap_cons, List.getElem?_append_right (by show 11 ≤ (i + 1) * 11 + j; omega)]
    show (r.flatMap Rl.vals)[(i + 1) * 11 + j - 11]? = _
    rw [show (i + 1) * 11 + j - 11 = i * 11 + j by omega]
    exact flatR_at (l := r) (by simpa using h) j hj
theorem OwnR.nil (w : World) (base : Nat) : OwnR w base (.slice none 0 0) [] := World.ownsRow_nil _ _ _ _
theorem OwnR.low {w : World} {a b : Nat} {v : Value} {l : List Rl} (h : OwnR w b v l) (le : a ≤ b) : OwnR w a v l :=
  ⟨h.1, h.2.imp id fun ⟨g, cap, cur, e, hb, r⟩ => ⟨g, cap, cur, e, Nat.le_trans le hb, r⟩⟩
theorem OwnR.rulv {w : World} {base : Nat} {v : Value} {l : List Rl} (h : OwnR w base v l) : ∃ A c, v = .slice A l.length c ∧ RulV w A l.length c l := by
  have cs := fun g => World.ownsRow.cells (g := g) h
  have lt := World.ownsRow.lt h
  rcases h.2 with ⟨rfl, h0⟩ | ⟨g, cap, cur, rfl, hb, hg, hn, hm, hs, ht⟩
  · obtain rfl : l = [] := List.eq_nil_of_length_eq_zero h0
    exact ⟨none, 0, rfl, Rs.nil 11 w⟩
  · refine ⟨some ⟨g, 0, none⟩, cap, rfl, ⟨by simp, hn, hm, fun _ => ⟨g, 0, rfl, (lt g rfl).2, fun i hi j u hu => ?_⟩⟩⟩
    have hi' : i < l.length := by simpa using hi
    rw [List.getElem_map] at hu
    have hj : j < 11 := (List.getElem?_eq_some_iff.1 hu).1
    have := cs g rfl (i * 11 + j) u (by rw [flatR_at (List.getElem?_eq_getElem hi') j hj]; exact hu)
    rw [addr_add, Nat.zero_add] at this
    rw [Nat.zero_add]
    exact this
theorem OwnR.kept {w w' : World} {base : Nat} {v : Value} {l : List Rl} (h : OwnR w base v l) (k : Below w.heap.size w w') : OwnR w' base v l :=
  World.ownsRow.kept h (below_own k) (by cases q : v.ownBlock with | none => exact .inl rfl | some k => exact .inr (by intro c; cases c))
theorem info_partsR {T : TypeId} {z : Value} {s b : Nat} (h : (Tryz.prog.info? T).map (fun i => (i.zero, i.size, i.bytes)) = some (some z, s, b)) : ∃ i, Tryz.prog.info? T = some i ∧ i.zero = some z ∧ i.size = s ∧ i.bytes = b := by
  cases hi : Tryz.prog.info? T with
  | none => simp [hi] at h
  | some i => simp [hi] at h; exact ⟨i, rfl, h.1, h.2.1, h.2.2⟩
theorem rule_infoR : (Tryz.prog.info? 36).map (fun i => (i.zero, i.size, i.bytes)) = some (some (.agg #[.string ⟨#[]⟩, .int .i64 0, .int .i64 0, .int .i64 0, .int .i64 0, .int .i64 0, .int .i64 0, .int .i64 0, .int .i64 0, .int .i64 0, .string ⟨#[]⟩]), 11, 104) := by kernel_rfl
theorem rules_one_cell (l : List Rl) : ∀ u ∈ l.flatMap Rl.vals, u.oneCell' = true := fun u hu => by
  obtain ⟨t, _, h⟩ := List.mem_flatMap.1 hu
  simp only [Rl.vals, List.mem_cons, List.not_mem_nil, or_false] at h
  rcases h with rfl | rfl | rfl | rfl | rfl | rfl | rfl | rfl | rfl | rfl | rfl <;> rfl
theorem wpList_app11 (w : World) {ops : Array Oper} {rest : List Oper} {o : Oper} {a : Act} {Q : Exit → Act → World → Prop} (hgd : o.guard = none) (s x : Operand)
    (ho : o.op = .call { callee := .builtin .append, args := #[s, x], argTypes := #[22, 22] })
    (base : Nat) (v : Value) (l r : List Rl) (hs : a.eval s = v) (hown : OwnR w base v l) (ad : Addr) (m c : Nat) (hx : a.eval x = .slice (some ad) m c) (hm : r.length = m)
    (hnews : ∀ j u, (r.flatMap Rl.vals)[j]? = some u → w.cell? (ad.add j) = some u) (hle : l.length + m ≤ 1000) (hbase : base ≤ w.heap.size)
    (h : ∀ v' w', OwnR w' base v' (l ++ r) → w.grownBy w' v.ownBlock → wpList Tryz.prog ops Q rest (a.put o.dst v') w') : wpList Tryz.prog ops Q (o :: rest) a w := by
  obtain ⟨i, hi, hz, hs1, hb⟩ := info_partsR rule_infoR
  subst hm
  refine wpList_append_own w hgd s x 22 ho base 36 i _ 11 104 Tryz.underlying22 hi hz hs1 hb rfl (by decide) v l.length (l.flatMap Rl.vals) hs hown ad r.length c (r.flatMap Rl.vals) hx (flatR_len r) hnews (rules_one_cell r) (by unfold maxLen; omega) (by omega) hbase fun v' w' h1 h2 _ => ?_
  refine h v' w' ?_ h2
  rw [← List.flatMap_append, ← List.length_append] at h1
  exact h1
def RetOwn (w : World) (l : List Rl) (e : Ending) (w' : World) : Prop := ∃ v, e = .returned v ∧ OwnR w' w.heap.size v l ∧ Below w.heap.size w w'
theorem setL_end {L : List Rl} {nm : ByteArray} {k n : Nat} (h : L.length = n) (hk : ¬ k < n) : setL (L.take k) nm = setL L nm := by rw [List.take_of_length_le (by omega)]
theorem setDR (L : List Rl) (nm : ByteArray) (A B C : Option Addr) (n c m d q e : Nat) (w : World) (hm : RulV w A n c L) (small : n ≤ 900) : Calls Tryz.prog 17 #[.agg #[.slice A n c, .slice B m d, .slice C q e], .string nm] w (RetOwn w (setL L nm)) := by
  have LN := Lib.hid (show L.length = n by have := hm.len; simpa using this)
  have HA := Lib.hid hm
  clear hm
  go_enter Tryz.func17, Tryz.ntmps17
  go_upto_region 1 with (fail)
  have KB := blk_lit w 26 [.slice A n c, .slice B m d, .slice C q e]
  have hb0 := below_box w (.cells #[.slice A n c, .slice B m d, .slice C q e] 26)
  have ws : w.heap.size < (w.alloc (.cells #[.slice A n c, .slice B m d, .slice C q e] 26)).heap.size := by simp
  generalize w.alloc (.cells #[.slice A n c, .slice B m d, .slice C q e] 26) = W0 at *
  obtain ⟨_, x0, x1, x2, _⟩ := KB.three
  go_wp2_with fail
  clear x0 x1 x2
  go_loopw [5, 6] (fun v5 v6 wr => ∃ (k : Nat) (v : Value) (l : List Rl), k ≤ n ∧ v5 = v ∧ v6 = .int .i64 k ∧ Hid (l = setL (L.take k) nm) ∧ l.length ≤ k ∧ OwnR wr W0.heap.size v l ∧ Below W0.heap.size W0 wr) (fun _ v _ => n - (intOf v).toNat)
  case atStart => exact ⟨0, _, [], by omega, rfl, rfl, Lib.hid rfl, Nat.le_refl _, OwnR.nil _ _, Below.refl _ _⟩
  case round =>
    obtain ⟨k, v, l, hk, hv, rfl, HR, hl, HO, hbel0⟩ := hrel
    replace hv := hv.symm
    subst hv
    have KR := blk_lo hbel0 ws KB
    have hbel := hb0.trans (hbel0.mono (Nat.le_of_lt ws))
    obtain ⟨_, x0, x1, x2, _⟩ := KR.three
    by_cases h4 : k < n
    · obtain ⟨x, hxx⟩ : ∃ x, L[k]? = some x := ⟨_, List.getElem?_eq_getElem (by rw [LN.out]; exact h4)⟩
      obtain ⟨g, o, ea0, hg, ca⟩ := (HA.out.below hbel).cells (by omega)
      subst ea0
      have ra := row_at ca (show (L.map Rl.vals)[k]? = some (Rl.vals x) by rw [List.getElem?_map, hxx]; rfl)
      have HN := setL_take (n := nm) hxx
      rw [← HR.out] at HN
      obtain ⟨X, hX⟩ : ∃ X, X = x := ⟨_, rfl⟩
      rw [← hX] at HN
      have HX := Lib.hid hX
      clear hX HR
      have HN := Lib.hid HN
      by_cases h6 : X.name = nm
      · have N2 := Lib.hid (show l ++ [X] = setL (L.take (k + 1)) nm from by have := HN.out; rw [if_pos h6] at this; exact this.symm)
        have q6 : (x.name.toList == nm.toList) = true := by rw [toList_beqT, ← HX.out, decide_eq_true h6]
        clear HN h6
        obtain ⟨nn, fr, last, ⟨mo, ki, wd, da, ti, re⟩, save, le⟩ := x
        have y0 : wr.cell? ⟨g, o + k * 11, none⟩ = some (.string nn) := ra 0 _ rfl
        have y1 : wr.cell? ⟨g, o + k * 11 + 1, none⟩ = some (.int .i64 fr) := ra 1 _ rfl
        have y2 : wr.cell? ⟨g, o + k * 11 + 2, none⟩ = some (.int .i64 last) := ra 2 _ rfl
        have y3 : wr.cell? ⟨g, o + k * 11 + 3, none⟩ = some (.int .i64 mo) := ra 3 _ rfl
        have y4 : wr.cell? ⟨g, o + k * 11 + 4, none⟩ = some (.int .i64 ki) := ra 4 _ rfl
        have y5 : wr.cell? ⟨g, o + k * 11 + 5, none⟩ = some (.int .i64 wd) := ra 5 _ rfl
        have y6 : wr.cell? ⟨g, o + k * 11 + 6, none⟩ = some (.int .i64 da) := ra 6 _ rfl
        have y7 : wr.cell? ⟨g, o + k * 11 + 7, none⟩ = some (.int .i64 ti) := ra 7 _ rfl
        have y8 : wr.cell? ⟨g, o + k * 11 + 8, none⟩ = some (.int .i64 re) := ra 8 _ rfl
        have y9 : wr.cell? ⟨g, o + k * 11 + 9, none⟩ = some (.int .i64 save) := ra 9 _ rfl
        have y10 : wr.cell? ⟨g, o + k * 11 + 10, none⟩ = some (.string le) := ra 10 _ rfl
        clear ca ra hxx
        have KN := blk_news (blk_lit wr 36 [.string nn, .int .i64 fr, .int .i64 last, .int .i64 mo, .int .i64 ki, .int .i64 wd, .int .i64 da, .int .i64 ti, .int .i64 re, .int .i64 save, .string le])
        have bx := below_box wr (.cells #[.string nn, .int .i64 fr, .int .i64 last, .int .i64 mo, .int .i64 ki, .int .i64 wd, .int .i64 da, .int .i64 ti, .int .i64 re, .int .i64 save, .string le] 36)
        have HO2 := OwnR.kept HO bx
        have hb2 := below_thru hbel0 bx
        have sz := hbel0.size
        have lt1 := fun r e => (World.ownsRow.lt HO r e).1
        go_upto_region 4 with (at_builtin; refine wpList_app11 _ rfl (.tmp 22) (.tmp 28) rfl W0.heap.size v l [X] rfl HO2 ⟨wr.heap.size, 0, none⟩ 1 1 rfl rfl (fun j u hu => KN j u (by rw [HX.out] at hu; exact hu)) (by show l.length + 1 ≤ 1000; omega) hb2.size ?_; intro v2 W2 O2 G2)
        have hb3 := hb2.grown G2 hb2.size lt1
        go_wp2
        go_roundw
        case rel => exact ⟨k + 1, v2, l ++ [X], by omega, rfl, int_eqS (by omega), N2, by rw [List.length_append, List.length_singleton]; omega, O2, hb3⟩
        case measure => simp only [intOf]; omega
      · have N2 := Lib.hid (show l = setL (L.take (k + 1)) nm from by have := HN.out; rw [if_neg h6] at this; exact this.symm)
        have q6 : (x.name.toList == nm.toList) = false := by rw [toList_beqT, ← HX.out, decide_eq_false h6]
        clear HN h6
        have y0 : wr.cell? ⟨g, o + k * 11, none⟩ = some (.string x.name) := ra 0 _ rfl
        clear ca ra hxx
        go_wp2
        go_roundw
        case rel => exact ⟨k + 1, v, l, by omega, rfl, int_eqS (by omega), N2, by omega, HO, hbel0⟩
        case measure => simp only [intOf]; omega
    · have Y := setL_end (nm := nm) LN.out h4
      rw [← HR.out] at Y
      replace Y := Lib.hid Y
      clear HR
      go_wp2
      go_ret
      exact ⟨_, rfl, by rw [← Y.out]; exact HO.low (Nat.le_of_lt ws), hbel⟩
theorem Blk.fourteen {W : World} {b : Nat} {v0 v1 v2 v3 v4 v5 v6 v7 v8 v9 v10 v11 v12 v13 : Value} (h : Blk W b [v0, v1, v2, v3, v4, v5, v6, v7, v8, v9, v10, v11, v12, v13]) : b < W.heap.size ∧ W.cell? ⟨b, 0, none⟩ = some v0 ∧ W.cell? ⟨b, 1, none⟩ = some v1 ∧ W.cell? ⟨b, 2, none⟩ = some v2 ∧ W.cell? ⟨b, 3, none⟩ = some v3 ∧ W.cell? ⟨b, 4, none⟩ = some v4 ∧ W.cell? ⟨b, 5, none⟩ = some v5 ∧ W.cell? ⟨b, 6, none⟩ = some v6 ∧ W.cell? ⟨b, 7, none⟩ = some v7 ∧ W.cell? ⟨b, 8, none⟩ = some v8 ∧ W.cell? ⟨b, 9, none⟩ = some v9 ∧ W.cell? ⟨b, 10, none⟩ = some v10 ∧ W.cell? ⟨b, 11, none⟩ = some v11 ∧ W.cell? ⟨b, 12, none⟩ = some v12 ∧ W.cell? ⟨b, 13, none⟩ = some v13 ∧ W.frozen? ⟨b, 0, none⟩ = false ∧ W.frozen? ⟨b, 1, none⟩ = false ∧ W.frozen? ⟨b, 2, none⟩ = false ∧ W.frozen? ⟨b, 3, none⟩ = false ∧ W.frozen? ⟨b, 4, none⟩ = false ∧ W.frozen? ⟨b, 5, none⟩ = false ∧ W.frozen? ⟨b, 6, none⟩ = false ∧ W.frozen? ⟨b, 7, none⟩ = false ∧ W.frozen? ⟨b, 8, none⟩ = false ∧ W.frozen? ⟨b, 9, none⟩ = false ∧ W.frozen? ⟨b, 10, none⟩ = false ∧ W.frozen? ⟨b, 11, none⟩ = false ∧ W.frozen? ⟨b, 12, none⟩ = false ∧ W.frozen? ⟨b, 13, none⟩ = false := ⟨h.lt, h.cs.1, h.cs.2.2.1, h.cs.2.2.2.2.1, h.cs.2.2.2.2.2.2.1, h.cs.2.2.2.2.2.2.2.2.1, h.cs.2.2.2.2.2.2.2.2.2.2.1, h.cs.2.2.2.2.2.2.2.2.2.2.2.2.1, h.cs.2.2.2.2.2.2.2.2.2.2.2.2.2.2.1, h.cs.2.2.2.2.2.2.2.2.2.2.2.2.2.2.2.2.1, h.cs.2.2.2.2.2.2.2.2.2.2.2.2.2.2.2.2.2.2.1, h.cs.2.2.2.2.2.2.2.2.2.2.2.2.2.2.2.2.2.2.2.2.1, h.cs.2.2.2.2.2.2.2.2.2.2.2.2.2.2.2.2.2.2.2.2.2.2.1, h.cs.2.2.2.2.2.2.2.2.2.2.2.2.2.2.2.2.2.2.2.2.2.2.2.2.1, h.cs.2.2.2.2.2.2.2.2.2.2.2.2.2.2.2.2.2.2.2.2.2.2.2.2.2.2.1, h.cs.2.1, h.cs.2.2.2.1, h.cs.2.2.2.2.2.1, h.cs.2.2.2.2.2.2.2.1, h.cs.2.2.2.2.2.2.2.2.2.1, h.cs.2.2.2.2.2.2.2.2.2.2.2.1, h.cs.2.2.2.2.2.2.2.2.2.2.2.2.2.1, h.cs.2.2.2.2.2.2.2.2.2.2.2.2.2.2.2.1, h.cs.2.2.2.2.2.2.2.2.2.2.2.2.2.2.2.2.2.1, h.cs.2.2.2.2.2.2.2.2.2.2.2.2.2.2.2.2.2.2.2.1, h.cs.2.2.2.2.2.2.2.2.2.2.2.2.2.2.2.2.2.2.2.2.2.1, h.cs.2.2.2.2.2.2.2.2.2.2.2.2.2.2.2.2.2.2.2.2.2.2.2.1, h.cs.2.2.2.2.2.2.2.2.2.2.2.2.2.2.2.2.2.2.2.2.2.2.2.2.2.1, h.cs.2.2.2.2.2.2.2.2.2.2.2.2.2.2.2.2.2.2.2.2.2.2.2.2.2.2.2.1⟩
theorem BK.put14 {w W : World} {L : List (Nat × List Value)} {b : Nat} {v0 v1 v2 v3 v4 v5 v6 v7 v8 v9 v10 v11 v12 v13 : Value} (h : BK w ((b, [v0, v1, v2, v3, v4, v5, v6, v7, v8, v9, v10, v11, v12, v13]) :: L) W) (u0 u1 u2 u3 u4 u5 u6 u7 u8 u9 u10 u11 u12 u13 : Value) (hg : w.heap.size ≤ b) (ne : ∀ y ∈ L, b ≠ y.1) : BK w ((b, [u0, u1, u2, u3, u4, u5, u6, u7, u8, u9, u10, u11, u12, u13]) :: L) ((((((((((((((W.setCell ⟨b, 0, none⟩ u0).setCell ⟨b, 1, none⟩ u1).setCell ⟨b, 2, none⟩ u2).setCell ⟨b, 3, none⟩ u3).setCell ⟨b, 4, none⟩ u4).setCell ⟨b, 5, none⟩ u5).setCell ⟨b, 6, none⟩ u6).setCell ⟨b, 7, none⟩ u7).setCell ⟨b, 8, none⟩ u8).setCell ⟨b, 9, none⟩ u9).setCell ⟨b, 10, none⟩ u10).setCell ⟨b, 11, none⟩ u11).setCell ⟨b, 12, none⟩ u12).setCell ⟨b, 13, none⟩ u13) := h.put hg ne [u0, u1, u2, u3, u4, u5, u6, u7, u8, u9, u10, u11, u12, u13] rfl
theorem BK.lit {w W : World} {L : List (Nat × List Value)} (h : BK w L W) (vs : List Value) (t : TypeId) : BK w ((W.heap.size, vs) :: L) (W.alloc (.cells vs.toArray t)) := (h.below (below_box _ _)).cons (blk_lit W t vs)
theorem loN_in (x : Sp) (y : Int) : -10000000000000 ≤ loN x y ∧ loN x y ≤ 10000000000000 := by
  unfold loN
  split
  · rename_i h
    have a := onDay_in h
    have b := h.2.2.2
    have c := h.1
    unfold Sp.ok at c
    omega
  · omega
structure ErF (x : Er) : Prop where
  o1 : -86400 < x.off
  o2 : x.off < 86400
  s1 : -43200 ≤ x.save
  s2 : x.save ≤ 43200
  k1 : 0 ≤ x.kind
  k2 : x.kind ≤ 2
  ks : x.kind ≠ 1 → x.save = 0
  fm : x.fmt.size ≤ 1000
def shortL (L : List Rl) : Prop := ∀ x ∈ L, x.letter.size ≤ 1000
theorem format_le {s : ByteArray} (h : formatB s = true) : s.size ≤ 1000 := by
  unfold formatB at h
  split at h
  · cases h
  · simp only [Bool.and_eq_true, decide_eq_true_eq] at h
    omega
theorem letters_le {s : ByteArray} (h : lettersB s = true) : s.size ≤ 1000 := by
  unfold lettersB at h
  simp only [Bool.and_eq_true, decide_eq_true_eq] at h
  omega
theorem era_fit {x : Er} (h : x.ok) : ErF x := ⟨h.1.1, h.1.2, h.2.1.1, h.2.1.2, h.2.2.2.1.1, h.2.2.2.1.2, h.2.2.2.2.1, format_le h.2.2.1⟩
theorem rules_fit {S : Sr} (h : S.ok) : fitL S.rules := fun x hx => by
  obtain ⟨h1, h2, h3, h4, _⟩ := h.2.2.2.1 x hx
  exact ⟨h1, h2, h3, h4⟩
theorem rules_short {S : Sr} (h : S.ok) : shortL S.rules := fun x hx => by
  obtain ⟨_, _, _, _, _, _, h7⟩ := h.2.2.2.1 x hx
  rcases h7 with h7 | h7
  · rw [h7]; exact Nat.zero_le _
  · exact letters_le h7
theorem ahead_in {L : List Rl} (h : fitL L) {x : Er} (f : ErF x) : -43200 ≤ aheadE L x ∧ aheadE L x ≤ 43200 := by
  unfold aheadE
  split
  · exact aheadSave_in (setL_fit h _) _
  · exact ⟨f.s1, f.s2⟩
theorem end_in {L : List Rl} (h : fitL L) {x : Er} (f : ErF x) : -20000000000000 ≤ endE L x ∧ endE L x ≤ 20000000000000 := by
  have a := loN_in x.sp x.year
  have b := ahead_in h f
  have c := f.o1
  have d := f.o2
  unfold endE
  split
  · omega
  · split <;> omega
theorem tb_open {o : Option Tn} {w : World} {e : Ending} {w' : World} (r : RetTB w o e w') : e = .returned (.tuple #[.agg #[.int .i64 (o.getD Tn.zero).at_, .int .i64 (o.getD Tn.zero).re, .int .i64 (o.getD Tn.zero).save, .string (o.getD Tn.zero).letter], .bool o.isSome]) ∧ Below w.heap.size w w' := r
theorem de_u (A B C : Option Addr) (n c m d q e : Nat) (off kind sav : Int) (rs fmt : ByteArray) (til : Bool) (yr mo ki wd da ti re : Int) (a : Int) (ob : Bool) (_l1 : -10000000000000 ≤ a) (_l2 : a ≤ 10000000000000) (_o1 : -86400 < off) (_o2 : off < 86400) (h : (re == 2) = true) (w : World) (LO : Hid (∀ W, Calls Tryz.prog 67 #[.agg #[.int .i64 mo, .int .i64 ki, .int .i64 wd, .int .i64 da, .int .i64 ti, .int .i64 re], .int .i64 yr] W (RetNumB W a ob)))  : Calls Tryz.prog 41 #[.agg #[.slice A n c, .slice B m d, .slice C q e], .agg #[.int .i64 off, .int .i64 kind, .int .i64 sav, .string rs, .string fmt, .bool til, .int .i64 yr, .int .i64 mo, .int .i64 ki, .int .i64 wd, .int .i64 da, .int .i64 ti, .int .i64 re]] w (RetV w (.int .i64 (a))) := by
  go_enter Tryz.func41, Tryz.ntmps41
  go_upto_region 1 with (fail)
  have KB := (BK.nil w).lit [.slice A n c, .slice B m d, .slice C q e] 26
  replace KB := KB.lit [.int .i64 off, .int .i64 kind, .int .i64 sav, .string rs, .string fmt, .bool til, .int .i64 yr, .int .i64 mo, .int .i64 ki, .int .i64 wd, .int .i64 da, .int .i64 ti, .int .i64 re] 41
  generalize (w.alloc (.cells #[.slice A n c, .slice B m d, .slice C q e] 26)).alloc (.cells #[.int .i64 off, .int .i64 kind, .int .i64 sav, .string rs, .string fmt, .bool til, .int .i64 yr, .int .i64 mo, .int .i64 ki, .int .i64 wd, .int .i64 da, .int .i64 ti, .int .i64 re] 41) = W at *
  simp only [World.size_alloc] at *
  obtain ⟨y0, y1, y2, y3, y4, y5, y6, y7, y8, y9, y10, y11, y12⟩ := (KB.head).thirteenC
  obtain ⟨_, x0, x1, x2, _⟩ := (KB.tail.head).three
  go_wp2_with (first | (go_at_call 67; refine (LO.out _).mono ?_; rintro e9 W9 ⟨rfl, hk⟩; replace KB := KB.below hk; clear hk; clear x0 x1 x2 y0 y1 y2 y3 y4 y5 y6 y7 y8 y9 y10 y11 y12; obtain ⟨y0, y1, y2, y3, y4, y5, y6, y7, y8, y9, y10, y11, y12⟩ := (KB.head).thirteenC; obtain ⟨_, x0, x1, x2, _⟩ := (KB.tail.head).three))
  go_ret
  exact ⟨rfl, KB.hb⟩
theorem de_s (A B C : Option Addr) (n c m d q e : Nat) (off kind sav : Int) (rs fmt : ByteArray) (til : Bool) (yr mo ki wd da ti re : Int) (a : Int) (ob : Bool) (_l1 : -10000000000000 ≤ a) (_l2 : a ≤ 10000000000000) (_o1 : -86400 < off) (_o2 : off < 86400) (h : (re == 2) = false) (h1 : (re == 1) = true) (w : World) (LO : Hid (∀ W, Calls Tryz.prog 67 #[.agg #[.int .i64 mo, .int .i64 ki, .int .i64 wd, .int .i64 da, .int .i64 ti, .int .i64 re], .int .i64 yr] W (RetNumB W a ob)))  : Calls Tryz.prog 41 #[.agg #[.slice A n c, .slice B m d, .slice C q e], .agg #[.int .i64 off, .int .i64 kind, .int .i64 sav, .string rs, .string fmt, .bool til, .int .i64 yr, .int .i64 mo, .int .i64 ki, .int .i64 wd, .int .i64 da, .int .i64 ti, .int .i64 re]] w (RetV w (.int .i64 (a - off))) := by
  go_enter Tryz.func41, Tryz.ntmps41
  go_upto_region 1 with (fail)
  have KB := (BK.nil w).lit [.slice A n c, .slice B m d, .slice C q e] 26
  replace KB := KB.lit [.int .i64 off, .int .i64 kind, .int .i64 sav, .string rs, .string fmt, .bool til, .int .i64 yr, .int .i64 mo, .int .i64 ki, .int .i64 wd, .int .i64 da, .int .i64 ti, .int .i64 re] 41
  generalize (w.alloc (.cells #[.slice A n c, .slice B m d, .slice C q e] 26)).alloc (.cells #[.int .i64 off, .int .i64 kind, .int .i64 sav, .string rs, .string fmt, .bool til, .int .i64 yr, .int .i64 mo, .int .i64 ki, .int .i64 wd, .int .i64 da, .int .i64 ti, .int .i64 re] 41) = W at *
  simp only [World.size_alloc] at *
  obtain ⟨y0, y1, y2, y3, y4, y5, y6, y7, y8, y9, y10, y11, y12⟩ := (KB.head).thirteenC
  obtain ⟨_, x0, x1, x2, _⟩ := (KB.tail.head).three
  go_wp2_with (first | (go_at_call 67; refine (LO.out _).mono ?_; rintro e9 W9 ⟨rfl, hk⟩; replace KB := KB.below hk; clear hk; clear x0 x1 x2 y0 y1 y2 y3 y4 y5 y6 y7 y8 y9 y10 y11 y12; obtain ⟨y0, y1, y2, y3, y4, y5, y6, y7, y8, y9, y10, y11, y12⟩ := (KB.head).thirteenC; obtain ⟨_, x0, x1, x2, _⟩ := (KB.tail.head).three))
  go_ret
  exact ⟨rfl, KB.hb⟩
theorem de_w (A B C : Option Addr) (n c m d q e : Nat) (off kind sav : Int) (rs fmt : ByteArray) (til : Bool) (yr mo ki wd da ti re : Int) (a : Int) (ob : Bool) (_l1 : -10000000000000 ≤ a) (_l2 : a ≤ 10000000000000) (_o1 : -86400 < off) (_o2 : off < 86400) (h : (re == 2) = false) (h1 : (re == 1) = false) (h2 : (kind == 2) = false) (s1 : -43200 ≤ sav) (s2 : sav ≤ 43200) (w : World) (LO : Hid (∀ W, Calls Tryz.prog 67 #[.agg #[.int .i64 mo, .int .i64 ki, .int .i64 wd, .int .i64 da, .int .i64 ti, .int .i64 re], .int .i64 yr] W (RetNumB W a ob)))  : Calls Tryz.prog 41 #[.agg #[.slice A n c, .slice B m d, .slice C q e], .agg #[.int .i64 off, .int .i64 kind, .int .i64 sav, .string rs, .string fmt, .bool til, .int .i64 yr, .int .i64 mo, .int .i64 ki, .int .i64 wd, .int .i64 da, .int .i64 ti, .int .i64 re]] w (RetV w (.int .i64 (a - off - sav))) := by
  go_enter Tryz.func41, Tryz.ntmps41
  go_upto_region 1 with (fail)
  have KB := (BK.nil w).lit [.slice A n c, .slice B m d, .slice C q e] 26
  replace KB := KB.lit [.int .i64 off, .int .i64 kind, .int .i64 sav, .string rs, .string fmt, .bool til, .int .i64 yr, .int .i64 mo, .int .i64 ki, .int .i64 wd, .int .i64 da, .int .i64 ti, .int .i64 re] 41
  generalize (w.alloc (.cells #[.slice A n c, .slice B m d, .slice C q e] 26)).alloc (.cells #[.int .i64 off, .int .i64 kind, .int .i64 sav, .string rs, .string fmt, .bool til, .int .i64 yr, .int .i64 mo, .int .i64 ki, .int .i64 wd, .int .i64 da, .int .i64 ti, .int .i64 re] 41) = W at *
  simp only [World.size_alloc] at *
  obtain ⟨y0, y1, y2, y3, y4, y5, y6, y7, y8, y9, y10, y11, y12⟩ := (KB.head).thirteenC
  obtain ⟨_, x0, x1, x2, _⟩ := (KB.tail.head).three
  go_wp2_with (first | (go_at_call 67; refine (LO.out _).mono ?_; rintro e9 W9 ⟨rfl, hk⟩; replace KB := KB.below hk; clear hk; clear x0 x1 x2 y0 y1 y2 y3 y4 y5 y6 y7 y8 y9 y10 y11 y12; obtain ⟨y0, y1, y2, y3, y4, y5, y6, y7, y8, y9, y10, y11, y12⟩ := (KB.head).thirteenC; obtain ⟨_, x0, x1, x2, _⟩ := (KB.tail.head).three))
  go_ret
  exact ⟨rfl, KB.hb⟩
theorem de_r (A B C : Option Addr) (n c m d q e : Nat) (off kind sav : Int) (rs fmt : ByteArray) (til : Bool) (yr mo ki wd da ti re : Int) (a : Int) (ob : Bool) (_l1 : -10000000000000 ≤ a) (_l2 : a ≤ 10000000000000) (_o1 : -86400 < off) (_o2 : off < 86400) (h : (re == 2) = false) (h1 : (re == 1) = false) (h2 : (kind == 2) = true) (l : List Rl) (ta tr ts : Int) (tl : ByteArray) (tb : Bool) (s1 : -43200 ≤ ts) (s2 : ts ≤ 43200) (w : World) (LO : Hid (∀ W, Calls Tryz.prog 67 #[.agg #[.int .i64 mo, .int .i64 ki, .int .i64 wd, .int .i64 da, .int .i64 ti, .int .i64 re], .int .i64 yr] W (RetNumB W a ob))) (SE : Hid (∀ W, Below w.heap.size w W → Calls Tryz.prog 17 #[.agg #[.slice A n c, .slice B m d, .slice C q e], .string rs] W (RetOwn W l))) (AH : Hid (∀ A' c' W, RulV W A' l.length c' l → Calls Tryz.prog 68 #[.slice A' l.length c', .int .i64 a] W (fun e w' => e = .returned (.tuple #[.agg #[.int .i64 ta, .int .i64 tr, .int .i64 ts, .string tl], .bool tb]) ∧ Below W.heap.size W w'))) : Calls Tryz.prog 41 #[.agg #[.slice A n c, .slice B m d, .slice C q e], .agg #[.int .i64 off, .int .i64 kind, .int .i64 sav, .string rs, .string fmt, .bool til, .int .i64 yr, .int .i64 mo, .int .i64 ki, .int .i64 wd, .int .i64 da, .int .i64 ti, .int .i64 re]] w (RetV w (.int .i64 (a - off - ts))) := by
  go_enter Tryz.func41, Tryz.ntmps41
  go_upto_region 1 with (fail)
  have KB := (BK.nil w).lit [.slice A n c, .slice B m d, .slice C q e] 26
  replace KB := KB.lit [.int .i64 off, .int .i64 kind, .int .i64 sav, .string rs, .string fmt, .bool til, .int .i64 yr, .int .i64 mo, .int .i64 ki, .int .i64 wd, .int .i64 da, .int .i64 ti, .int .i64 re] 41
  generalize (w.alloc (.cells #[.slice A n c, .slice B m d, .slice C q e] 26)).alloc (.cells #[.int .i64 off, .int .i64 kind, .int .i64 sav, .string rs, .string fmt, .bool til, .int .i64 yr, .int .i64 mo, .int .i64 ki, .int .i64 wd, .int .i64 da, .int .i64 ti, .int .i64 re] 41) = W at *
  simp only [World.size_alloc] at *
  obtain ⟨y0, y1, y2, y3, y4, y5, y6, y7, y8, y9, y10, y11, y12⟩ := (KB.head).thirteenC
  obtain ⟨_, x0, x1, x2, _⟩ := (KB.tail.head).three
  go_upto_region 9 with (first | (go_at_call 67; refine (LO.out _).mono ?_; rintro e9 W9 ⟨rfl, hk⟩; replace KB := KB.below hk; clear hk; clear x0 x1 x2 y0 y1 y2 y3 y4 y5 y6 y7 y8 y9 y10 y11 y12; obtain ⟨y0, y1, y2, y3, y4, y5, y6, y7, y8, y9, y10, y11, y12⟩ := (KB.head).thirteenC; obtain ⟨_, x0, x1, x2, _⟩ := (KB.tail.head).three) | (go_at_call 17; refine (SE.out _ KB.hb).mono ?_; rintro e9 W9 ⟨v9, rfl, hw9, hk⟩; replace KB := KB.below hk; clear hk; obtain ⟨A9, c9, rfl, hv9⟩ := hw9.rulv; clear hw9; clear x0 x1 x2 y0 y1 y2 y3 y4 y5 y6 y7 y8 y9 y10 y11 y12; obtain ⟨y0, y1, y2, y3, y4, y5, y6, y7, y8, y9, y10, y11, y12⟩ := (KB.head).thirteenC; obtain ⟨_, x0, x1, x2, _⟩ := (KB.tail.head).three) | (go_at_call 68; refine (AH.out _ _ _ hv9).mono ?_; clear hv9; rintro e9 W10 ⟨rfl, hk⟩; replace KB := KB.below hk; clear hk; clear x0 x1 x2 y0 y1 y2 y3 y4 y5 y6 y7 y8 y9 y10 y11 y12; obtain ⟨y0, y1, y2, y3, y4, y5, y6, y7, y8, y9, y10, y11, y12⟩ := (KB.head).thirteenC; obtain ⟨_, x0, x1, x2, _⟩ := (KB.tail.head).three))
  replace KB := KB.lit [.int .i64 ta, .int .i64 tr, .int .i64 ts, .string tl] 95
  generalize W10.alloc (.cells #[.int .i64 ta, .int .i64 tr, .int .i64 ts, .string tl] 95) = W11 at *
  clear x0 x1 x2 y0 y1 y2 y3 y4 y5 y6 y7 y8 y9 y10 y11 y12
  obtain ⟨y0, y1, y2, y3, y4, y5, y6, y7, y8, y9, y10, y11, y12⟩ := (KB.tail.head).thirteenC
  obtain ⟨_, z0, z1, z2, z3, _⟩ := (KB.head).four
  generalize W10.heap.size = q at *
  go_wp2
  go_ret
  exact ⟨rfl, KB.hb⟩
theorem endDR {L : List Rl} (hL : fitL L) (x : Er) (f : ErF x) (A B C : Option Addr) (n c m d q e : Nat) (w : World) (hm : RulV w A n c L) (small : n ≤ 900) : Calls Tryz.prog 41 #[.agg #[.slice A n c, .slice B m d, .slice C q e], x.val] w (RetV w (.int .i64 (endE L x))) := by
  have LO := fun W => localR x.sp x.year W
  have lb := loN_in x.sp x.year
  have ab := ahead_in hL f
  have f1 := f.o1
  have f2 := f.o2
  have f3 := f.s1
  have f4 := f.s2
  unfold endE
  unfold aheadE at *
  have SE := fun W (h : Below w.heap.size w W) => setDR L x.rules A B C n c m d q e W (hm.below h) small
  have AH := fun A' c' W (h : RulV W A' (setL L x.rules).length c' (setL L x.rules)) => (aheadDR (setL_fit hL x.rules) (loN x.sp x.year) A' _ c' W h).mono fun _ _ r => tb_open r
  rw [aheadSave_is] at *
  obtain ⟨off, kind, sav, rs, fmt, til, yr, ⟨mo, ki, wd, da, ti, re⟩⟩ := x
  generalize loN _ _ = a at *
  generalize decide (onOk _ _) = ob at *
  generalize setL L _ = l at *
  generalize (aheadO l a).isSome = tb at *
  generalize (aheadO l a).getD Tn.zero = t at *
  obtain ⟨ta, tr, ts, tl⟩ := t
  by_cases h : re = 2
  · rw [if_pos h]
    exact de_u A B C n c m d q e off kind sav rs fmt til yr mo ki wd da ti re a ob lb.1 lb.2 f1 f2 (by simp [h]) w (Lib.hid LO)
  · rw [if_neg h]
    by_cases h1 : re = 1
    · rw [if_pos h1]
      exact de_s A B C n c m d q e off kind sav rs fmt til yr mo ki wd da ti re a ob lb.1 lb.2 f1 f2 (by simp [h]) (by simp [h1]) w (Lib.hid LO)
    · rw [if_neg h1]
      by_cases h2 : kind = 2
      · rw [if_pos h2] at ab ⊢
        exact de_r A B C n c m d q e off kind sav rs fmt til yr mo ki wd da ti re a ob lb.1 lb.2 f1 f2 (by simp [h]) (by simp [h1]) (by simp [h2]) l ta tr ts tl tb ab.1 ab.2 w (Lib.hid LO) (Lib.hid SE) (Lib.hid AH)
      · rw [if_neg h2]
        exact de_w A B C n c m d q e off kind sav rs fmt til yr mo ki wd da ti re a ob lb.1 lb.2 f1 f2 (by simp [h]) (by simp [h1]) (by simp [h2]) f3 f4 w (Lib.hid LO)
theorem era_rows {w : World} {Z : Option Addr} {u cu : Nat} {es : List Er} (h : Rs 13 w Z u cu (es.map Er.vals)) {i : Nat} {x : Er} (hx : es[i]? = some x) : ∃ g o, Z = some ⟨g, o, none⟩ ∧ g < w.heap.size ∧ i < u ∧ ∀ (j : Nat) (v : Value), x.vals[j]? = some v → w.cell? ⟨g, o + i * 13 + j, none⟩ = some v := by
  have hl : es.length = u := by have := h.len; simpa using this
  have hi := (List.getElem?_eq_some_iff.1 hx).1
  obtain ⟨g, o, e, hg, ca⟩ := h.cells (by omega)
  exact ⟨g, o, e, hg, by omega, row_at ca (show (es.map Er.vals)[i]? = some (Er.vals x) by rw [List.getElem?_map, hx]; rfl)⟩
end Go.Proofs.YtmhpnmlgfdomkaaGreatDoor
