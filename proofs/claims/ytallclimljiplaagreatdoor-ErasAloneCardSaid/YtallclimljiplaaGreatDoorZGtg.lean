import Derived.Test.YtallclimljiplaaGreatDoorZGtd
import Derived.Test.YtallclimljiplaaGreatDoorZGhe
import Derived.Deep.AppendLies
import Derived.Deep.RegionLaw
import Derived.BigQuiet
import Derived.WalkKit
set_option maxRecDepth 100000
set_option maxHeartbeats 64000000
namespace Go.Proofs.YtallclimljiplaaGreatDoor
open Go.RowKit
theorem BK.grownB {w W W' : World} {L : List (Nat × List Value)} {row : Option Nat} {lo : Nat} (h : BK w L W) (G : W.grownBy W' row) (hr : ∀ r, row = some r → lo ≤ r) (hl : ∀ x ∈ L, x.1 < lo) (hw : w.heap.size ≤ lo) : BK w L W' :=
  ⟨fun x hx => blk_grown G (fun r e => by have h1 := hr r e; have h2 := hl x hx; omega) (h.al x hx), below_grown G (fun r e => Nat.le_trans hw (hr r e)) h.hb (Nat.le_refl _)⟩
theorem Blk.at0t {W : World} {b : Nat} {u v x : Value} (h : Blk W b [u, v, x]) (z : Value) : Blk (W.setCell ⟨b, 0, none⟩ z) b [z, v, x] := by
  obtain ⟨lt, a0, a1, a2, f0, f1, f2⟩ := h.three
  exact ⟨by simpa [World.setCell] using lt, World.cell?_setCell_same _ _ _ a0, by simpa using f0, by rw [World.cell?_setCell_other _ _ _ _ (by simp)]; exact a1, by simpa using f1, by rw [World.cell?_setCell_other _ _ _ _ (by simp)]; exact a2, by simpa using f2, trivial⟩
theorem setCell_grown (W : World) (q o : Nat) (v : Value) : W.grownBy (W.setCell ⟨q, o, none⟩ v) (some q) :=
  ⟨rfl, rfl, rfl, by simp [World.setCell], fun k _ ne => Below.heap_setCell W ⟨q, o, none⟩ v k (fun e => ne (by rw [e]))⟩
theorem OwnR.store {W : World} {base q : Nat} {v : Value} {l : List Rl} (h : OwnR W base v l) (hq : q < base) (o : Nat) (u : Value) : OwnR (W.setCell ⟨q, o, none⟩ u) base v l :=
  World.ownsRow.kept h (setCell_grown W q o u) (by
    cases e : v.ownBlock with
    | none => exact .inl rfl
    | some r => exact .inr (fun c => by
        have h1 := (World.ownsRow.lt h r e).1
        have h2 : r = q := Option.some.inj c
        omega))
def usedB (es : List Er) (nm : ByteArray) : Bool := es.any (fun e => decide (e.rules = nm))
theorem used_step {es : List Er} {k : Nat} {e : Er} (h : es[k]? = some e) (nm : ByteArray) : usedB (es.take (k + 1)) nm = (usedB (es.take k) nm || decide (e.rules = nm)) := by
  unfold usedB
  rw [List.take_add_one, h, List.any_append]
  simp
theorem step_app11 (w : World) {ops : Array Oper} {o : Oper} {a : Act} {K : Act → World → Prop} {Q : Exit → Act → World → Prop} {E : Prop} (hgd : o.guard = none) (s x : Operand)
    (ho : o.op = .call { callee := .builtin .append, args := #[s, x], argTypes := #[25, 25] })
    (base : Nat) (v : Value) (l : List Rl) (X : Rl) (hs : a.eval s = v) (hown : OwnR w base v l) (ad : Addr) (hx : a.eval x = .slice (some ad) 1 1)
    (hnews : ∀ j u, X.vals[j]? = some u → w.cell? (ad.add j) = some u) (hle : l.length + 1 ≤ 1000) (hbase : base ≤ w.heap.size)
    (h : ∀ g cap w', OwnR w' base (.slice (some ⟨g, 0, none⟩) (l.length + 1) cap) (l ++ [X]) → w.grownBy w' v.ownBlock → K (a.put o.dst (.slice (some ⟨g, 0, none⟩) (l.length + 1) cap)) w') : if Region.wanted o (yielded ops a.tmps) = true then Oper.wp Tryz.prog o a w K Q else E := by
  obtain ⟨i, hi, hz, hs1, hb⟩ := info_partsR rule_infoR
  refine step_append_lies w hgd s x 25 ho base 52 i _ 11 104 Tryz.underlying25 hi hz hs1 hb rfl (by decide) v l.length (l.flatMap Rl.vals) hs hown ad 1 1 X.vals hx (by rfl) hnews (by
    have := rules_one_cell [X]
    simpa using this) (by decide) (by unfold maxLen; omega) (by omega) hbase _ rfl fun g cap w' h1 h2 _ _ => ?_
  refine h g cap w' ?_ h2
  have e : (l ++ [X]).flatMap Rl.vals = l.flatMap Rl.vals ++ X.vals := by rw [List.flatMap_append]; simp
  have e2 : (l ++ [X]).length = l.length + 1 := by simp
  unfold OwnR
  rw [e, e2]
  exact h1
def partL (L : List Rl) (es : List Er) : List Rl := L.filter (fun x => usedB es x.name)
theorem part_step {L : List Rl} {es : List Er} {i : Nat} {x : Rl} (h : L[i]? = some x) : partL (L.take (i + 1)) es = if usedB es x.name = true then partL (L.take i) es ++ [x] else partL (L.take i) es := by
  unfold partL
  rw [List.take_add_one, h, List.filter_append]
  by_cases c : usedB es x.name = true
  · rw [if_pos c]; simp [c]
  · rw [if_neg c]; simp [c]
theorem ln_0 {Q : World → Prop} (MO : Hid (∀ (w W : World), Q w → Below w.heap.size w W → Q W)) (AL : Hid (∀ W, Q W → Calls Tryz.prog 9 #[] W (RetV W (.bool true)))) (w : World) (LQ : Q w) (A B C : Option Addr) (n c m d q e : Nat) (z T : Int)  (GR : Hid (∀ W, Below w.heap.size w W → Calls Tryz.prog 12 #[.agg #[.slice A n c, .slice B m d, .slice C q e]] W (RetV W (.bool true)))) : Calls Tryz.prog 7 #[.agg #[.slice A n c, .slice B m d, .slice C q e], .int .i64 z, .int .i64 T] w (RetV w (.bool true)) := by
  go_enter Tryz.func7, Tryz.ntmps7
  go_upto_region 1 with (fail)
  have KB := (BK.nil w).lit [.slice A n c, .slice B m d, .slice C q e] 29
  rw [show ([.slice A n c, .slice B m d, .slice C q e] : List Value).toArray = #[.slice A n c, .slice B m d, .slice C q e] from rfl] at KB
  generalize w.alloc (.cells #[.slice A n c, .slice B m d, .slice C q e] 29) = W at *
  obtain ⟨_, x0, x1, x2, _⟩ := (KB.head).three
  go_wp2_with (first | (go_at_call 12; refine (GR.out _ KB.hb).mono ?_; rintro e9 W9 ⟨rfl, hk⟩; replace KB := KB.below hk; clear GR hk x0 x1 x2; obtain ⟨_, x0, x1, x2, _⟩ := (KB.head).three) | (go_at_call 9; refine (AL.out _ (MO.out _ _ LQ KB.hb)).mono ?_; rintro e9 W9 ⟨rfl, hk⟩; replace KB := KB.below hk; clear hk))
  go_ret
  exact ⟨rfl, KB.hb⟩
theorem ln_1 {Q : World → Prop} (MO : Hid (∀ (w W : World), Q w → Below w.heap.size w W → Q W)) (AL : Hid (∀ W, Q W → Calls Tryz.prog 9 #[] W (RetV W (.bool true)))) (w : World) (LQ : Q w) (A B C : Option Addr) (n c m d q e : Nat) (z T : Int) (d0 : decide (z < 0) = true) (GR : Hid (∀ W, Below w.heap.size w W → Calls Tryz.prog 12 #[.agg #[.slice A n c, .slice B m d, .slice C q e]] W (RetV W (.bool false)))) : Calls Tryz.prog 7 #[.agg #[.slice A n c, .slice B m d, .slice C q e], .int .i64 z, .int .i64 T] w (RetV w (.bool true)) := by
  go_enter Tryz.func7, Tryz.ntmps7
  go_upto_region 1 with (fail)
  have KB := (BK.nil w).lit [.slice A n c, .slice B m d, .slice C q e] 29
  rw [show ([.slice A n c, .slice B m d, .slice C q e] : List Value).toArray = #[.slice A n c, .slice B m d, .slice C q e] from rfl] at KB
  generalize w.alloc (.cells #[.slice A n c, .slice B m d, .slice C q e] 29) = W at *
  obtain ⟨_, x0, x1, x2, _⟩ := (KB.head).three
  go_wp2_with (first | (go_at_call 12; refine (GR.out _ KB.hb).mono ?_; rintro e9 W9 ⟨rfl, hk⟩; replace KB := KB.below hk; clear GR hk x0 x1 x2; obtain ⟨_, x0, x1, x2, _⟩ := (KB.head).three) | (go_at_call 9; refine (AL.out _ (MO.out _ _ LQ KB.hb)).mono ?_; rintro e9 W9 ⟨rfl, hk⟩; replace KB := KB.below hk; clear hk))
  go_ret
  exact ⟨rfl, KB.hb⟩
theorem ln_2 {Q : World → Prop} (MO : Hid (∀ (w W : World), Q w → Below w.heap.size w W → Q W)) (AL : Hid (∀ W, Q W → Calls Tryz.prog 9 #[] W (RetV W (.bool true)))) (w : World) (LQ : Q w) (A B C : Option Addr) (n c m d q e : Nat) (z T : Int) (d0 : decide (z < 0) = false) (d1 : decide (z ≥ (m : Int)) = true) (GR : Hid (∀ W, Below w.heap.size w W → Calls Tryz.prog 12 #[.agg #[.slice A n c, .slice B m d, .slice C q e]] W (RetV W (.bool false)))) : Calls Tryz.prog 7 #[.agg #[.slice A n c, .slice B m d, .slice C q e], .int .i64 z, .int .i64 T] w (RetV w (.bool true)) := by
  go_enter Tryz.func7, Tryz.ntmps7
  go_upto_region 1 with (fail)
  have KB := (BK.nil w).lit [.slice A n c, .slice B m d, .slice C q e] 29
  rw [show ([.slice A n c, .slice B m d, .slice C q e] : List Value).toArray = #[.slice A n c, .slice B m d, .slice C q e] from rfl] at KB
  generalize w.alloc (.cells #[.slice A n c, .slice B m d, .slice C q e] 29) = W at *
  obtain ⟨_, x0, x1, x2, _⟩ := (KB.head).three
  go_wp2_with (first | (go_at_call 12; refine (GR.out _ KB.hb).mono ?_; rintro e9 W9 ⟨rfl, hk⟩; replace KB := KB.below hk; clear GR hk x0 x1 x2; obtain ⟨_, x0, x1, x2, _⟩ := (KB.head).three) | (go_at_call 9; refine (AL.out _ (MO.out _ _ LQ KB.hb)).mono ?_; rintro e9 W9 ⟨rfl, hk⟩; replace KB := KB.below hk; clear hk))
  go_ret
  exact ⟨rfl, KB.hb⟩
theorem ln_ok {Q : World → Prop} (MO : Hid (∀ (w W : World), Q w → Below w.heap.size w W → Q W)) (AL : Hid (∀ W, Q W → Calls Tryz.prog 9 #[] W (RetV W (.bool true)))) (w : World) (LQ : Q w) (g o : Nat) (A C : Option Addr) (n c m d q e : Nat) (z : Nat) (T : Int) (hz : z < m) (_hm : m ≤ d) (hd : d ≤ maxLen) (hg : g < w.heap.size) (nm : ByteArray) (Z : Option Addr) (u cu : Nat) (es : List Er) (L : List Rl) (n40 : n ≤ 40) (po ps : Int) (pa : ByteArray) (HA : Hid (RulV w A n c L)) (HZ : Hid (Rs 13 w Z u cu (es.map Er.vals))) (Y0 : Hid (w.cell? ⟨g, o + z * 2, none⟩ = some (.string nm))) (Y1 : Hid (w.cell? ⟨g, o + z * 2 + 1, none⟩ = some (.slice Z u cu))) (GR : Hid (∀ W, Below w.heap.size w W → Calls Tryz.prog 12 #[.agg #[.slice A n c, .slice (some ⟨g, o, none⟩) m d, .slice C q e]] W (RetV W (.bool false)))) (PR : Hid (∀ W, Below w.heap.size w W → Q W → Calls Tryz.prog 18 #[.agg #[.slice A n c, .slice (some ⟨g, o, none⟩) m d, .slice C q e], .int .i64 (z : Int), .int .i64 T] W (fun e w' => e = .returned (.tuple #[.agg #[.int .i64 po, .int .i64 ps, .string pa], .bool true]) ∧ Below W.heap.size W w'))) (RG : Hid (∀ W, Below w.heap.size w W → Calls Tryz.prog 14 #[.agg #[.slice A n c, .slice (some ⟨g, o, none⟩) m d, .slice C q e]] W (RetV W (.bool true)))) (AX : Hid (∀ A' c1 q W, RulV W A' (partL L es).length c1 (partL L es) → Blk W q [.string nm, .slice Z u cu] → Below w.heap.size w W → Q W → Calls Tryz.prog 18 #[.agg #[.slice A' (partL L es).length c1, .slice (some ⟨q, 0, none⟩) 1 1, .slice none 0 0], .int .i64 0, .int .i64 T] W (fun e w' => e = .returned (.tuple #[.agg #[.int .i64 po, .int .i64 ps, .string pa], .bool true]) ∧ Below W.heap.size W w'))) : Calls Tryz.prog 7 #[.agg #[.slice A n c, .slice (some ⟨g, o, none⟩) m d, .slice C q e], .int .i64 (z : Int), .int .i64 T] w (RetV w (.bool true)) := by
  have dm : d ≤ 9223372036854775807 := hd
  have um : u ≤ 9223372036854775807 := Nat.le_trans HZ.out.cap HZ.out.max
  have LN := Lib.hid (show L.length = n by have := HA.out.len; simpa using this)
  have LE := Lib.hid (show es.length = u by have := HZ.out.len; simpa using this)
  have d0 : decide ((z : Int) < 0) = false := decide_eq_false (by omega)
  have d1 : decide ((z : Int) ≥ (m : Int)) = false := decide_eq_false (by omega)
  go_enter Tryz.func7, Tryz.ntmps7
  go_upto_region 1 with (fail)
  have KB := (BK.nil w).lit [.slice A n c, .slice (some ⟨g, o, none⟩) m d, .slice C q e] 29
  rw [show ([.slice A n c, .slice (some ⟨g, o, none⟩) m d, .slice C q e] : List Value).toArray = #[.slice A n c, .slice (some ⟨g, o, none⟩) m d, .slice C q e] from rfl] at KB
  generalize w.alloc (.cells #[.slice A n c, .slice (some ⟨g, o, none⟩) m d, .slice C q e] 29) = W at *
  obtain ⟨_, x0, x1, x2, _⟩ := (KB.head).three
  go_upto_region 4 with (first | (go_at_call 12; refine (GR.out _ KB.hb).mono ?_; rintro e9 W9 ⟨rfl, hk⟩; replace KB := KB.below hk; clear GR hk x0 x1 x2; obtain ⟨_, x0, x1, x2, _⟩ := (KB.head).three) | (go_at_call 18; refine (PR.out _ KB.hb (MO.out _ _ LQ KB.hb)).mono ?_; rintro e9 W1 ⟨rfl, hk⟩; replace KB := KB.below hk; clear PR hk x0 x1 x2))
  replace KB := KB.lit [.int .i64 po, .int .i64 ps, .string pa] 43
  rw [show ([.int .i64 po, .int .i64 ps, .string pa] : List Value).toArray = #[.int .i64 po, .int .i64 ps, .string pa] from rfl] at KB
  generalize W1.alloc (.cells #[.int .i64 po, .int .i64 ps, .string pa] 43) = W2 at *
  generalize W1.heap.size = q7 at *
  obtain ⟨_, x0, x1, x2, _⟩ := (KB.tail.head).three
  have y0 := (KB.hb.cell (p := ⟨g, o + z * 2, none⟩) hg).trans Y0.out
  have y1 := (KB.hb.cell (p := ⟨g, o + z * 2 + 1, none⟩) hg).trans Y1.out
  go_upto_region 5 with (fail)
  have l7 := KB.head.lt
  have lw := KB.tail.head.lt
  replace KB := KB.lit [.string nm, .slice Z u cu] 35
  rw [show ([.string nm, .slice Z u cu] : List Value).toArray = #[.string nm, .slice Z u cu] from rfl] at KB
  replace KB := KB.lit [.slice none 0 0, .slice (some ⟨W2.heap.size, 0, none⟩) 1 1, .slice none 0 0] 29
  rw [show ([.slice none 0 0, .slice (some ⟨W2.heap.size, 0, none⟩) 1 1, .slice none 0 0] : List Value).toArray = #[.slice none 0 0, .slice (some ⟨W2.heap.size, 0, none⟩) 1 1, .slice none 0 0] from rfl] at KB
  have lo9 := KB.head.lt
  have loz := KB.tail.head.lt
  have lo7 := KB.tail.tail.head.lt
  clear x0 x1 x2 y0 y1
  simp only [World.size_alloc] at KB
  generalize (W2.alloc (.cells #[.string nm, .slice Z u cu] 35)).alloc (.cells #[.slice none 0 0, .slice (some ⟨W2.heap.size, 0, none⟩) 1 1, .slice none 0 0] 29) = W3 at *
  simp only [World.size_alloc] at *
  generalize W2.heap.size = qz at *
  have low : w.heap.size < W3.heap.size := KB.tail.tail.tail.head.lt
  have LB := Lib.hid (show ∀ v, ∀ x ∈ ([(qz + 1, [v, .slice (some ⟨qz, 0, none⟩) 1 1, .slice none 0 0]), (qz, [.string nm, .slice Z u cu]), (q7, [.int .i64 po, .int .i64 ps, .string pa]), (w.heap.size, [.slice A n c, .slice (some ⟨g, o, none⟩) m d, .slice C q e])] : List (Nat × List Value)), x.1 < W3.heap.size from fun v x hx => by
    simp only [List.mem_cons, List.not_mem_nil, or_false] at hx
    rcases hx with rfl | rfl | rfl | rfl
    · exact lo9
    · exact loz
    · exact lo7
    · exact low)
  have NQ := Lib.hid (show ∀ v, ∀ y ∈ ([(qz + 1, [v, .slice (some ⟨qz, 0, none⟩) 1 1, .slice none 0 0]), (qz, [.string nm, .slice Z u cu]), (q7, [.int .i64 po, .int .i64 ps, .string pa]), (w.heap.size, [.slice A n c, .slice (some ⟨g, o, none⟩) m d, .slice C q e])] : List (Nat × List Value)).tail, qz + 1 ≠ y.1 from fun v y hy => by
    simp only [List.tail_cons, List.mem_cons, List.not_mem_nil, or_false] at hy
    rcases hy with rfl | rfl | rfl
    · show ¬ _ = _; simp only []; omega
    · show ¬ _ = _; simp only []; omega
    · show ¬ _ = _; simp only []; omega)
  have wq : w.heap.size ≤ qz + 1 := by omega
  have SZ := Lib.hid (Nat.le_of_lt low)
  go_wp2_with fail
  go_loopw [10] (fun v10 wr => ∃ (i : Nat) (v : Value) (l : List Rl), i ≤ n ∧ v10 = .int .i64 i ∧ Hid (l = partL (L.take i) es) ∧ l.length ≤ i ∧ W3.heap.size ≤ wr.heap.size ∧ OwnR wr W3.heap.size v l ∧ BK w [(qz + 1, [v, .slice (some ⟨qz, 0, none⟩) 1 1, .slice none 0 0]), (qz, [.string nm, .slice Z u cu]), (q7, [.int .i64 po, .int .i64 ps, .string pa]), (w.heap.size, [.slice A n c, .slice (some ⟨g, o, none⟩) m d, .slice C q e])] wr) (fun v _ => n - (intOf v).toNat)
  case atStart => exact ⟨0, .slice none 0 0, [], by omega, rfl, Lib.hid rfl, Nat.le_refl _, Nat.le_refl _, OwnR.nil _ _, KB⟩
  case round =>
    clear KB
    obtain ⟨i, v, l, hi, rfl, HR, hl, hsz, HO, KB⟩ := hrel
    obtain ⟨wa, rfl⟩ : ∃ wa, wa = wr := ⟨wr, rfl⟩
    obtain ⟨_, x0, x1, x2, _⟩ := (KB.tail.tail.tail.head).three
    by_cases h4 : i < n
    · obtain ⟨x, hxx⟩ : ∃ x, L[i]? = some x := ⟨_, List.getElem?_eq_getElem (by rw [LN.out]; exact h4)⟩
      obtain ⟨g3, o3, ea0, hg3, ca⟩ := (HA.out.below KB.hb).cells (by omega)
      have RA := Lib.hid (fun W (h : Below wa.heap.size wa W) (j : Nat) (u : Value) (hu : x.vals[j]? = some u) => (h.cell (p := ⟨g3, o3 + i * 11 + j, none⟩) hg3).trans (row_at ca (show (L.map Rl.vals)[i]? = some (Rl.vals x) by rw [List.getElem?_map, hxx]; rfl) j u hu))
      subst ea0
      have HN := part_step (es := es) hxx
      rw [← HR.out] at HN
      clear HR ca hxx
      obtain ⟨X, hX⟩ : ∃ X, X = x := ⟨_, rfl⟩
      rw [← hX] at HN
      replace HN := Lib.hid HN
      have HX := Lib.hid hX
      clear hX
      obtain ⟨nn, fr, last, ⟨rmo, rki, rwd, rda, rti, rre⟩, save, le⟩ := x
      have XN := Lib.hid (show X.name = nn by rw [HX.out])
      have XV := Lib.hid (show X.vals = [.string nn, .int .i64 fr, .int .i64 last, .int .i64 rmo, .int .i64 rki, .int .i64 rwd, .int .i64 rda, .int .i64 rti, .int .i64 rre, .int .i64 save, .string le] by rw [HX.out]; rfl)
      clear HX
      go_wp2_with fail
      go_loopw [11, 12] (fun v11 v12 wr2 => ∃ (k : Nat) (b : Bool), k ≤ u ∧ v11 = .bool b ∧ v12 = .int .i64 k ∧ Hid (b = usedB (es.take k) nn) ∧ Below wa.heap.size wa wr2) (fun _ v _ => u - (intOf v).toNat)
      case atStart => exact ⟨0, false, by omega, rfl, rfl, Lib.hid rfl, Below.refl _ _⟩
      case round =>
        obtain ⟨k, b, hk, rfl, rfl, HB, hb2⟩ := hrel
        have K2 := KB.below hb2
        have kw := K2.hb
        have y1 := (kw.cell (p := ⟨g, o + z * 2 + 1, none⟩) hg).trans Y1.out
        clear x0 x1 x2
        obtain ⟨_, x0, x1, x2, _⟩ := (K2.tail.tail.tail.head).three
        by_cases h5 : k < u
        · obtain ⟨e0, hee⟩ : ∃ e0, es[k]? = some e0 := ⟨_, List.getElem?_eq_getElem (by rw [LE.out]; exact h5)⟩
          have US := used_step hee nn
          rw [← HB.out] at US
          have US := Lib.hid US
          obtain ⟨g2, o2, eZ, hg2, _, rx⟩ := era_rows (HZ.out.below kw) hee
          have e3 : wr.cell? ⟨g2, o2 + k * 13 + 3, none⟩ = some (.string e0.rules) := rx 3 _ rfl
          have rn : wr.cell? ⟨g3, o3 + i * 11, none⟩ = some (.string nn) := RA.out wr hb2 0 _ rfl
          have q6 : (e0.rules.toList == nn.toList) = decide (e0.rules = nn) := toList_beqT _ _
          clear rx hee HB
          generalize e0.rules = er at *
          subst eZ
          cases b with
          | true =>
            have N2 : Hid (true = usedB (es.take (k + 1)) nn) := Lib.hid (by rw [US.out]; rfl)
            clear US q6 e3 rn
            go_wp2_with fail
            go_quiet (fail)
            rename_i nq
            go_wp2_with fail
            go_roundw
            case rel => exact ⟨k + 1, true, by omega, rfl, int_eqS (by omega), N2, below_drewN hb2 nq⟩
            case measure => simp only [intOf]; omega
          | false =>
            by_cases h6 : er = nn
            · have N2 : Hid (true = usedB (es.take (k + 1)) nn) := Lib.hid (by rw [US.out, decide_eq_true h6]; rfl)
              replace q6 : (er.toList == nn.toList) = true := by rw [q6, decide_eq_true h6]
              clear US h6
              go_wp2_with fail
              go_quiet (fail)
              rename_i nq
              go_wp2_with fail
              go_roundw
              case rel => exact ⟨k + 1, true, by omega, rfl, int_eqS (by omega), N2, below_drewN hb2 nq⟩
              case measure => simp only [intOf]; omega
            · have N2 : Hid (false = usedB (es.take (k + 1)) nn) := Lib.hid (by rw [US.out, decide_eq_false h6]; rfl)
              replace q6 : (er.toList == nn.toList) = false := by rw [q6, decide_eq_false h6]
              clear US h6
              go_wp2_with fail
              go_quiet (fail)
              rename_i nq
              go_wp2_with fail
              go_roundw
              case rel => exact ⟨k + 1, false, by omega, rfl, int_eqS (by omega), N2, below_drewN hb2 nq⟩
              case measure => simp only [intOf]; omega
        · obtain rfl : k = u := by omega
          have UE := Lib.hid (show b = usedB es nn from by have := HB.out; rw [← LE.out, List.take_length] at this; exact this)
          have O2 := HO.kept hb2
          clear HB
          cases b with
          | false =>
            have N2 : Hid (l = partL (L.take (i + 1)) es) := Lib.hid (by have := HN.out; rw [XN.out, if_neg (by rw [← UE.out]; decide)] at this; exact this.symm)
            clear HN UE
            go_wp2_with fail
            go_roundw
            case rel => exact ⟨i + 1, v, l, by omega, int_eqS (by omega), N2, by omega, Nat.le_trans hsz hb2.size, O2, K2⟩
            case measure => simp only [intOf]; omega
          | true =>
            have N2 : Hid (l ++ [X] = partL (L.take (i + 1)) es) := Lib.hid (by have := HN.out; rw [XN.out, if_pos UE.out.symm] at this; exact this.symm)
            clear HN UE
            obtain ⟨_, p0, p1, p2, f0, f1, f2⟩ := K2.head.three
            have r0 : wr.cell? ⟨g3, o3 + i * 11, none⟩ = some (.string nn) := RA.out wr hb2 0 _ rfl
            have r1 : wr.cell? ⟨g3, o3 + i * 11 + 1, none⟩ = some (.int .i64 fr) := RA.out wr hb2 1 _ rfl
            have r2 : wr.cell? ⟨g3, o3 + i * 11 + 2, none⟩ = some (.int .i64 last) := RA.out wr hb2 2 _ rfl
            have r3 : wr.cell? ⟨g3, o3 + i * 11 + 3, none⟩ = some (.int .i64 rmo) := RA.out wr hb2 3 _ rfl
            have r4 : wr.cell? ⟨g3, o3 + i * 11 + 4, none⟩ = some (.int .i64 rki) := RA.out wr hb2 4 _ rfl
            have r5 : wr.cell? ⟨g3, o3 + i * 11 + 5, none⟩ = some (.int .i64 rwd) := RA.out wr hb2 5 _ rfl
            have r6 : wr.cell? ⟨g3, o3 + i * 11 + 6, none⟩ = some (.int .i64 rda) := RA.out wr hb2 6 _ rfl
            have r7 : wr.cell? ⟨g3, o3 + i * 11 + 7, none⟩ = some (.int .i64 rti) := RA.out wr hb2 7 _ rfl
            have r8 : wr.cell? ⟨g3, o3 + i * 11 + 8, none⟩ = some (.int .i64 rre) := RA.out wr hb2 8 _ rfl
            have r9 : wr.cell? ⟨g3, o3 + i * 11 + 9, none⟩ = some (.int .i64 save) := RA.out wr hb2 9 _ rfl
            have r10 : wr.cell? ⟨g3, o3 + i * 11 + 10, none⟩ = some (.string le) := RA.out wr hb2 10 _ rfl
            have HT := Lib.hid (fun (w : World) (ops : Array Oper) (oo : Oper) (a : Act) (K : Act → World → Prop) (Q : Exit → Act → World → Prop) (E : Prop) (hgd : oo.guard = none) (ho : oo.op = Op.call { callee := Callee.builtin Builtin.append, args := #[.tmp 83, .tmp 89], argTypes := #[25, 25] }) => step_app11 (ops := ops) (o := oo) (a := a) (K := K) (Q := Q) (E := E) w hgd (.tmp 83) (.tmp 89) ho W3.heap.size v l X)
            have OW := Lib.hid O2
            have NB := Lib.hid (blk_lit wr 52 [.string nn, .int .i64 fr, .int .i64 last, .int .i64 rmo, .int .i64 rki, .int .i64 rwd, .int .i64 rda, .int .i64 rti, .int .i64 rre, .int .i64 save, .string le])
            have KK := Lib.hid (fun W' (h : Below wr.heap.size wr W') => K2.below h)
            have S3 : W3.heap.size ≤ wr.heap.size := Nat.le_trans hsz hb2.size
            have FIN := Lib.hid (fun (X0 w4 : World) (v' : Value) (HX : Below wr.heap.size wr X0) (ow : OwnR w4 W3.heap.size v' (l ++ [X])) (gr : X0.grownBy w4 v.ownBlock) => (KK.out X0 HX).grownB gr (fun r e => (World.ownsRow.lt OW.out r e).1) (LB.out v) SZ.out)
            go_wp2_with fail
            go_region_law ((refine HT.out _ _ _ _ _ _ _ (by rfl) (by rfl) (by rfl) (by repeat (first | with_reducible exact OW.out | with_reducible refine World.ownsRow.drew ?_ | with_reducible refine World.ownsRow.alloc ?_ _)) ⟨wr.heap.size, 0, none⟩ (by rfl) (fun j u hu => blk_news (by repeat (first | with_reducible exact NB.out | with_reducible refine Blk.drew ?_)) j u (by rw [XV.out] at hu; exact hu)) (by omega) (by first | exact S3 | exact Nat.le_trans S3 (by simp)) ?_; intro g4 cap4 w4 ow gr; have K4 := FIN.out _ w4 _ (by repeat (first | with_reducible exact Below.refl _ _ | with_reducible refine Below.drew ?_ | with_reducible refine Below.alloc ?_ (Nat.le_refl _) _)) ow gr; obtain ⟨_, s0, s1, s2, t0, t1, t2⟩ := K4.head.three))
            all_goals
              go_wp2_with fail
              have S4 := Nat.le_trans hsz (Nat.le_trans hb2.size (Nat.le_trans (by first | exact Nat.le_refl _ | simp) gr.size))
              have KF := K4.one 0 (.slice (some ⟨g4, 0, none⟩) (l.length + 1) cap4) (K4.head.at0t _) wq (NQ.out v)
              have OF := ow.store (q := qz + 1) lo9 0 (.slice (some ⟨g4, 0, none⟩) (l.length + 1) cap4)
              go_roundw
              case rel => exact ⟨i + 1, _, l ++ [X], by omega, int_eqS (by omega), N2, by rw [List.length_append, List.length_singleton]; omega, Nat.le_trans S4 (by simp [World.setCell]), OF, KF⟩
              case measure => simp only [intOf]; omega
    · have EL : l = partL L es := by have := HR.out; rw [List.take_of_length_le (by rw [LN.out]; omega)] at this; exact this
      subst EL
      obtain ⟨A1, c1, rfl, hv1⟩ := HO.rulv
      clear HO HR hl
      obtain ⟨_, n0, n1, n2, _⟩ := KB.head.three
      have s1 : (pa == pa) = true := by rw [beq_txtT]; exact decide_eq_true rfl
      go_upto_region 18 with (first
        | (go_at_call 14; refine (RG.out _ KB.hb).mono ?_; rintro e9 W4 ⟨rfl, hk⟩; replace KB := KB.below hk; replace hv1 := hv1.below hk; clear RG hk x0 x1 x2 n0 n1 n2; obtain ⟨_, n0, n1, n2, _⟩ := KB.head.three)
        | (go_at_call 18; refine (AX.out _ _ _ _ hv1 KB.tail.head KB.hb (MO.out _ _ LQ KB.hb)).mono ?_; rintro e9 W5 ⟨rfl, hk⟩; replace KB := KB.below hk; clear AX hk hv1 n0 n1 n2))
      replace KB := KB.lit [.int .i64 po, .int .i64 ps, .string pa] 43
      rw [show ([.int .i64 po, .int .i64 ps, .string pa] : List Value).toArray = #[.int .i64 po, .int .i64 ps, .string pa] from rfl] at KB
      generalize W5.alloc (.cells #[.int .i64 po, .int .i64 ps, .string pa] 43) = W6 at *
      generalize W5.heap.size = q13 at *
      go_wp2_with (go_at_call 9; refine (AL.out _ (MO.out _ _ LQ KB.hb)).mono ?_; rintro e9 W7 ⟨rfl, hk⟩; replace KB := KB.below hk; clear hk; obtain ⟨_, f0, f1, f2, _⟩ := KB.head.three; obtain ⟨_, b0, b1, b2, _⟩ := KB.tail.tail.tail.head.three)
      go_ret
      exact ⟨rfl, KB.hb⟩
theorem ln_bad {Q : World → Prop} (MO : Hid (∀ (w W : World), Q w → Below w.heap.size w W → Q W)) (AL : Hid (∀ W, Q W → Calls Tryz.prog 9 #[] W (RetV W (.bool true)))) (w : World) (LQ : Q w) (g o : Nat) (A C : Option Addr) (n c m d q e : Nat) (z : Nat) (T : Int) (hz : z < m) (_hm : m ≤ d) (hd : d ≤ maxLen) (hg : g < w.heap.size) (nm : ByteArray) (Z : Option Addr) (u cu : Nat) (es : List Er) (L : List Rl) (n40 : n ≤ 40) (HA : Hid (RulV w A n c L)) (HZ : Hid (Rs 13 w Z u cu (es.map Er.vals))) (Y0 : Hid (w.cell? ⟨g, o + z * 2, none⟩ = some (.string nm))) (Y1 : Hid (w.cell? ⟨g, o + z * 2 + 1, none⟩ = some (.slice Z u cu))) (GR : Hid (∀ W, Below w.heap.size w W → Calls Tryz.prog 12 #[.agg #[.slice A n c, .slice (some ⟨g, o, none⟩) m d, .slice C q e]] W (RetV W (.bool false)))) (PR : Hid (∀ W, Below w.heap.size w W → Q W → Calls Tryz.prog 18 #[.agg #[.slice A n c, .slice (some ⟨g, o, none⟩) m d, .slice C q e], .int .i64 (z : Int), .int .i64 T] W (fun e w' => e = .returned (.tuple #[.agg #[.int .i64 0, .int .i64 0, .string ⟨#[]⟩], .bool false]) ∧ Below W.heap.size W w'))) (RG : Hid (∀ W, Below w.heap.size w W → Calls Tryz.prog 14 #[.agg #[.slice A n c, .slice (some ⟨g, o, none⟩) m d, .slice C q e]] W (RetV W (.bool false))))  : Calls Tryz.prog 7 #[.agg #[.slice A n c, .slice (some ⟨g, o, none⟩) m d, .slice C q e], .int .i64 (z : Int), .int .i64 T] w (RetV w (.bool true)) := by
  have dm : d ≤ 9223372036854775807 := hd
  have um : u ≤ 9223372036854775807 := Nat.le_trans HZ.out.cap HZ.out.max
  have LN := Lib.hid (show L.length = n by have := HA.out.len; simpa using this)
  have LE := Lib.hid (show es.length = u by have := HZ.out.len; simpa using this)
  have d0 : decide ((z : Int) < 0) = false := decide_eq_false (by omega)
  have d1 : decide ((z : Int) ≥ (m : Int)) = false := decide_eq_false (by omega)
  go_enter Tryz.func7, Tryz.ntmps7
  go_upto_region 1 with (fail)
  have KB := (BK.nil w).lit [.slice A n c, .slice (some ⟨g, o, none⟩) m d, .slice C q e] 29
  rw [show ([.slice A n c, .slice (some ⟨g, o, none⟩) m d, .slice C q e] : List Value).toArray = #[.slice A n c, .slice (some ⟨g, o, none⟩) m d, .slice C q e] from rfl] at KB
  generalize w.alloc (.cells #[.slice A n c, .slice (some ⟨g, o, none⟩) m d, .slice C q e] 29) = W at *
  obtain ⟨_, x0, x1, x2, _⟩ := (KB.head).three
  go_upto_region 4 with (first | (go_at_call 12; refine (GR.out _ KB.hb).mono ?_; rintro e9 W9 ⟨rfl, hk⟩; replace KB := KB.below hk; clear GR hk x0 x1 x2; obtain ⟨_, x0, x1, x2, _⟩ := (KB.head).three) | (go_at_call 18; refine (PR.out _ KB.hb (MO.out _ _ LQ KB.hb)).mono ?_; rintro e9 W1 ⟨rfl, hk⟩; replace KB := KB.below hk; clear PR hk x0 x1 x2))
  replace KB := KB.lit [.int .i64 0, .int .i64 0, .string ⟨#[]⟩] 43
  rw [show ([.int .i64 0, .int .i64 0, .string ⟨#[]⟩] : List Value).toArray = #[.int .i64 0, .int .i64 0, .string ⟨#[]⟩] from rfl] at KB
  generalize W1.alloc (.cells #[.int .i64 0, .int .i64 0, .string ⟨#[]⟩] 43) = W2 at *
  generalize W1.heap.size = q7 at *
  obtain ⟨_, x0, x1, x2, _⟩ := (KB.tail.head).three
  have y0 := (KB.hb.cell (p := ⟨g, o + z * 2, none⟩) hg).trans Y0.out
  have y1 := (KB.hb.cell (p := ⟨g, o + z * 2 + 1, none⟩) hg).trans Y1.out
  go_upto_region 5 with (fail)
  have l7 := KB.head.lt
  have lw := KB.tail.head.lt
  replace KB := KB.lit [.string nm, .slice Z u cu] 35
  rw [show ([.string nm, .slice Z u cu] : List Value).toArray = #[.string nm, .slice Z u cu] from rfl] at KB
  replace KB := KB.lit [.slice none 0 0, .slice (some ⟨W2.heap.size, 0, none⟩) 1 1, .slice none 0 0] 29
  rw [show ([.slice none 0 0, .slice (some ⟨W2.heap.size, 0, none⟩) 1 1, .slice none 0 0] : List Value).toArray = #[.slice none 0 0, .slice (some ⟨W2.heap.size, 0, none⟩) 1 1, .slice none 0 0] from rfl] at KB
  have lo9 := KB.head.lt
  have loz := KB.tail.head.lt
  have lo7 := KB.tail.tail.head.lt
  clear x0 x1 x2 y0 y1
  simp only [World.size_alloc] at KB
  generalize (W2.alloc (.cells #[.string nm, .slice Z u cu] 35)).alloc (.cells #[.slice none 0 0, .slice (some ⟨W2.heap.size, 0, none⟩) 1 1, .slice none 0 0] 29) = W3 at *
  simp only [World.size_alloc] at *
  generalize W2.heap.size = qz at *
  have low : w.heap.size < W3.heap.size := KB.tail.tail.tail.head.lt
  have LB := Lib.hid (show ∀ v, ∀ x ∈ ([(qz + 1, [v, .slice (some ⟨qz, 0, none⟩) 1 1, .slice none 0 0]), (qz, [.string nm, .slice Z u cu]), (q7, [.int .i64 0, .int .i64 0, .string ⟨#[]⟩]), (w.heap.size, [.slice A n c, .slice (some ⟨g, o, none⟩) m d, .slice C q e])] : List (Nat × List Value)), x.1 < W3.heap.size from fun v x hx => by
    simp only [List.mem_cons, List.not_mem_nil, or_false] at hx
    rcases hx with rfl | rfl | rfl | rfl
    · exact lo9
    · exact loz
    · exact lo7
    · exact low)
  have NQ := Lib.hid (show ∀ v, ∀ y ∈ ([(qz + 1, [v, .slice (some ⟨qz, 0, none⟩) 1 1, .slice none 0 0]), (qz, [.string nm, .slice Z u cu]), (q7, [.int .i64 0, .int .i64 0, .string ⟨#[]⟩]), (w.heap.size, [.slice A n c, .slice (some ⟨g, o, none⟩) m d, .slice C q e])] : List (Nat × List Value)).tail, qz + 1 ≠ y.1 from fun v y hy => by
    simp only [List.tail_cons, List.mem_cons, List.not_mem_nil, or_false] at hy
    rcases hy with rfl | rfl | rfl
    · show ¬ _ = _; simp only []; omega
    · show ¬ _ = _; simp only []; omega
    · show ¬ _ = _; simp only []; omega)
  have wq : w.heap.size ≤ qz + 1 := by omega
  have SZ := Lib.hid (Nat.le_of_lt low)
  go_wp2_with fail
  go_loopw [10] (fun v10 wr => ∃ (i : Nat) (v : Value) (l : List Rl), i ≤ n ∧ v10 = .int .i64 i ∧ Hid (l = partL (L.take i) es) ∧ l.length ≤ i ∧ W3.heap.size ≤ wr.heap.size ∧ OwnR wr W3.heap.size v l ∧ BK w [(qz + 1, [v, .slice (some ⟨qz, 0, none⟩) 1 1, .slice none 0 0]), (qz, [.string nm, .slice Z u cu]), (q7, [.int .i64 0, .int .i64 0, .string ⟨#[]⟩]), (w.heap.size, [.slice A n c, .slice (some ⟨g, o, none⟩) m d, .slice C q e])] wr) (fun v _ => n - (intOf v).toNat)
  case atStart => exact ⟨0, .slice none 0 0, [], by omega, rfl, Lib.hid rfl, Nat.le_refl _, Nat.le_refl _, OwnR.nil _ _, KB⟩
  case round =>
    clear KB
    obtain ⟨i, v, l, hi, rfl, HR, hl, hsz, HO, KB⟩ := hrel
    obtain ⟨wa, rfl⟩ : ∃ wa, wa = wr := ⟨wr, rfl⟩
    obtain ⟨_, x0, x1, x2, _⟩ := (KB.tail.tail.tail.head).three
    by_cases h4 : i < n
    · obtain ⟨x, hxx⟩ : ∃ x, L[i]? = some x := ⟨_, List.getElem?_eq_getElem (by rw [LN.out]; exact h4)⟩
      obtain ⟨g3, o3, ea0, hg3, ca⟩ := (HA.out.below KB.hb).cells (by omega)
      have RA := Lib.hid (fun W (h : Below wa.heap.size wa W) (j : Nat) (u : Value) (hu : x.vals[j]? = some u) => (h.cell (p := ⟨g3, o3 + i * 11 + j, none⟩) hg3).trans (row_at ca (show (L.map Rl.vals)[i]? = some (Rl.vals x) by rw [List.getElem?_map, hxx]; rfl) j u hu))
      subst ea0
      have HN := part_step (es := es) hxx
      rw [← HR.out] at HN
      clear HR ca hxx
      obtain ⟨X, hX⟩ : ∃ X, X = x := ⟨_, rfl⟩
      rw [← hX] at HN
      replace HN := Lib.hid HN
      have HX := Lib.hid hX
      clear hX
      obtain ⟨nn, fr, last, ⟨rmo, rki, rwd, rda, rti, rre⟩, save, le⟩ := x
      have XN := Lib.hid (show X.name = nn by rw [HX.out])
      have XV := Lib.hid (show X.vals = [.string nn, .int .i64 fr, .int .i64 last, .int .i64 rmo, .int .i64 rki, .int .i64 rwd, .int .i64 rda, .int .i64 rti, .int .i64 rre, .int .i64 save, .string le] by rw [HX.out]; rfl)
      clear HX
      go_wp2_with fail
      go_loopw [11, 12] (fun v11 v12 wr2 => ∃ (k : Nat) (b : Bool), k ≤ u ∧ v11 = .bool b ∧ v12 = .int .i64 k ∧ Hid (b = usedB (es.take k) nn) ∧ Below wa.heap.size wa wr2) (fun _ v _ => u - (intOf v).toNat)
      case atStart => exact ⟨0, false, by omega, rfl, rfl, Lib.hid rfl, Below.refl _ _⟩
      case round =>
        obtain ⟨k, b, hk, rfl, rfl, HB, hb2⟩ := hrel
        have K2 := KB.below hb2
        have kw := K2.hb
        have y1 := (kw.cell (p := ⟨g, o + z * 2 + 1, none⟩) hg).trans Y1.out
        clear x0 x1 x2
        obtain ⟨_, x0, x1, x2, _⟩ := (K2.tail.tail.tail.head).three
        by_cases h5 : k < u
        · obtain ⟨e0, hee⟩ : ∃ e0, es[k]? = some e0 := ⟨_, List.getElem?_eq_getElem (by rw [LE.out]; exact h5)⟩
          have US := used_step hee nn
          rw [← HB.out] at US
          have US := Lib.hid US
          obtain ⟨g2, o2, eZ, hg2, _, rx⟩ := era_rows (HZ.out.below kw) hee
          have e3 : wr.cell? ⟨g2, o2 + k * 13 + 3, none⟩ = some (.string e0.rules) := rx 3 _ rfl
          have rn : wr.cell? ⟨g3, o3 + i * 11, none⟩ = some (.string nn) := RA.out wr hb2 0 _ rfl
          have q6 : (e0.rules.toList == nn.toList) = decide (e0.rules = nn) := toList_beqT _ _
          clear rx hee HB
          generalize e0.rules = er at *
          subst eZ
          cases b with
          | true =>
            have N2 : Hid (true = usedB (es.take (k + 1)) nn) := Lib.hid (by rw [US.out]; rfl)
            clear US q6 e3 rn
            go_wp2_with fail
            go_quiet (fail)
            rename_i nq
            go_wp2_with fail
            go_roundw
            case rel => exact ⟨k + 1, true, by omega, rfl, int_eqS (by omega), N2, below_drewN hb2 nq⟩
            case measure => simp only [intOf]; omega
          | false =>
            by_cases h6 : er = nn
            · have N2 : Hid (true = usedB (es.take (k + 1)) nn) := Lib.hid (by rw [US.out, decide_eq_true h6]; rfl)
              replace q6 : (er.toList == nn.toList) = true := by rw [q6, decide_eq_true h6]
              clear US h6
              go_wp2_with fail
              go_quiet (fail)
              rename_i nq
              go_wp2_with fail
              go_roundw
              case rel => exact ⟨k + 1, true, by omega, rfl, int_eqS (by omega), N2, below_drewN hb2 nq⟩
              case measure => simp only [intOf]; omega
            · have N2 : Hid (false = usedB (es.take (k + 1)) nn) := Lib.hid (by rw [US.out, decide_eq_false h6]; rfl)
              replace q6 : (er.toList == nn.toList) = false := by rw [q6, decide_eq_false h6]
              clear US h6
              go_wp2_with fail
              go_quiet (fail)
              rename_i nq
              go_wp2_with fail
              go_roundw
              case rel => exact ⟨k + 1, false, by omega, rfl, int_eqS (by omega), N2, below_drewN hb2 nq⟩
              case measure => simp only [intOf]; omega
        · obtain rfl : k = u := by omega
          have UE := Lib.hid (show b = usedB es nn from by have := HB.out; rw [← LE.out, List.take_length] at this; exact this)
          have O2 := HO.kept hb2
          clear HB
          cases b with
          | false =>
            have N2 : Hid (l = partL (L.take (i + 1)) es) := Lib.hid (by have := HN.out; rw [XN.out, if_neg (by rw [← UE.out]; decide)] at this; exact this.symm)
            clear HN UE
            go_wp2_with fail
            go_roundw
            case rel => exact ⟨i + 1, v, l, by omega, int_eqS (by omega), N2, by omega, Nat.le_trans hsz hb2.size, O2, K2⟩
            case measure => simp only [intOf]; omega
          | true =>
            have N2 : Hid (l ++ [X] = partL (L.take (i + 1)) es) := Lib.hid (by have := HN.out; rw [XN.out, if_pos UE.out.symm] at this; exact this.symm)
            clear HN UE
            obtain ⟨_, p0, p1, p2, f0, f1, f2⟩ := K2.head.three
            have r0 : wr.cell? ⟨g3, o3 + i * 11, none⟩ = some (.string nn) := RA.out wr hb2 0 _ rfl
            have r1 : wr.cell? ⟨g3, o3 + i * 11 + 1, none⟩ = some (.int .i64 fr) := RA.out wr hb2 1 _ rfl
            have r2 : wr.cell? ⟨g3, o3 + i * 11 + 2, none⟩ = some (.int .i64 last) := RA.out wr hb2 2 _ rfl
            have r3 : wr.cell? ⟨g3, o3 + i * 11 + 3, none⟩ = some (.int .i64 rmo) := RA.out wr hb2 3 _ rfl
            have r4 : wr.cell? ⟨g3, o3 + i * 11 + 4, none⟩ = some (.int .i64 rki) := RA.out wr hb2 4 _ rfl
            have r5 : wr.cell? ⟨g3, o3 + i * 11 + 5, none⟩ = some (.int .i64 rwd) := RA.out wr hb2 5 _ rfl
            have r6 : wr.cell? ⟨g3, o3 + i * 11 + 6, none⟩ = some (.int .i64 rda) := RA.out wr hb2 6 _ rfl
            have r7 : wr.cell? ⟨g3, o3 + i * 11 + 7, none⟩ = some (.int .i64 rti) := RA.out wr hb2 7 _ rfl
            have r8 : wr.cell? ⟨g3, o3 + i * 11 + 8, none⟩ = some (.int .i64 rre) := RA.out wr hb2 8 _ rfl
            have r9 : wr.cell? ⟨g3, o3 + i * 11 + 9, none⟩ = some (.int .i64 save) := RA.out wr hb2 9 _ rfl
            have r10 : wr.cell? ⟨g3, o3 + i * 11 + 10, none⟩ = some (.string le) := RA.out wr hb2 10 _ rfl
            have HT := Lib.hid (fun (w : World) (ops : Array Oper) (oo : Oper) (a : Act) (K : Act → World → Prop) (Q : Exit → Act → World → Prop) (E : Prop) (hgd : oo.guard = none) (ho : oo.op = Op.call { callee := Callee.builtin Builtin.append, args := #[.tmp 83, .tmp 89], argTypes := #[25, 25] }) => step_app11 (ops := ops) (o := oo) (a := a) (K := K) (Q := Q) (E := E) w hgd (.tmp 83) (.tmp 89) ho W3.heap.size v l X)
            have OW := Lib.hid O2
            have NB := Lib.hid (blk_lit wr 52 [.string nn, .int .i64 fr, .int .i64 last, .int .i64 rmo, .int .i64 rki, .int .i64 rwd, .int .i64 rda, .int .i64 rti, .int .i64 rre, .int .i64 save, .string le])
            have KK := Lib.hid (fun W' (h : Below wr.heap.size wr W') => K2.below h)
            have S3 : W3.heap.size ≤ wr.heap.size := Nat.le_trans hsz hb2.size
            have FIN := Lib.hid (fun (X0 w4 : World) (v' : Value) (HX : Below wr.heap.size wr X0) (ow : OwnR w4 W3.heap.size v' (l ++ [X])) (gr : X0.grownBy w4 v.ownBlock) => (KK.out X0 HX).grownB gr (fun r e => (World.ownsRow.lt OW.out r e).1) (LB.out v) SZ.out)
            go_wp2_with fail
            go_region_law ((refine HT.out _ _ _ _ _ _ _ (by rfl) (by rfl) (by rfl) (by repeat (first | with_reducible exact OW.out | with_reducible refine World.ownsRow.drew ?_ | with_reducible refine World.ownsRow.alloc ?_ _)) ⟨wr.heap.size, 0, none⟩ (by rfl) (fun j u hu => blk_news (by repeat (first | with_reducible exact NB.out | with_reducible refine Blk.drew ?_)) j u (by rw [XV.out] at hu; exact hu)) (by omega) (by first | exact S3 | exact Nat.le_trans S3 (by simp)) ?_; intro g4 cap4 w4 ow gr; have K4 := FIN.out _ w4 _ (by repeat (first | with_reducible exact Below.refl _ _ | with_reducible refine Below.drew ?_ | with_reducible refine Below.alloc ?_ (Nat.le_refl _) _)) ow gr; obtain ⟨_, s0, s1, s2, t0, t1, t2⟩ := K4.head.three))
            all_goals
              go_wp2_with fail
              have S4 := Nat.le_trans hsz (Nat.le_trans hb2.size (Nat.le_trans (by first | exact Nat.le_refl _ | simp) gr.size))
              have KF := K4.one 0 (.slice (some ⟨g4, 0, none⟩) (l.length + 1) cap4) (K4.head.at0t _) wq (NQ.out v)
              have OF := ow.store (q := qz + 1) lo9 0 (.slice (some ⟨g4, 0, none⟩) (l.length + 1) cap4)
              go_roundw
              case rel => exact ⟨i + 1, _, l ++ [X], by omega, int_eqS (by omega), N2, by rw [List.length_append, List.length_singleton]; omega, Nat.le_trans S4 (by simp [World.setCell]), OF, KF⟩
              case measure => simp only [intOf]; omega
    · have EL : l = partL L es := by have := HR.out; rw [List.take_of_length_le (by rw [LN.out]; omega)] at this; exact this
      subst EL
      obtain ⟨A1, c1, rfl, hv1⟩ := HO.rulv
      clear HO HR hl
      clear hv1
      go_wp2_with (first
        | (go_at_call 14; refine (RG.out _ KB.hb).mono ?_; rintro e9 W4 ⟨rfl, hk⟩; replace KB := KB.below hk; clear RG hk x0 x1 x2)
        | (go_at_call 9; refine (AL.out _ (MO.out _ _ LQ KB.hb)).mono ?_; rintro e9 W9 ⟨rfl, hk⟩; replace KB := KB.below hk; clear hk))
      go_ret
      exact ⟨rfl, KB.hb⟩
theorem eraAt_mem {L : List Rl} {T : Int} : ∀ {l : List Er} {x : Er}, eraAt L T l = some x → x ∈ l
  | [], x, h => by cases h
  | y :: r, x, h => by
    unfold eraAt at h
    split at h
    · cases h; exact List.mem_cons_self ..
    · exact List.mem_cons_of_mem _ (eraAt_mem h)
theorem used_mem {es : List Er} {e : Er} (h : e ∈ es) {nm : ByteArray} (k : nm = e.rules) : usedB es nm = true := by
  unfold usedB
  exact List.any_eq_true.2 ⟨e, h, decide_eq_true k.symm⟩
theorem atE_part {abbr : ByteArray → ByteArray → Int → Int → ByteArray} (L : List Rl) (es : List Er) (T : Int) : atE abbr (partL L es) es T = atE abbr L es T := by
  have h : eraAt (partL L es) T es = eraAt L T es := eraAt_alone fun e he x _ hn => used_mem he hn
  unfold atE
  rw [h]
  cases e : eraAt L T es with
  | none => rfl
  | some x => exact phE_alone fun y _ hn => used_mem (eraAt_mem e) hn
theorem part_ok {S : Sr} (h : S.ok) {zn : Zn} (hz : zn ∈ S.zones) (es : List Er) : (Sr.mk (partL S.rules es) [zn] []).ok := by
  refine ⟨Nat.le_trans (List.length_filter_le _ _) h.1, by show 1 ≤ 50; decide, by show 0 ≤ 100; decide, fun x hx => h.2.2.2.1 x (List.mem_filter.1 hx).1, fun z hz' => ?_, fun x hx => absurd hx (by simp)⟩
  have hz' : z ∈ [zn] := hz'
  rw [List.mem_singleton] at hz'
  subst hz'
  exact h.2.2.2.2.1 _ hz
theorem part_in {S : Sr} (h : S.in64) {zn : Zn} (hz : zn ∈ S.zones) (es : List Er) : (Sr.mk (partL S.rules es) [zn] []).in64 := by
  refine ⟨fun x hx => h.1 x (List.mem_filter.1 hx).1, fun z hz' => ?_, fun x hx => absurd hx (by simp)⟩
  have hz' : z ∈ [zn] := hz'
  rw [List.mem_singleton] at hz'
  subst hz'
  exact h.2.1 _ hz
theorem aloneL12 {Q : World → Prop} (C' : ErasQ Q) (S : Sr) (a b c : Hd) (ze : List Ze) (z T : Int) (w : World) (hv : SrcV w S a b c ze) (hx : S.in64) (_hz : In64 z) (hT : In64 T) (LQ : Q w) : Calls Tryz.prog 7 #[.agg #[a.val, b.val, c.val], .int .i64 z, .int .i64 T] w (RetV w (.bool true)) := by
  have MO := Lib.hid C'.mono
  have AL := Lib.hid (fun W q => alive12 C' W q)
  have hn : ze.length = b.n := by have := hv.zones.len; simpa using this
  have PR := fun W (h : Below w.heap.size w W) (q : Q W) => C'.at_ S a b c ze z T hT W (hv.below h) hx q
  have RG := fun W (h : Below w.heap.size w W) => srcRightDR S a b c ze W (hv.below h) hx
  have hq := hv
  obtain ⟨A, n, c'⟩ := a
  obtain ⟨B, m, d⟩ := b
  obtain ⟨C, q, e⟩ := c
  replace hn : ze.length = m := hn
  have GR := fun W (h : Below w.heap.size w W) => greatE S A B C n c' m d q e ze W (hq.below h)
  cases hg : gB n m q ze with
  | true =>
    rw [hg] at GR
    exact ln_0 MO AL w LQ A B C n c' m d q e z T (Lib.hid GR)
  | false =>
    have n40 := gB_no hg
    rw [hg] at GR
    by_cases h0 : z < 0
    · exact ln_1 MO AL w LQ A B C n c' m d q e z T (decide_eq_true h0) (Lib.hid GR)
    · by_cases h1 : z ≥ (m : Int)
      · exact ln_2 MO AL w LQ A B C n c' m d q e z T (decide_eq_false h0) (decide_eq_true h1) (Lib.hid GR)
      · obtain ⟨p, hp⟩ : ∃ p, ze[z.toNat]? = some p := ⟨_, List.getElem?_eq_getElem (by omega)⟩
        obtain ⟨g, o, eB, hgg, ca⟩ := hq.zones.cells (by show 0 < m; omega)
        have eB : B = some ⟨g, o, none⟩ := eB
        subst eB
        have ra := row_at ca (show (ze.map Ze.vals)[z.toNat]? = some (Ze.vals p) by rw [List.getElem?_map, hp]; rfl)
        have er : eraRows w p := hq.eras p (List.mem_of_getElem? hp)
        have zz : ((z.toNat : Nat) : Int) = z := by omega
        have hzn : p.1 ∈ S.zones := by rw [← hq.all]; exact List.mem_map_of_mem (List.mem_of_getElem? hp)
        cases hk : okSr S with
        | false =>
          rw [hk] at RG
          rw [zoneAt_bad hk] at PR
          obtain ⟨⟨nm, es⟩, ⟨Z, u, cu⟩⟩ := p
          rw [← zz] at PR ⊢
          exact ln_bad MO AL w LQ g o A C n c' m d q e z.toNat T (by omega) hq.zones.cap hq.zones.max hgg nm Z u cu es S.rules n40 (Lib.hid hq.rules) (Lib.hid er) (Lib.hid (ra 0 _ rfl)) (Lib.hid (ra 1 _ rfl)) (Lib.hid GR) (Lib.hid PR) (Lib.hid RG)
        | true =>
          rw [hk] at RG
          rw [zoneAt_hit hk h0 hp] at PR
          have PR2 : ∀ W, Below w.heap.size w W → Q W → Calls Tryz.prog 18 _ W (RetPB W (atE abbrB S.rules p.1.eras T) true) := PR
          clear PR
          have ok := ok_of hk
          obtain ⟨ph, hph⟩ : ∃ ph, atE abbrB S.rules p.1.eras T = ph := ⟨_, rfl⟩
          rw [hph] at PR2
          obtain ⟨po, ps, pa⟩ := ph
          obtain ⟨⟨nm, es⟩, ⟨Z, u, cu⟩⟩ := p
          have AX : ∀ A' c1 qz W, RulV W A' (partL S.rules es).length c1 (partL S.rules es) → Blk W qz [.string nm, .slice Z u cu] → Below w.heap.size w W → Q W → Calls Tryz.prog 18 #[.agg #[.slice A' (partL S.rules es).length c1, .slice (some ⟨qz, 0, none⟩) 1 1, .slice none 0 0], .int .i64 0, .int .i64 T] W (RetPB W ⟨po, ps, pa⟩ true) := fun A' c1 qz W hr hb hw hqW => by
            have vz : Rs 2 W (some ⟨qz, 0, none⟩) 1 1 ([((⟨nm, es⟩ : Zn), (⟨Z, u, cu⟩ : Hd))].map Ze.vals) := Rs.ofBlk (l := [((⟨nm, es⟩ : Zn), (⟨Z, u, cu⟩ : Hd))].map Ze.vals) hb (by intro x hx; obtain ⟨y, _, rfl⟩ := List.mem_map.1 hx; rfl) rfl (by unfold maxLen; decide)
            have hv2 : SrcV W ⟨partL S.rules es, [⟨nm, es⟩], []⟩ ⟨A', (partL S.rules es).length, c1⟩ ⟨some ⟨qz, 0, none⟩, 1, 1⟩ ⟨none, 0, 0⟩ [(⟨nm, es⟩, ⟨Z, u, cu⟩)] :=
              ⟨hr, vz, Rs.nil 2 _, fun p hp => by obtain rfl : p = _ := List.mem_singleton.1 hp; exact er.below hw, rfl⟩
            have t := C'.at_ _ _ _ _ _ 0 T hT W hv2 (part_in hx hzn es) hqW
            rw [zoneAt_hit (okSr_yes (part_ok ok hzn es)) (by decide) (show ([((⟨nm, es⟩ : Zn), (⟨Z, u, cu⟩ : Hd))] : List Ze)[(0 : Int).toNat]? = some _ from rfl)] at t
            rw [show atO abbrB (partL S.rules es) (some ((⟨nm, es⟩ : Zn), (⟨Z, u, cu⟩ : Hd))) T = _ from (atE_part S.rules es T).trans hph] at t
            exact t
          rw [← zz] at PR2 ⊢
          exact ln_ok MO AL w LQ g o A C n c' m d q e z.toNat T (by omega) hq.zones.cap hq.zones.max hgg nm Z u cu es S.rules n40 po ps pa (Lib.hid hq.rules) (Lib.hid er) (Lib.hid (ra 0 _ rfl)) (Lib.hid (ra 1 _ rfl)) (Lib.hid GR) (Lib.hid PR2) (Lib.hid RG) (Lib.hid AX)
end Go.Proofs.YtallclimljiplaaGreatDoor
