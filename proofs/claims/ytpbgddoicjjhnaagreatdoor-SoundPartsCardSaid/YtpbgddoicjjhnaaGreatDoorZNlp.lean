/- Stage 13's law SoundParts. -/
import Derived.Test.YtpbgddoicjjhnaaGreatDoorZGnm
import Derived.Test.YtpbgddoicjjhnaaGreatDoorZGhe
import Derived.Test.YtpbgddoicjjhnaaGreatDoorZGtb
import Derived.Deep.AppendLies
import Derived.Deep.RegionLaw
import Derived.BigQuiet
import Derived.WalkKit
set_option maxRecDepth 100000
set_option maxHeartbeats 64000000
namespace Go.Proofs.YtpbgddoicjjhnaaGreatDoor
open Go.RowKit
theorem BK.grownB {w W W' : World} {L : List (Nat × List Value)} {row : Option Nat} {lo : Nat} (h : BK w L W) (G : W.grownBy W' row) (hr : ∀ r, row = some r → lo ≤ r) (hl : ∀ x ∈ L, x.1 < lo) (hw : w.heap.size ≤ lo) : BK w L W' :=
  ⟨fun x hx => blk_grown G (fun r e => by have h1 := hr r e; have h2 := hl x hx; omega) (h.al x hx), below_grown G (fun r e => Nat.le_trans hw (hr r e)) h.hb (Nat.le_refl _)⟩
theorem Blk.at0t {W : World} {b : Nat} {u v x : Value} (h : Blk W b [u, v, x]) (z : Value) : Blk (W.setCell ⟨b, 0, none⟩ z) b [z, v, x] := by
  obtain ⟨lt, a0, a1, a2, f0, f1, f2⟩ := h.three
  exact ⟨by simpa [World.setCell] using lt, World.cell?_setCell_same _ _ _ a0, by simpa using f0, by rw [World.cell?_setCell_other _ _ _ _ (by simp)]; exact a1, by simpa using f1, by rw [World.cell?_setCell_other _ _ _ _ (by simp)]; exact a2, by simpa using f2, trivial⟩
theorem setCell_grown (W : World) (q o : Nat) (v : Value) : W.grownBy (W.setCell ⟨q, o, none⟩ v) (some q) :=
  ⟨rfl, rfl, rfl, by simp [World.setCell], fun k _ ne => Below.heap_setCell W ⟨q, o, none⟩ v k (fun e => ne (by rw [e]))⟩
theorem OwnR.store {W : World} {base q : Nat} {v : Value} {l : List Rl} (h : OwnR W base v l) (hq : q < base) (o : Nat) (u : Value) : OwnR (W.setCell ⟨q, o, none⟩ u) base v l :=
  World.ownsRow.kept h (setCell_grown W q o u) (by
    cases e : v.ownBlock with
    | none => exact .inl rfl
    | some r => exact .inr (fun c => by
        have h1 := (World.ownsRow.lt h r e).1
        have h2 : r = q := Option.some.inj c
        omega))
theorem step_app11 (w : World) {ops : Array Oper} {o : Oper} {a : Act} {K : Act → World → Prop} {Q : Exit → Act → World → Prop} {E : Prop} (hgd : o.guard = none) (s x : Operand)
    (ho : o.op = .call { callee := .builtin .append, args := #[s, x], argTypes := #[22, 22] })
    (base : Nat) (v : Value) (l : List Rl) (X : Rl) (hs : a.eval s = v) (hown : OwnR w base v l) (ad : Addr) (hx : a.eval x = .slice (some ad) 1 1)
    (hnews : ∀ j u, X.vals[j]? = some u → w.cell? (ad.add j) = some u) (hle : l.length + 1 ≤ 1000) (hbase : base ≤ w.heap.size)
    (h : ∀ g cap w', OwnR w' base (.slice (some ⟨g, 0, none⟩) (l.length + 1) cap) (l ++ [X]) → w.grownBy w' v.ownBlock → K (a.put o.dst (.slice (some ⟨g, 0, none⟩) (l.length + 1) cap)) w') : if Region.wanted o (yielded ops a.tmps) = true then Oper.wp Tryz.prog o a w K Q else E := by
  obtain ⟨i, hi, hz, hs1, hb⟩ := info_partsR rule_infoR
  refine step_append_lies w hgd s x 22 ho base 47 i _ 11 104 Tryz.underlying22 hi hz hs1 hb rfl (by decide) v l.length (l.flatMap Rl.vals) hs hown ad 1 1 X.vals hx (by rfl) hnews (by
    have := rules_one_cell [X]
    simpa using this) (by decide) (by unfold maxLen; omega) (by omega) hbase _ rfl fun g cap w' h1 h2 _ _ => ?_
  refine h g cap w' ?_ h2
  have e : (l ++ [X]).flatMap Rl.vals = l.flatMap Rl.vals ++ X.vals := by rw [List.flatMap_append]; simp
  have e2 : (l ++ [X]).length = l.length + 1 := by simp
  unfold OwnR
  rw [e, e2]
  exact h1
theorem sp_0 (A B C : Option Addr) (n c m d q e : Nat) (z : Int) (w : World) (LC : Hid (∀ W, Below w.heap.size w W → Calls Tryz.prog 7 #[.agg #[.slice A n c, .slice B m d, .slice C q e]] W (RetLi W n m q))) (AC : Hid (∀ W, Below w.heap.size w W → Calls Tryz.prog 8 #[] W (RetV W (.bool true)))) (er kk av ev : Int) (h0 : er ≠ 0) (CC : Hid (∀ W, Below w.heap.size w W → Calls Tryz.prog 9 #[.agg #[.slice A n c, .slice B m d, .slice C q e]] W (RetV W (.agg #[.int .i64 er, .int .i64 kk, .int .i64 av, .int .i64 ev])))) : Calls Tryz.prog 6 #[.agg #[.slice A n c, .slice B m d, .slice C q e], .int .i64 z] w (RetV w (.bool true)) := by
  go_enter Tryz.func6, Tryz.ntmps6
  go_upto_region 1 with (fail)
  have KB := (BK.nil w).lit [.slice A n c, .slice B m d, .slice C q e] 26
  rw [show ([.slice A n c, .slice B m d, .slice C q e] : List Value).toArray = #[.slice A n c, .slice B m d, .slice C q e] from rfl] at KB
  generalize w.alloc (.cells #[.slice A n c, .slice B m d, .slice C q e] 26) = W at *
  obtain ⟨_, x0, x1, x2, _⟩ := KB.head.three
  go_wp2_with (first | (go_at_call 7; refine (LC.out _ KB.hb).mono ?_; clear LC; rintro e9 W1 ⟨r9, rfl, HL, hk⟩; replace KB := KB.below hk; clear hk x0 x1 x2; obtain ⟨_, x0, x1, x2, _⟩ := KB.head.three; cases r9) | (go_at_call 9; refine (CC.out _ KB.hb).mono ?_; clear CC; rintro e9 W2 ⟨rfl, hk⟩; replace KB := KB.below hk; clear hk x0 x1 x2; obtain ⟨_, x0, x1, x2, _⟩ := KB.head.three) | (go_at_call 8; refine (AC.out _ KB.hb).mono ?_; rintro e9 W8 ⟨rfl, hk⟩; replace KB := KB.below hk; clear hk AC x0 x1 x2; obtain ⟨_, x0, x1, x2, _⟩ := KB.head.three))
  · go_ret
    exact ⟨rfl, KB.hb⟩
  · go_wp2_with (first | (go_at_call 9; refine (CC.out _ KB.hb).mono ?_; clear CC; rintro e9 W2 ⟨rfl, hk⟩; replace KB := KB.below hk; clear hk x0 x1 x2; obtain ⟨_, x0, x1, x2, _⟩ := KB.head.three) | (go_at_call 8; refine (AC.out _ KB.hb).mono ?_; rintro e9 W8 ⟨rfl, hk⟩; replace KB := KB.below hk; clear hk AC x0 x1 x2; obtain ⟨_, x0, x1, x2, _⟩ := KB.head.three))
    go_ret
    exact ⟨rfl, KB.hb⟩
theorem sp_1 (A B C : Option Addr) (n c m d q e : Nat) (z : Int) (w : World) (LC : Hid (∀ W, Below w.heap.size w W → Calls Tryz.prog 7 #[.agg #[.slice A n c, .slice B m d, .slice C q e]] W (RetLi W n m q))) (AC : Hid (∀ W, Below w.heap.size w W → Calls Tryz.prog 8 #[] W (RetV W (.bool true)))) (d0 : decide (z < 0) = true) (CC : Hid (∀ W, Below w.heap.size w W → Calls Tryz.prog 9 #[.agg #[.slice A n c, .slice B m d, .slice C q e]] W (RetV W (.agg #[.int .i64 0, .int .i64 0, .int .i64 0, .int .i64 0])))) : Calls Tryz.prog 6 #[.agg #[.slice A n c, .slice B m d, .slice C q e], .int .i64 z] w (RetV w (.bool true)) := by
  go_enter Tryz.func6, Tryz.ntmps6
  go_upto_region 1 with (fail)
  have KB := (BK.nil w).lit [.slice A n c, .slice B m d, .slice C q e] 26
  rw [show ([.slice A n c, .slice B m d, .slice C q e] : List Value).toArray = #[.slice A n c, .slice B m d, .slice C q e] from rfl] at KB
  generalize w.alloc (.cells #[.slice A n c, .slice B m d, .slice C q e] 26) = W at *
  obtain ⟨_, x0, x1, x2, _⟩ := KB.head.three
  go_wp2_with (first | (go_at_call 7; refine (LC.out _ KB.hb).mono ?_; clear LC; rintro e9 W1 ⟨r9, rfl, HL, hk⟩; replace KB := KB.below hk; clear hk x0 x1 x2; obtain ⟨_, x0, x1, x2, _⟩ := KB.head.three; cases r9) | (go_at_call 9; refine (CC.out _ KB.hb).mono ?_; clear CC; rintro e9 W2 ⟨rfl, hk⟩; replace KB := KB.below hk; clear hk x0 x1 x2; obtain ⟨_, x0, x1, x2, _⟩ := KB.head.three) | (go_at_call 8; refine (AC.out _ KB.hb).mono ?_; rintro e9 W8 ⟨rfl, hk⟩; replace KB := KB.below hk; clear hk AC x0 x1 x2; obtain ⟨_, x0, x1, x2, _⟩ := KB.head.three))
  · go_ret
    exact ⟨rfl, KB.hb⟩
  · go_wp2_with (first | (go_at_call 9; refine (CC.out _ KB.hb).mono ?_; clear CC; rintro e9 W2 ⟨rfl, hk⟩; replace KB := KB.below hk; clear hk x0 x1 x2; obtain ⟨_, x0, x1, x2, _⟩ := KB.head.three) | (go_at_call 8; refine (AC.out _ KB.hb).mono ?_; rintro e9 W8 ⟨rfl, hk⟩; replace KB := KB.below hk; clear hk AC x0 x1 x2; obtain ⟨_, x0, x1, x2, _⟩ := KB.head.three))
    go_ret
    exact ⟨rfl, KB.hb⟩
theorem sp_2 (A B C : Option Addr) (n c m d q e : Nat) (z : Int) (w : World) (LC : Hid (∀ W, Below w.heap.size w W → Calls Tryz.prog 7 #[.agg #[.slice A n c, .slice B m d, .slice C q e]] W (RetLi W n m q))) (AC : Hid (∀ W, Below w.heap.size w W → Calls Tryz.prog 8 #[] W (RetV W (.bool true)))) (d0 : decide (z < 0) = false) (d1 : decide (z ≥ (m : Int)) = true) (CC : Hid (∀ W, Below w.heap.size w W → Calls Tryz.prog 9 #[.agg #[.slice A n c, .slice B m d, .slice C q e]] W (RetV W (.agg #[.int .i64 0, .int .i64 0, .int .i64 0, .int .i64 0])))) : Calls Tryz.prog 6 #[.agg #[.slice A n c, .slice B m d, .slice C q e], .int .i64 z] w (RetV w (.bool true)) := by
  go_enter Tryz.func6, Tryz.ntmps6
  go_upto_region 1 with (fail)
  have KB := (BK.nil w).lit [.slice A n c, .slice B m d, .slice C q e] 26
  rw [show ([.slice A n c, .slice B m d, .slice C q e] : List Value).toArray = #[.slice A n c, .slice B m d, .slice C q e] from rfl] at KB
  generalize w.alloc (.cells #[.slice A n c, .slice B m d, .slice C q e] 26) = W at *
  obtain ⟨_, x0, x1, x2, _⟩ := KB.head.three
  go_wp2_with (first | (go_at_call 7; refine (LC.out _ KB.hb).mono ?_; clear LC; rintro e9 W1 ⟨r9, rfl, HL, hk⟩; replace KB := KB.below hk; clear hk x0 x1 x2; obtain ⟨_, x0, x1, x2, _⟩ := KB.head.three; cases r9) | (go_at_call 9; refine (CC.out _ KB.hb).mono ?_; clear CC; rintro e9 W2 ⟨rfl, hk⟩; replace KB := KB.below hk; clear hk x0 x1 x2; obtain ⟨_, x0, x1, x2, _⟩ := KB.head.three) | (go_at_call 8; refine (AC.out _ KB.hb).mono ?_; rintro e9 W8 ⟨rfl, hk⟩; replace KB := KB.below hk; clear hk AC x0 x1 x2; obtain ⟨_, x0, x1, x2, _⟩ := KB.head.three))
  · go_ret
    exact ⟨rfl, KB.hb⟩
  · go_wp2_with (first | (go_at_call 9; refine (CC.out _ KB.hb).mono ?_; clear CC; rintro e9 W2 ⟨rfl, hk⟩; replace KB := KB.below hk; clear hk x0 x1 x2; obtain ⟨_, x0, x1, x2, _⟩ := KB.head.three) | (go_at_call 8; refine (AC.out _ KB.hb).mono ?_; rintro e9 W8 ⟨rfl, hk⟩; replace KB := KB.below hk; clear hk AC x0 x1 x2; obtain ⟨_, x0, x1, x2, _⟩ := KB.head.three))
    go_ret
    exact ⟨rfl, KB.hb⟩
theorem sp_ok (w : World) (g o : Nat) (A C : Option Addr) (n c m d q e : Nat) (z : Nat) (hz : z < m) (_hm : m ≤ d) (hd : d ≤ maxLen) (hg : g < w.heap.size) (nm : ByteArray) (Z : Option Addr) (u cu : Nat) (es : List Er) (L : List Rl) (n40 : n ≤ 200) (HA : Hid (RulV w A n c L)) (HZ : Hid (Rs 13 w Z u cu (es.map Er.vals))) (Y0 : Hid (w.cell? ⟨g, o + z * 2, none⟩ = some (.string nm))) (Y1 : Hid (w.cell? ⟨g, o + z * 2 + 1, none⟩ = some (.slice Z u cu)))
    (LC : Hid (∀ W, Below w.heap.size w W → Calls Tryz.prog 7 #[.agg #[.slice A n c, .slice (some ⟨g, o, none⟩) m d, .slice C q e]] W (RetLi W n m q))) (AC : Hid (∀ W, Below w.heap.size w W → Calls Tryz.prog 8 #[] W (RetV W (.bool true)))) (CC : Hid (∀ W, Below w.heap.size w W → Calls Tryz.prog 9 #[.agg #[.slice A n c, .slice (some ⟨g, o, none⟩) m d, .slice C q e]] W (RetV W (.agg #[.int .i64 0, .int .i64 0, .int .i64 0, .int .i64 0]))))
    (CX : Hid (∀ A' c1 q W, RulV W A' (partL L es).length c1 (partL L es) → Blk W q [.string nm, .slice Z u cu] → Below w.heap.size w W → Calls Tryz.prog 9 #[.agg #[.slice A' (partL L es).length c1, .slice (some ⟨q, 0, none⟩) 1 1, .slice none 0 0]] W (RetV W (.agg #[.int .i64 0, .int .i64 0, .int .i64 0, .int .i64 0]))))
    (RX : Hid (∀ A' c1 q W, RulV W A' (partL L es).length c1 (partL L es) → Blk W q [.string nm, .slice Z u cu] → Below w.heap.size w W → Calls Tryz.prog 16 #[.agg #[.slice A' (partL L es).length c1, .slice (some ⟨q, 0, none⟩) 1 1, .slice none 0 0]] W (RetV W (.bool true)))) : Calls Tryz.prog 6 #[.agg #[.slice A n c, .slice (some ⟨g, o, none⟩) m d, .slice C q e], .int .i64 (z : Int)] w (RetV w (.bool true)) := by
  have dm : d ≤ 9223372036854775807 := hd
  have um : u ≤ 9223372036854775807 := Nat.le_trans HZ.out.cap HZ.out.max
  have LN := Lib.hid (show L.length = n by have := HA.out.len; simpa using this)
  have LE := Lib.hid (show es.length = u by have := HZ.out.len; simpa using this)
  have d0 : decide ((z : Int) < 0) = false := decide_eq_false (by omega)
  have d1 : decide ((z : Int) ≥ (m : Int)) = false := decide_eq_false (by omega)
  go_enter Tryz.func6, Tryz.ntmps6
  go_upto_region 1 with (fail)
  have KB := (BK.nil w).lit [.slice A n c, .slice (some ⟨g, o, none⟩) m d, .slice C q e] 26
  rw [show ([.slice A n c, .slice (some ⟨g, o, none⟩) m d, .slice C q e] : List Value).toArray = #[.slice A n c, .slice (some ⟨g, o, none⟩) m d, .slice C q e] from rfl] at KB
  generalize w.alloc (.cells #[.slice A n c, .slice (some ⟨g, o, none⟩) m d, .slice C q e] 26) = W at *
  obtain ⟨_, x0, x1, x2, _⟩ := KB.head.three
  go_upto_region 3 with (first | (go_at_call 7; refine (LC.out _ KB.hb).mono ?_; clear LC; rintro e9 W1 ⟨r9, rfl, HL, hk⟩; replace KB := KB.below hk; clear hk x0 x1 x2; obtain ⟨_, x0, x1, x2, _⟩ := KB.head.three; cases r9) | (go_at_call 9; refine (CC.out _ KB.hb).mono ?_; clear CC; rintro e9 W2 ⟨rfl, hk⟩; replace KB := KB.below hk; clear hk x0 x1 x2; obtain ⟨_, x0, x1, x2, _⟩ := KB.head.three) | (go_at_call 8; refine (AC.out _ KB.hb).mono ?_; rintro e9 W8 ⟨rfl, hk⟩; replace KB := KB.below hk; clear hk AC x0 x1 x2; obtain ⟨_, x0, x1, x2, _⟩ := KB.head.three))
  · go_ret
    exact ⟨rfl, KB.hb⟩
  go_upto_region 3 with (first | (go_at_call 9; refine (CC.out _ KB.hb).mono ?_; clear CC; rintro e9 W2 ⟨rfl, hk⟩; replace KB := KB.below hk; clear hk x0 x1 x2; obtain ⟨_, x0, x1, x2, _⟩ := KB.head.three))
  try simp only [show decide (m ≤ z) = false from decide_eq_false (by omega)]
  have y0 := (KB.hb.cell (p := ⟨g, o + z * 2, none⟩) hg).trans Y0.out
  have y1 := (KB.hb.cell (p := ⟨g, o + z * 2 + 1, none⟩) hg).trans Y1.out
  go_upto_region 4 with (fail)
  have lw := KB.head.lt
  replace KB := KB.lit [.string nm, .slice Z u cu] 41
  rw [show ([.string nm, .slice Z u cu] : List Value).toArray = #[.string nm, .slice Z u cu] from rfl] at KB
  replace KB := KB.lit [.slice none 0 0, .slice (some ⟨W2.heap.size, 0, none⟩) 1 1, .slice none 0 0] 26
  rw [show ([.slice none 0 0, .slice (some ⟨W2.heap.size, 0, none⟩) 1 1, .slice none 0 0] : List Value).toArray = #[.slice none 0 0, .slice (some ⟨W2.heap.size, 0, none⟩) 1 1, .slice none 0 0] from rfl] at KB
  have lo9 := KB.head.lt
  have loz := KB.tail.head.lt
  clear x0 x1 x2 y0 y1
  simp only [World.size_alloc] at KB
  generalize (W2.alloc (.cells #[.string nm, .slice Z u cu] 41)).alloc (.cells #[.slice none 0 0, .slice (some ⟨W2.heap.size, 0, none⟩) 1 1, .slice none 0 0] 26) = W3 at *
  simp only [World.size_alloc] at *
  generalize W2.heap.size = qz at *
  have low : w.heap.size < W3.heap.size := KB.tail.tail.head.lt
  have LB := Lib.hid (show ∀ v, ∀ x ∈ ([(qz + 1, [v, .slice (some ⟨qz, 0, none⟩) 1 1, .slice none 0 0]), (qz, [.string nm, .slice Z u cu]), (w.heap.size, [.slice A n c, .slice (some ⟨g, o, none⟩) m d, .slice C q e])] : List (Nat × List Value)), x.1 < W3.heap.size from fun v x hx => by
    simp only [List.mem_cons, List.not_mem_nil, or_false] at hx
    rcases hx with rfl | rfl | rfl
    · exact lo9
    · exact loz
    · exact low)
  have NQ := Lib.hid (show ∀ v, ∀ y ∈ ([(qz + 1, [v, .slice (some ⟨qz, 0, none⟩) 1 1, .slice none 0 0]), (qz, [.string nm, .slice Z u cu]), (w.heap.size, [.slice A n c, .slice (some ⟨g, o, none⟩) m d, .slice C q e])] : List (Nat × List Value)).tail, qz + 1 ≠ y.1 from fun v y hy => by
    simp only [List.tail_cons, List.mem_cons, List.not_mem_nil, or_false] at hy
    rcases hy with rfl | rfl
    · show ¬ _ = _; simp only []; omega
    · show ¬ _ = _; simp only []; omega)
  have wq : w.heap.size ≤ qz + 1 := by omega
  have SZ := Lib.hid (Nat.le_of_lt low)
  go_wp2_with fail
  go_loopw [6] (fun v6 wr => ∃ (i : Nat) (v : Value) (l : List Rl), i ≤ n ∧ v6 = .int .i64 i ∧ Hid (l = partL (L.take i) es) ∧ l.length ≤ i ∧ W3.heap.size ≤ wr.heap.size ∧ OwnR wr W3.heap.size v l ∧ BK w [(qz + 1, [v, .slice (some ⟨qz, 0, none⟩) 1 1, .slice none 0 0]), (qz, [.string nm, .slice Z u cu]), (w.heap.size, [.slice A n c, .slice (some ⟨g, o, none⟩) m d, .slice C q e])] wr) (fun v _ => n - (intOf v).toNat)
  case atStart => exact ⟨0, .slice none 0 0, [], by omega, rfl, Lib.hid rfl, Nat.le_refl _, Nat.le_refl _, OwnR.nil _ _, KB⟩
  case round =>
    clear KB
    obtain ⟨i, v, l, hi, rfl, HR, hl, hsz, HO, KB⟩ := hrel
    obtain ⟨wa, rfl⟩ : ∃ wa, wa = wr := ⟨wr, rfl⟩
    obtain ⟨_, x0, x1, x2, _⟩ := (KB.tail.tail.head).three
    by_cases h4 : i < n
    · obtain ⟨x, hxx⟩ : ∃ x, L[i]? = some x := ⟨_, List.getElem?_eq_getElem (by rw [LN.out]; exact h4)⟩
      obtain ⟨g3, o3, ea0, hg3, ca⟩ := (HA.out.below KB.hb).cells (by omega)
      have RA := Lib.hid (fun W (h : Below wa.heap.size wa W) (j : Nat) (u : Value) (hu : x.vals[j]? = some u) => (h.cell (p := ⟨g3, o3 + i * 11 + j, none⟩) hg3).trans (row_at ca (show (L.map Rl.vals)[i]? = some (Rl.vals x) by rw [List.getElem?_map, hxx]; rfl) j u hu))
      subst ea0
      have HN := part_step (es := es) hxx
      rw [← HR.out] at HN
      clear HR ca hxx
      obtain ⟨X, hX⟩ : ∃ X, X = x := ⟨_, rfl⟩
      rw [← hX] at HN
      replace HN := Lib.hid HN
      have HX := Lib.hid hX
      clear hX
      obtain ⟨nn, fr, last, ⟨rmo, rki, rwd, rda, rti, rre⟩, save, le⟩ := x
      have XN := Lib.hid (show X.name = nn by rw [HX.out])
      have XV := Lib.hid (show X.vals = [.string nn, .int .i64 fr, .int .i64 last, .int .i64 rmo, .int .i64 rki, .int .i64 rwd, .int .i64 rda, .int .i64 rti, .int .i64 rre, .int .i64 save, .string le] by rw [HX.out]; rfl)
      clear HX
      go_wp2_with fail
      go_loopw [7, 8] (fun v7 v8 wr2 => ∃ (k : Nat) (b : Bool), k ≤ u ∧ v7 = .bool b ∧ v8 = .int .i64 k ∧ Hid (b = usedB (es.take k) nn) ∧ Below wa.heap.size wa wr2) (fun _ v _ => u - (intOf v).toNat)
      case atStart => exact ⟨0, false, by omega, rfl, rfl, Lib.hid rfl, Below.refl _ _⟩
      case round =>
        obtain ⟨k, b, hk, rfl, rfl, HB, hb2⟩ := hrel
        have K2 := KB.below hb2
        have kw := K2.hb
        have y1 := (kw.cell (p := ⟨g, o + z * 2 + 1, none⟩) hg).trans Y1.out
        clear x0 x1 x2
        obtain ⟨_, x0, x1, x2, _⟩ := (K2.tail.tail.head).three
        by_cases h5 : k < u
        · obtain ⟨e0, hee⟩ : ∃ e0, es[k]? = some e0 := ⟨_, List.getElem?_eq_getElem (by rw [LE.out]; exact h5)⟩
          have US := used_step hee nn
          rw [← HB.out] at US
          have US := Lib.hid US
          obtain ⟨g2, o2, eZ, hg2, _, rx⟩ := era_rows (HZ.out.below kw) hee
          have e3 : wr.cell? ⟨g2, o2 + k * 13 + 3, none⟩ = some (.string e0.rules) := rx 3 _ rfl
          have rn : wr.cell? ⟨g3, o3 + i * 11, none⟩ = some (.string nn) := RA.out wr hb2 0 _ rfl
          have q6 : (e0.rules.toList == nn.toList) = decide (e0.rules = nn) := toList_beqT _ _
          clear rx hee HB
          generalize e0.rules = er at *
          subst eZ
          cases b with
          | true =>
            have N2 : Hid (true = usedB (es.take (k + 1)) nn) := Lib.hid (by rw [US.out]; rfl)
            clear US q6 e3 rn
            go_wp2_with fail
            go_quiet (fail)
            rename_i nq
            go_wp2_with fail
            go_roundw
            case rel => exact ⟨k + 1, true, by omega, rfl, int_eqS (by omega), N2, below_drewN hb2 nq⟩
            case measure => simp only [intOf]; omega
          | false =>
            by_cases h6 : er = nn
            · have N2 : Hid (true = usedB (es.take (k + 1)) nn) := Lib.hid (by rw [US.out, decide_eq_true h6]; rfl)
              replace q6 : (er.toList == nn.toList) = true := by rw [q6, decide_eq_true h6]
              clear US h6
              go_wp2_with fail
              go_quiet (fail)
              rename_i nq
              go_wp2_with fail
              go_roundw
              case rel => exact ⟨k + 1, true, by omega, rfl, int_eqS (by omega), N2, below_drewN hb2 nq⟩
              case measure => simp only [intOf]; omega
            · have N2 : Hid (false = usedB (es.take (k + 1)) nn) := Lib.hid (by rw [US.out, decide_eq_false h6]; rfl)
              replace q6 : (er.toList == nn.toList) = false := by rw [q6, decide_eq_false h6]
              clear US h6
              go_wp2_with fail
              go_quiet (fail)
              rename_i nq
              go_wp2_with fail
              go_roundw
              case rel => exact ⟨k + 1, false, by omega, rfl, int_eqS (by omega), N2, below_drewN hb2 nq⟩
              case measure => simp only [intOf]; omega
        · obtain rfl : k = u := by omega
          have UE := Lib.hid (show b = usedB es nn from by have := HB.out; rw [← LE.out, List.take_length] at this; exact this)
          have O2 := HO.kept hb2
          clear HB
          cases b with
          | false =>
            have N2 : Hid (l = partL (L.take (i + 1)) es) := Lib.hid (by have := HN.out; rw [XN.out, if_neg (by rw [← UE.out]; decide)] at this; exact this.symm)
            clear HN UE
            go_wp2_with fail
            go_roundw
            case rel => exact ⟨i + 1, v, l, by omega, int_eqS (by omega), N2, by omega, Nat.le_trans hsz hb2.size, O2, K2⟩
            case measure => simp only [intOf]; omega
          | true =>
            have N2 : Hid (l ++ [X] = partL (L.take (i + 1)) es) := Lib.hid (by have := HN.out; rw [XN.out, if_pos UE.out.symm] at this; exact this.symm)
            clear HN UE
            obtain ⟨_, p0, p1, p2, f0, f1, f2⟩ := K2.head.three
            have r0 : wr.cell? ⟨g3, o3 + i * 11, none⟩ = some (.string nn) := RA.out wr hb2 0 _ rfl
            have r1 : wr.cell? ⟨g3, o3 + i * 11 + 1, none⟩ = some (.int .i64 fr) := RA.out wr hb2 1 _ rfl
            have r2 : wr.cell? ⟨g3, o3 + i * 11 + 2, none⟩ = some (.int .i64 last) := RA.out wr hb2 2 _ rfl
            have r3 : wr.cell? ⟨g3, o3 + i * 11 + 3, none⟩ = some (.int .i64 rmo) := RA.out wr hb2 3 _ rfl
            have r4 : wr.cell? ⟨g3, o3 + i * 11 + 4, none⟩ = some (.int .i64 rki) := RA.out wr hb2 4 _ rfl
            have r5 : wr.cell? ⟨g3, o3 + i * 11 + 5, none⟩ = some (.int .i64 rwd) := RA.out wr hb2 5 _ rfl
            have r6 : wr.cell? ⟨g3, o3 + i * 11 + 6, none⟩ = some (.int .i64 rda) := RA.out wr hb2 6 _ rfl
            have r7 : wr.cell? ⟨g3, o3 + i * 11 + 7, none⟩ = some (.int .i64 rti) := RA.out wr hb2 7 _ rfl
            have r8 : wr.cell? ⟨g3, o3 + i * 11 + 8, none⟩ = some (.int .i64 rre) := RA.out wr hb2 8 _ rfl
            have r9 : wr.cell? ⟨g3, o3 + i * 11 + 9, none⟩ = some (.int .i64 save) := RA.out wr hb2 9 _ rfl
            have r10 : wr.cell? ⟨g3, o3 + i * 11 + 10, none⟩ = some (.string le) := RA.out wr hb2 10 _ rfl
            have HT := Lib.hid (fun (w : World) (ops : Array Oper) (oo : Oper) (a : Act) (K : Act → World → Prop) (Q : Exit → Act → World → Prop) (E : Prop) (hgd : oo.guard = none) (ho : oo.op = Op.call { callee := Callee.builtin Builtin.append, args := #[.tmp 77, .tmp 83], argTypes := #[22, 22] }) => step_app11 (ops := ops) (o := oo) (a := a) (K := K) (Q := Q) (E := E) w hgd (.tmp 77) (.tmp 83) ho W3.heap.size v l X)
            have OW := Lib.hid O2
            have NB := Lib.hid (blk_lit wr 47 [.string nn, .int .i64 fr, .int .i64 last, .int .i64 rmo, .int .i64 rki, .int .i64 rwd, .int .i64 rda, .int .i64 rti, .int .i64 rre, .int .i64 save, .string le])
            have KK := Lib.hid (fun W' (h : Below wr.heap.size wr W') => K2.below h)
            have S3 : W3.heap.size ≤ wr.heap.size := Nat.le_trans hsz hb2.size
            have FIN := Lib.hid (fun (X0 w4 : World) (v' : Value) (HX : Below wr.heap.size wr X0) (ow : OwnR w4 W3.heap.size v' (l ++ [X])) (gr : X0.grownBy w4 v.ownBlock) => (KK.out X0 HX).grownB gr (fun r e => (World.ownsRow.lt OW.out r e).1) (LB.out v) SZ.out)
            go_wp2_with fail
            go_region_law ((refine HT.out _ _ _ _ _ _ _ (by rfl) (by rfl) (by rfl) (by repeat (first | with_reducible exact OW.out | with_reducible refine World.ownsRow.drew ?_ | with_reducible refine World.ownsRow.alloc ?_ _)) ⟨wr.heap.size, 0, none⟩ (by rfl) (fun j u hu => blk_news (by repeat (first | with_reducible exact NB.out | with_reducible refine Blk.drew ?_)) j u (by rw [XV.out] at hu; exact hu)) (by omega) (by first | exact S3 | exact Nat.le_trans S3 (by simp)) ?_; intro g4 cap4 w4 ow gr; have K4 := FIN.out _ w4 _ (by repeat (first | with_reducible exact Below.refl _ _ | with_reducible refine Below.drew ?_ | with_reducible refine Below.alloc ?_ (Nat.le_refl _) _)) ow gr; obtain ⟨_, s0, s1, s2, t0, t1, t2⟩ := K4.head.three))
            all_goals
              go_wp2_with fail
              have S4 := Nat.le_trans hsz (Nat.le_trans hb2.size (Nat.le_trans (by first | exact Nat.le_refl _ | simp) gr.size))
              have KF := K4.one 0 (.slice (some ⟨g4, 0, none⟩) (l.length + 1) cap4) (K4.head.at0t _) wq (NQ.out v)
              have OF := ow.store (q := qz + 1) lo9 0 (.slice (some ⟨g4, 0, none⟩) (l.length + 1) cap4)
              go_roundw
              case rel => exact ⟨i + 1, _, l ++ [X], by omega, int_eqS (by omega), N2, by rw [List.length_append, List.length_singleton]; omega, Nat.le_trans S4 (by simp [World.setCell]), OF, KF⟩
              case measure => simp only [intOf]; omega
    · have EL : l = partL L es := by have := HR.out; rw [List.take_of_length_le (by rw [LN.out]; omega)] at this; exact this
      subst EL
      obtain ⟨A1, c1, rfl, hv1⟩ := HO.rulv
      clear HO HR hl
      obtain ⟨_, n0, n1, n2, _⟩ := KB.head.three
      go_wp2_with (first
        | (go_at_call 8; refine (AC.out _ KB.hb).mono ?_; rintro e9 W7 ⟨rfl, hk⟩; replace KB := KB.below hk; replace hv1 := hv1.below hk; clear AC hk x0 x1 x2 n0 n1 n2; obtain ⟨_, n0, n1, n2, _⟩ := KB.head.three)
        | (go_at_call 9; refine (CX.out _ _ _ _ hv1 KB.tail.head KB.hb).mono ?_; rintro e9 W5 ⟨rfl, hk⟩; replace KB := KB.below hk; replace hv1 := hv1.below hk; clear CX hk n0 n1 n2; obtain ⟨_, n0, n1, n2, _⟩ := KB.head.three)
        | (go_at_call 16; refine (RX.out _ _ _ _ hv1 KB.tail.head KB.hb).mono ?_; rintro e9 W4 ⟨rfl, hk⟩; replace KB := KB.below hk; clear RX hk hv1 n0 n1 n2))
      go_ret
      exact ⟨rfl, KB.hb⟩
theorem partsL13 (S : Sr) (a b c : Hd) (ze : List Ze) (z : Int) (w : World) (hv : SrcV w S a b c ze) (hx : S.in64) (_hz : In64 z) (T : ErasM w) : Calls Tryz.prog 6 #[.agg #[a.val, b.val, c.val], .int .i64 z] w (RetV w (.bool true)) := by
  have LC := fun W (h : Below w.heap.size w W) => lightDR S a b c ze W (hv.below h)
  have AC := fun W (h : Below w.heap.size w W) => aliveE W (T.mono h)
  have CC := fun W (h : Below w.heap.size w W) => checkE S a b c ze W (hv.below h) hx (T.mono h)
  have hn : ze.length = b.n := by have := hv.zones.len; simpa using this
  have hr : S.rules.length = a.n := by have := hv.rules.len; simpa using this
  have hq := hv
  obtain ⟨A, n, c'⟩ := a
  obtain ⟨B, m, d⟩ := b
  obtain ⟨C, q, e⟩ := c
  replace hn : ze.length = m := hn
  replace hr : S.rules.length = n := hr
  by_cases h : checkR S = Fw.zero
  · have hc := h
    rw [h] at CC
    obtain ⟨h1, h2⟩ := check_zero2.1 h
    have ok := ok_of h1
    by_cases h0 : z < 0
    · exact sp_1 A B C n c' m d q e z w (Lib.hid LC) (Lib.hid AC) (decide_eq_true h0) (Lib.hid CC)
    · by_cases h1 : z ≥ (m : Int)
      · exact sp_2 A B C n c' m d q e z w (Lib.hid LC) (Lib.hid AC) (decide_eq_false h0) (decide_eq_true h1) (Lib.hid CC)
      · obtain ⟨p, hp⟩ : ∃ p, ze[z.toNat]? = some p := ⟨_, List.getElem?_eq_getElem (by omega)⟩
        obtain ⟨g, o, eB, hgg, ca⟩ := hq.zones.cells (by show 0 < m; omega)
        have eB : B = some ⟨g, o, none⟩ := eB
        subst eB
        have ra := row_at ca (show (ze.map Ze.vals)[z.toNat]? = some (Ze.vals p) by rw [List.getElem?_map, hp]; rfl)
        have er : eraRows w p := hq.eras p (List.mem_of_getElem? hp)
        have zz : ((z.toNat : Nat) : Int) = z := by omega
        have hzn : p.1 ∈ S.zones := by rw [← hq.all]; exact List.mem_map_of_mem (List.mem_of_getElem? hp)
        have pc := part_check hc hzn
        obtain ⟨⟨nm, es⟩, ⟨Z, u, cu⟩⟩ := p
        have VX : ∀ A' c1 qz W, RulV W A' (partL S.rules es).length c1 (partL S.rules es) → Blk W qz [.string nm, .slice Z u cu] → Below w.heap.size w W → SrcV W ⟨partL S.rules es, [⟨nm, es⟩], []⟩ ⟨A', (partL S.rules es).length, c1⟩ ⟨some ⟨qz, 0, none⟩, 1, 1⟩ ⟨none, 0, 0⟩ [(⟨nm, es⟩, ⟨Z, u, cu⟩)] := fun A' c1 qz W hr hb hw => by
          have vz : Rs 2 W (some ⟨qz, 0, none⟩) 1 1 ([((⟨nm, es⟩ : Zn), (⟨Z, u, cu⟩ : Hd))].map Ze.vals) := Rs.ofBlk (l := [((⟨nm, es⟩ : Zn), (⟨Z, u, cu⟩ : Hd))].map Ze.vals) hb (by intro x hx; obtain ⟨y, _, rfl⟩ := List.mem_map.1 hx; rfl) rfl (by unfold maxLen; decide)
          exact ⟨hr, vz, Rs.nil 2 _, fun p hp => by obtain rfl : p = _ := List.mem_singleton.1 hp; exact er.below hw, rfl⟩
        have ix := part_in hx hzn es
        have CX : ∀ A' c1 qz W, RulV W A' (partL S.rules es).length c1 (partL S.rules es) → Blk W qz [.string nm, .slice Z u cu] → Below w.heap.size w W → Calls Tryz.prog 9 #[.agg #[.slice A' (partL S.rules es).length c1, .slice (some ⟨qz, 0, none⟩) 1 1, .slice none 0 0]] W (RetV W (.agg #[.int .i64 0, .int .i64 0, .int .i64 0, .int .i64 0])) := fun A' c1 qz W hr hb hw => by
          have t := checkE _ _ _ _ _ W (VX A' c1 qz W hr hb hw) ix (T.mono hw)
          rw [pc] at t
          exact t
        have RX : ∀ A' c1 qz W, RulV W A' (partL S.rules es).length c1 (partL S.rules es) → Blk W qz [.string nm, .slice Z u cu] → Below w.heap.size w W → Calls Tryz.prog 16 #[.agg #[.slice A' (partL S.rules es).length c1, .slice (some ⟨qz, 0, none⟩) 1 1, .slice none 0 0]] W (RetV W (.bool true)) := fun A' c1 qz W hr hb hw => by
          have t := srcRightDR _ _ _ _ _ W (VX A' c1 qz W hr hb hw) ix
          rw [okSr_yes (part_ok ok hzn es)] at t
          exact t
        rw [← zz]
        exact sp_ok w g o A C n c' m d q e z.toNat (by omega) hq.zones.cap hq.zones.max hgg nm Z u cu es S.rules (by have := ok.1; omega) (Lib.hid hq.rules) (Lib.hid er) (Lib.hid (ra 0 _ rfl)) (Lib.hid (ra 1 _ rfl)) (Lib.hid LC) (Lib.hid AC) (Lib.hid CC) (Lib.hid CX) (Lib.hid RX)
  · exact sp_0 A B C n c' m d q e z w (Lib.hid LC) (Lib.hid AC) _ _ _ _ (check_err h) (Lib.hid CC)
end Go.Proofs.YtpbgddoicjjhnaaGreatDoor
