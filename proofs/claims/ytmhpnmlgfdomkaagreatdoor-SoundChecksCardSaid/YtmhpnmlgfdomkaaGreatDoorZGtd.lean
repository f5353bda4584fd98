import Derived.Test.YtmhpnmlgfdomkaaGreatDoorZGtc
import Derived.Test.YtmhpnmlgfdomkaaGreatDoorZGp
import Derived.Test.YtmhpnmlgfdomkaaGreatDoorZGtb
import Derived.Laws.OwnMore
set_option maxRecDepth 100000
set_option maxHeartbeats 64000000
namespace Go.Proofs.YtmhpnmlgfdomkaaGreatDoor
open Go.RowKit
noncomputable def zoneAt (S : Sr) (ze : List Ze) (z : Int) : Option Ze := if okSr S = true ∧ 0 ≤ z then ze[z.toNat]? else none
noncomputable def eraAtP (S : Sr) (ze : List Ze) (z e : Int) : Option Er := match zoneAt S ze z with | some p => if 0 ≤ e then p.1.eras[e.toNat]? else none | none => none
def RetEs (w : World) (o : Option Ze) (e : Ending) (w' : World) : Prop := e = .returned (match o with | some p => .tuple #[p.2.val, .bool true] | none => .tuple #[.slice none 0 0, .bool false]) ∧ Below w.heap.size w w'
theorem zone_far {S : Sr} {ze : List Ze} {m : Nat} (hn : ze.length = m) {z : Int} (h : ¬ (z < m)) : zoneAt S ze z = none := by
  unfold zoneAt
  by_cases c : okSr S = true ∧ 0 ≤ z
  · rw [if_pos c]; exact List.getElem?_eq_none (by omega)
  · rw [if_neg c]
theorem eo_neg (A B C : Option Addr) (n c m d q e : Nat) (z : Int) (w : World) (h0 : decide (z < 0) = true) : Calls Tryz.prog 133 #[.agg #[.slice A n c, .slice B m d, .slice C q e], .int .i64 z] w (fun e w' => e = .returned (.tuple #[.slice none 0 0, .bool false]) ∧ Below w.heap.size w w') := by
  go_enter Tryz.func133, Tryz.ntmps133
  go_upto_region 1 with (fail)
  have KB := (BK.nil w).lit [.slice A n c, .slice B m d, .slice C q e] 26
  generalize w.alloc (.cells #[.slice A n c, .slice B m d, .slice C q e] 26) = W at *
  obtain ⟨_, x0, x1, x2, _⟩ := (KB.head).three
  go_wp2
  go_ret2
  exact ⟨rfl, KB.hb⟩
theorem eo_far (A B C : Option Addr) (n c m d q e : Nat) (z : Int) (w : World) (h0 : decide (z < 0) = false) (h1 : decide (z ≥ (m : Int)) = true) : Calls Tryz.prog 133 #[.agg #[.slice A n c, .slice B m d, .slice C q e], .int .i64 z] w (fun e w' => e = .returned (.tuple #[.slice none 0 0, .bool false]) ∧ Below w.heap.size w w') := by
  go_enter Tryz.func133, Tryz.ntmps133
  go_upto_region 1 with (fail)
  have KB := (BK.nil w).lit [.slice A n c, .slice B m d, .slice C q e] 26
  generalize w.alloc (.cells #[.slice A n c, .slice B m d, .slice C q e] 26) = W at *
  obtain ⟨_, x0, x1, x2, _⟩ := (KB.head).three
  go_wp2
  go_ret2
  exact ⟨rfl, KB.hb⟩
theorem eo_bad (A B C : Option Addr) (n c m d q e : Nat) (z : Int) (w : World) (h0 : decide (z < 0) = false) (h1 : decide (z ≥ (m : Int)) = false) (RG : Hid (∀ W, Below w.heap.size w W → Calls Tryz.prog 10 #[.agg #[.slice A n c, .slice B m d, .slice C q e]] W (RetV W (.bool false)))) : Calls Tryz.prog 133 #[.agg #[.slice A n c, .slice B m d, .slice C q e], .int .i64 z] w (fun e w' => e = .returned (.tuple #[.slice none 0 0, .bool false]) ∧ Below w.heap.size w w') := by
  go_enter Tryz.func133, Tryz.ntmps133
  go_upto_region 1 with (fail)
  have KB := (BK.nil w).lit [.slice A n c, .slice B m d, .slice C q e] 26
  generalize w.alloc (.cells #[.slice A n c, .slice B m d, .slice C q e] 26) = W at *
  obtain ⟨_, x0, x1, x2, _⟩ := (KB.head).three
  go_wp2_with (go_at_call 10; refine (RG.out _ KB.hb).mono ?_; clear RG; rintro e9 W9 ⟨rfl, hk⟩; replace KB := KB.below hk; clear hk x0 x1 x2; obtain ⟨_, x0, x1, x2, _⟩ := (KB.head).three)
  go_ret2
  exact ⟨rfl, KB.hb⟩
theorem eo_hit (g : Nat) (g0 : Nat) (A C : Option Addr) (n c m d q e : Nat) (z : Nat) (hz : z < m) (_hm : m ≤ d) (hd : d ≤ maxLen) (Z : Option Addr) (u cu : Nat) (w : World) (hg : g < w.heap.size) (c1 : w.cell? ⟨g, g0 + z * 2 + 1, none⟩ = some (.slice Z u cu)) (RG : Hid (∀ W, Below w.heap.size w W → Calls Tryz.prog 10 #[.agg #[.slice A n c, .slice (some ⟨g, g0, none⟩) m d, .slice C q e]] W (RetV W (.bool true)))) : Calls Tryz.prog 133 #[.agg #[.slice A n c, .slice (some ⟨g, g0, none⟩) m d, .slice C q e], .int .i64 (z : Int)] w (fun e w' => e = .returned (.tuple #[.slice Z u cu, .bool true]) ∧ Below w.heap.size w w') := by
  have dm : d ≤ 9223372036854775807 := hd
  have h0 : decide ((z : Int) < 0) = false := decide_eq_false (by omega)
  have h1 : decide ((z : Int) ≥ (m : Int)) = false := decide_eq_false (by omega)
  go_enter Tryz.func133, Tryz.ntmps133
  go_upto_region 1 with (fail)
  have KB := (BK.nil w).lit [.slice A n c, .slice (some ⟨g, g0, none⟩) m d, .slice C q e] 26
  generalize w.alloc (.cells #[.slice A n c, .slice (some ⟨g, g0, none⟩) m d, .slice C q e] 26) = W at *
  obtain ⟨_, x0, x1, x2, _⟩ := (KB.head).three
  go_wp2_with (go_at_call 10; refine (RG.out _ KB.hb).mono ?_; clear RG; rintro e9 W9 ⟨rfl, hk⟩; replace KB := KB.below hk; clear hk x0 x1 x2; obtain ⟨_, x0, x1, x2, _⟩ := (KB.head).three; have y1 := (KB.hb.cell (p := ⟨g, g0 + z * 2 + 1, none⟩) hg).trans c1)
  go_ret2
  exact ⟨rfl, KB.hb⟩
theorem erasOfE (S : Sr) (a b c : Hd) (ze : List Ze) (w : World) (hv : SrcV w S a b c ze) (hx : S.in64) (z : Int) : Calls Tryz.prog 133 #[.agg #[a.val, b.val, c.val], .int .i64 z] w (RetEs w (zoneAt S ze z)) := by
  have hn : ze.length = b.n := by have := hv.zones.len; simpa using this
  have RG := fun W (h : Below w.heap.size w W) => rightSrcP S a b c ze W (hv.below h) hx
  obtain ⟨A, n, c'⟩ := a
  obtain ⟨B, m, d⟩ := b
  obtain ⟨C, q, e⟩ := c
  replace hn : ze.length = m := hn
  by_cases h0 : z < 0
  · rw [show zoneAt S ze z = none by unfold zoneAt; rw [if_neg (by omega)]]
    exact eo_neg A B C n c' m d q e z w (decide_eq_true h0)
  · by_cases h1 : z ≥ (m : Int)
    · rw [show zoneAt S ze z = none from zone_far hn (by omega)]
      exact eo_far A B C n c' m d q e z w (decide_eq_false h0) (decide_eq_true h1)
    · cases hb : okSr S with
      | false =>
        rw [hb] at RG
        rw [show zoneAt S ze z = none by unfold zoneAt; rw [if_neg (by rw [hb]; simp)]]
        exact eo_bad A B C n c' m d q e z w (decide_eq_false h0) (decide_eq_false h1) (Lib.hid RG)
      | true =>
        rw [hb] at RG
        have hz : z.toNat < ze.length := by omega
        obtain ⟨p, hp⟩ : ∃ p, ze[z.toNat]? = some p := ⟨_, List.getElem?_eq_getElem hz⟩
        rw [show zoneAt S ze z = some p by unfold zoneAt; rw [if_pos ⟨hb, by omega⟩]; exact hp]
        obtain ⟨g, o, eB, hg, ca⟩ := hv.zones.cells (by show 0 < m; omega)
        have eB : B = some ⟨g, o, none⟩ := eB
        subst eB
        have ra := row_at ca (show (ze.map Ze.vals)[z.toNat]? = some (Ze.vals p) by rw [List.getElem?_map, hp]; rfl)
        obtain ⟨⟨nm, es⟩, ⟨Z, u, cu⟩⟩ := p
        have c1 : w.cell? ⟨g, o + z.toNat * 2 + 1, none⟩ = some (.slice Z u cu) := ra 1 _ rfl
        have := eo_hit g o A C n c' m d q e z.toNat (by omega) hv.zones.cap hv.zones.max Z u cu w hg c1 (Lib.hid RG)
        rw [show ((z.toNat : Nat) : Int) = z by omega] at this
        exact this
theorem Rs.farF {k : Nat} {W : World} {A : Option Addr} {n c : Nat} {l : List (List Value)} (h : Rs k W A n c l) {lo b : Nat} (f : FreshS lo A) (hb : b < lo) (vs : List Value) : Rs k (setAll W b 0 vs) A n c l :=
  h.far (fun g e => by obtain ⟨g', e', le⟩ := f _ e; cases e'; omega) (fun a e => by obtain ⟨g, e', _⟩ := f a e; exact ⟨g, e'⟩) vs
def zeroX : Value := .agg #[.int .i64 0, .int .i64 0, .int .i64 0, .string ⟨#[]⟩, .string ⟨#[]⟩, .bool false, .int .i64 0, .int .i64 0, .int .i64 0, .int .i64 0, .int .i64 0, .int .i64 0, .int .i64 0, .slice none 0 0]
def RetXB (w : World) (L : List Rl) (o : Option Er) (e : Ending) (w' : World) : Prop := match o with
  | none => e = .returned (.tuple #[zeroX, .bool false]) ∧ Below w.heap.size w w'
  | some x => ∃ X y, e = .returned (.tuple #[x.xval (.slice X (setL L x.rules).length y), .bool true]) ∧ RulV w' X (setL L x.rules).length y (setL L x.rules) ∧ Below w.heap.size w w'
theorem er_none (A B C : Option Addr) (n c m d q e : Nat) (z i : Int) (w : World)  (EO : Hid (∀ W, Below w.heap.size w W → Calls Tryz.prog 133 #[.agg #[.slice A n c, .slice B m d, .slice C q e], .int .i64 z] W (fun e w' => e = .returned (.tuple #[.slice none 0 0, .bool false]) ∧ Below W.heap.size W w'))) : Calls Tryz.prog 116 #[.agg #[.slice A n c, .slice B m d, .slice C q e], .int .i64 z, .int .i64 i] w (fun e w' => e = .returned (.tuple #[.agg #[.int .i64 0, .int .i64 0, .int .i64 0, .string ⟨#[]⟩, .string ⟨#[]⟩, .bool false, .int .i64 0, .int .i64 0, .int .i64 0, .int .i64 0, .int .i64 0, .int .i64 0, .int .i64 0, .slice none 0 0], .bool false]) ∧ Below w.heap.size w w') := by
  go_enter Tryz.func116, Tryz.ntmps116
  go_upto_region 1 with (fail)
  have KB := (BK.nil w).lit [.slice A n c, .slice B m d, .slice C q e] 26
  replace KB := KB.lit [.int .i64 0, .int .i64 0, .int .i64 0, .string ⟨#[]⟩, .string ⟨#[]⟩, .bool false, .int .i64 0, .int .i64 0, .int .i64 0, .int .i64 0, .int .i64 0, .int .i64 0, .int .i64 0, .slice none 0 0] 138
  rw [show ([.int .i64 0, .int .i64 0, .int .i64 0, .string ⟨#[]⟩, .string ⟨#[]⟩, .bool false, .int .i64 0, .int .i64 0, .int .i64 0, .int .i64 0, .int .i64 0, .int .i64 0, .int .i64 0, .slice none 0 0] : List Value).toArray = #[.int .i64 0, .int .i64 0, .int .i64 0, .string ⟨#[]⟩, .string ⟨#[]⟩, .bool false, .int .i64 0, .int .i64 0, .int .i64 0, .int .i64 0, .int .i64 0, .int .i64 0, .int .i64 0, .slice none 0 0] from rfl] at KB
  generalize (w.alloc (.cells #[.slice A n c, .slice B m d, .slice C q e] 26)).alloc (.cells #[.int .i64 0, .int .i64 0, .int .i64 0, .string ⟨#[]⟩, .string ⟨#[]⟩, .bool false, .int .i64 0, .int .i64 0, .int .i64 0, .int .i64 0, .int .i64 0, .int .i64 0, .int .i64 0, .slice none 0 0] 138) = W at *
  simp only [World.size_alloc] at *
  obtain ⟨_, x0, x1, x2, _⟩ := (KB.tail.head).three
  go_wp2_with (go_at_call 133; refine (EO.out _ KB.hb).mono ?_; clear EO; rintro e9 W9 ⟨rfl, hk⟩; replace KB := KB.below hk; clear hk x0 x1 x2; obtain ⟨_, x0, x1, x2, _⟩ := (KB.tail.head).three; obtain ⟨lt, z0, z1, z2, z3, z4, z5, z6, z7, z8, z9, z10, z11, z12, z13, g0, g1, g2, g3, g4, g5, g6, g7, g8, g9, g10, g11, g12, g13⟩ := KB.head.fourteen)
  have KF := KB.put14 (.int .i64 0) (.int .i64 0) (.int .i64 0) (.string ⟨#[]⟩) (.string ⟨#[]⟩) (.bool false) (.int .i64 0) (.int .i64 0) (.int .i64 0) (.int .i64 0) (.int .i64 0) (.int .i64 0) (.int .i64 0) (.slice none 0 0) (by omega) (by intro y hy; simp only [List.mem_cons, List.not_mem_nil, or_false] at hy; subst hy; (show ¬ _ = _; first | omega | (simp only []; omega)))
  obtain ⟨_, P0, P1, P2, P3, P4, P5, P6, P7, P8, P9, P10, P11, P12, P13, _⟩ := KF.head.fourteen
  exact bodyPost_ret (v := .tuple #[.agg #[.int .i64 0, .int .i64 0, .int .i64 0, .string ⟨#[]⟩, .string ⟨#[]⟩, .bool false, .int .i64 0, .int .i64 0, .int .i64 0, .int .i64 0, .int .i64 0, .int .i64 0, .int .i64 0, .slice none 0 0], .bool false]) (by simp [results, Tryz.results116, go_sem, P0, P1, P2, P3, P4, P5, P6, P7, P8, P9, P10, P11, P12, P13]) rfl ⟨rfl, KF.hb⟩
theorem er_neg (A B C : Option Addr) (n c m d q e : Nat) (z i : Int) (w : World) (Z : Option Addr) (u cu : Nat) (h0 : decide (i < 0) = true) (EO : Hid (∀ W, Below w.heap.size w W → Calls Tryz.prog 133 #[.agg #[.slice A n c, .slice B m d, .slice C q e], .int .i64 z] W (fun e w' => e = .returned (.tuple #[.slice Z u cu, .bool true]) ∧ Below W.heap.size W w'))) : Calls Tryz.prog 116 #[.agg #[.slice A n c, .slice B m d, .slice C q e], .int .i64 z, .int .i64 i] w (fun e w' => e = .returned (.tuple #[.agg #[.int .i64 0, .int .i64 0, .int .i64 0, .string ⟨#[]⟩, .string ⟨#[]⟩, .bool false, .int .i64 0, .int .i64 0, .int .i64 0, .int .i64 0, .int .i64 0, .int .i64 0, .int .i64 0, .slice none 0 0], .bool false]) ∧ Below w.heap.size w w') := by
  go_enter Tryz.func116, Tryz.ntmps116
  go_upto_region 1 with (fail)
  have KB := (BK.nil w).lit [.slice A n c, .slice B m d, .slice C q e] 26
  replace KB := KB.lit [.int .i64 0, .int .i64 0, .int .i64 0, .string ⟨#[]⟩, .string ⟨#[]⟩, .bool false, .int .i64 0, .int .i64 0, .int .i64 0, .int .i64 0, .int .i64 0, .int .i64 0, .int .i64 0, .slice none 0 0] 138
  rw [show ([.int .i64 0, .int .i64 0, .int .i64 0, .string ⟨#[]⟩, .string ⟨#[]⟩, .bool false, .int .i64 0, .int .i64 0, .int .i64 0, .int .i64 0, .int .i64 0, .int .i64 0, .int .i64 0, .slice none 0 0] : List Value).toArray = #[.int .i64 0, .int .i64 0, .int .i64 0, .string ⟨#[]⟩, .string ⟨#[]⟩, .bool false, .int .i64 0, .int .i64 0, .int .i64 0, .int .i64 0, .int .i64 0, .int .i64 0, .int .i64 0, .slice none 0 0] from rfl] at KB
  generalize (w.alloc (.cells #[.slice A n c, .slice B m d, .slice C q e] 26)).alloc (.cells #[.int .i64 0, .int .i64 0, .int .i64 0, .string ⟨#[]⟩, .string ⟨#[]⟩, .bool false, .int .i64 0, .int .i64 0, .int .i64 0, .int .i64 0, .int .i64 0, .int .i64 0, .int .i64 0, .slice none 0 0] 138) = W at *
  simp only [World.size_alloc] at *
  obtain ⟨_, x0, x1, x2, _⟩ := (KB.tail.head).three
  go_wp2_with (go_at_call 133; refine (EO.out _ KB.hb).mono ?_; clear EO; rintro e9 W9 ⟨rfl, hk⟩; replace KB := KB.below hk; clear hk x0 x1 x2; obtain ⟨_, x0, x1, x2, _⟩ := (KB.tail.head).three; obtain ⟨lt, z0, z1, z2, z3, z4, z5, z6, z7, z8, z9, z10, z11, z12, z13, g0, g1, g2, g3, g4, g5, g6, g7, g8, g9, g10, g11, g12, g13⟩ := KB.head.fourteen)
  have KF := KB.put14 (.int .i64 0) (.int .i64 0) (.int .i64 0) (.string ⟨#[]⟩) (.string ⟨#[]⟩) (.bool false) (.int .i64 0) (.int .i64 0) (.int .i64 0) (.int .i64 0) (.int .i64 0) (.int .i64 0) (.int .i64 0) (.slice none 0 0) (by omega) (by intro y hy; simp only [List.mem_cons, List.not_mem_nil, or_false] at hy; subst hy; (show ¬ _ = _; first | omega | (simp only []; omega)))
  obtain ⟨_, P0, P1, P2, P3, P4, P5, P6, P7, P8, P9, P10, P11, P12, P13, _⟩ := KF.head.fourteen
  exact bodyPost_ret (v := .tuple #[.agg #[.int .i64 0, .int .i64 0, .int .i64 0, .string ⟨#[]⟩, .string ⟨#[]⟩, .bool false, .int .i64 0, .int .i64 0, .int .i64 0, .int .i64 0, .int .i64 0, .int .i64 0, .int .i64 0, .slice none 0 0], .bool false]) (by simp [results, Tryz.results116, go_sem, P0, P1, P2, P3, P4, P5, P6, P7, P8, P9, P10, P11, P12, P13]) rfl ⟨rfl, KF.hb⟩
theorem er_far (A B C : Option Addr) (n c m d q e : Nat) (z i : Int) (w : World) (Z : Option Addr) (u cu : Nat) (h0 : decide (i < 0) = false) (h1 : decide (i ≥ (u : Int)) = true) (EO : Hid (∀ W, Below w.heap.size w W → Calls Tryz.prog 133 #[.agg #[.slice A n c, .slice B m d, .slice C q e], .int .i64 z] W (fun e w' => e = .returned (.tuple #[.slice Z u cu, .bool true]) ∧ Below W.heap.size W w'))) : Calls Tryz.prog 116 #[.agg #[.slice A n c, .slice B m d, .slice C q e], .int .i64 z, .int .i64 i] w (fun e w' => e = .returned (.tuple #[.agg #[.int .i64 0, .int .i64 0, .int .i64 0, .string ⟨#[]⟩, .string ⟨#[]⟩, .bool false, .int .i64 0, .int .i64 0, .int .i64 0, .int .i64 0, .int .i64 0, .int .i64 0, .int .i64 0, .slice none 0 0], .bool false]) ∧ Below w.heap.size w w') := by
  go_enter Tryz.func116, Tryz.ntmps116
  go_upto_region 1 with (fail)
  have KB := (BK.nil w).lit [.slice A n c, .slice B m d, .slice C q e] 26
  replace KB := KB.lit [.int .i64 0, .int .i64 0, .int .i64 0, .string ⟨#[]⟩, .string ⟨#[]⟩, .bool false, .int .i64 0, .int .i64 0, .int .i64 0, .int .i64 0, .int .i64 0, .int .i64 0, .int .i64 0, .slice none 0 0] 138
  rw [show ([.int .i64 0, .int .i64 0, .int .i64 0, .string ⟨#[]⟩, .string ⟨#[]⟩, .bool false, .int .i64 0, .int .i64 0, .int .i64 0, .int .i64 0, .int .i64 0, .int .i64 0, .int .i64 0, .slice none 0 0] : List Value).toArray = #[.int .i64 0, .int .i64 0, .int .i64 0, .string ⟨#[]⟩, .string ⟨#[]⟩, .bool false, .int .i64 0, .int .i64 0, .int .i64 0, .int .i64 0, .int .i64 0, .int .i64 0, .int .i64 0, .slice none 0 0] from rfl] at KB
  generalize (w.alloc (.cells #[.slice A n c, .slice B m d, .slice C q e] 26)).alloc (.cells #[.int .i64 0, .int .i64 0, .int .i64 0, .string ⟨#[]⟩, .string ⟨#[]⟩, .bool false, .int .i64 0, .int .i64 0, .int .i64 0, .int .i64 0, .int .i64 0, .int .i64 0, .int .i64 0, .slice none 0 0] 138) = W at *
  simp only [World.size_alloc] at *
  obtain ⟨_, x0, x1, x2, _⟩ := (KB.tail.head).three
  go_wp2_with (go_at_call 133; refine (EO.out _ KB.hb).mono ?_; clear EO; rintro e9 W9 ⟨rfl, hk⟩; replace KB := KB.below hk; clear hk x0 x1 x2; obtain ⟨_, x0, x1, x2, _⟩ := (KB.tail.head).three; obtain ⟨lt, z0, z1, z2, z3, z4, z5, z6, z7, z8, z9, z10, z11, z12, z13, g0, g1, g2, g3, g4, g5, g6, g7, g8, g9, g10, g11, g12, g13⟩ := KB.head.fourteen)
  have KF := KB.put14 (.int .i64 0) (.int .i64 0) (.int .i64 0) (.string ⟨#[]⟩) (.string ⟨#[]⟩) (.bool false) (.int .i64 0) (.int .i64 0) (.int .i64 0) (.int .i64 0) (.int .i64 0) (.int .i64 0) (.int .i64 0) (.slice none 0 0) (by omega) (by intro y hy; simp only [List.mem_cons, List.not_mem_nil, or_false] at hy; subst hy; (show ¬ _ = _; first | omega | (simp only []; omega)))
  obtain ⟨_, P0, P1, P2, P3, P4, P5, P6, P7, P8, P9, P10, P11, P12, P13, _⟩ := KF.head.fourteen
  exact bodyPost_ret (v := .tuple #[.agg #[.int .i64 0, .int .i64 0, .int .i64 0, .string ⟨#[]⟩, .string ⟨#[]⟩, .bool false, .int .i64 0, .int .i64 0, .int .i64 0, .int .i64 0, .int .i64 0, .int .i64 0, .int .i64 0, .slice none 0 0], .bool false]) (by simp [results, Tryz.results116, go_sem, P0, P1, P2, P3, P4, P5, P6, P7, P8, P9, P10, P11, P12, P13]) rfl ⟨rfl, KF.hb⟩
theorem er_hit (A B C : Option Addr) (n c m d q e : Nat) (off kind sav : Int) (rs fmt : ByteArray) (til : Bool) (yr mo ki wd da ti re : Int) (z : Int) (i : Nat) (g o u cu : Nat) (hi : i < u) (_hu : u ≤ cu) (hc : cu ≤ maxLen) (l : List Rl) (w : World) (hg : g < w.heap.size) (e0 : w.cell? ⟨g, o + i * 13, none⟩ = some (.int .i64 off)) (e1 : w.cell? ⟨g, o + i * 13 + 1, none⟩ = some (.int .i64 kind)) (e2 : w.cell? ⟨g, o + i * 13 + 2, none⟩ = some (.int .i64 sav)) (e3 : w.cell? ⟨g, o + i * 13 + 3, none⟩ = some (.string rs)) (e4 : w.cell? ⟨g, o + i * 13 + 4, none⟩ = some (.string fmt)) (e5 : w.cell? ⟨g, o + i * 13 + 5, none⟩ = some (.bool til)) (e6 : w.cell? ⟨g, o + i * 13 + 6, none⟩ = some (.int .i64 yr)) (e7 : w.cell? ⟨g, o + i * 13 + 7, none⟩ = some (.int .i64 mo)) (e8 : w.cell? ⟨g, o + i * 13 + 8, none⟩ = some (.int .i64 ki)) (e9 : w.cell? ⟨g, o + i * 13 + 9, none⟩ = some (.int .i64 wd)) (e10 : w.cell? ⟨g, o + i * 13 + 10, none⟩ = some (.int .i64 da)) (e11 : w.cell? ⟨g, o + i * 13 + 11, none⟩ = some (.int .i64 ti)) (e12 : w.cell? ⟨g, o + i * 13 + 12, none⟩ = some (.int .i64 re)) (EO : Hid (∀ W, Below w.heap.size w W → Calls Tryz.prog 133 #[.agg #[.slice A n c, .slice B m d, .slice C q e], .int .i64 z] W (fun e w' => e = .returned (.tuple #[.slice (some ⟨g, o, none⟩) u cu, .bool true]) ∧ Below W.heap.size W w')))
    (WS : Hid (∀ W, Below w.heap.size w W → Calls Tryz.prog 134 #[.agg #[.slice A n c, .slice B m d, .slice C q e], .agg #[.int .i64 off, .int .i64 kind, .int .i64 sav, .string rs, .string fmt, .bool til, .int .i64 yr, .int .i64 mo, .int .i64 ki, .int .i64 wd, .int .i64 da, .int .i64 ti, .int .i64 re]] W (fun e w' => ∃ X y, e = .returned (.agg #[.int .i64 off, .int .i64 kind, .int .i64 sav, .string rs, .string fmt, .bool til, .int .i64 yr, .int .i64 mo, .int .i64 ki, .int .i64 wd, .int .i64 da, .int .i64 ti, .int .i64 re, .slice X l.length y]) ∧ RulV w' X l.length y l ∧ FreshS W.heap.size X ∧ Below W.heap.size W w'))) :
    Calls Tryz.prog 116 #[.agg #[.slice A n c, .slice B m d, .slice C q e], .int .i64 z, .int .i64 (i : Int)] w (fun e w' => ∃ X y, e = .returned (.tuple #[.agg #[.int .i64 off, .int .i64 kind, .int .i64 sav, .string rs, .string fmt, .bool til, .int .i64 yr, .int .i64 mo, .int .i64 ki, .int .i64 wd, .int .i64 da, .int .i64 ti, .int .i64 re, .slice X l.length y], .bool true]) ∧ RulV w' X l.length y l ∧ Below w.heap.size w w') := by
  have um : cu ≤ 9223372036854775807 := hc
  have h0 : decide ((i : Int) < 0) = false := decide_eq_false (by omega)
  have h1 : decide ((i : Int) ≥ (u : Int)) = false := decide_eq_false (by omega)
  have E0 := Lib.hid e0
  have E1 := Lib.hid e1
  have E2 := Lib.hid e2
  have E3 := Lib.hid e3
  have E4 := Lib.hid e4
  have E5 := Lib.hid e5
  have E6 := Lib.hid e6
  have E7 := Lib.hid e7
  have E8 := Lib.hid e8
  have E9 := Lib.hid e9
  have E10 := Lib.hid e10
  have E11 := Lib.hid e11
  have E12 := Lib.hid e12
  have n1 : w.heap.size + 1 ≠ g := by omega
  have n2 : g ≠ w.heap.size + 1 := by omega
  clear e0 e1 e2 e3 e4 e5 e6 e7 e8 e9 e10 e11 e12
  go_enter Tryz.func116, Tryz.ntmps116
  go_upto_region 1 with (fail)
  have KB := (BK.nil w).lit [.slice A n c, .slice B m d, .slice C q e] 26
  replace KB := KB.lit [.int .i64 0, .int .i64 0, .int .i64 0, .string ⟨#[]⟩, .string ⟨#[]⟩, .bool false, .int .i64 0, .int .i64 0, .int .i64 0, .int .i64 0, .int .i64 0, .int .i64 0, .int .i64 0, .slice none 0 0] 138
  rw [show ([.int .i64 0, .int .i64 0, .int .i64 0, .string ⟨#[]⟩, .string ⟨#[]⟩, .bool false, .int .i64 0, .int .i64 0, .int .i64 0, .int .i64 0, .int .i64 0, .int .i64 0, .int .i64 0, .slice none 0 0] : List Value).toArray = #[.int .i64 0, .int .i64 0, .int .i64 0, .string ⟨#[]⟩, .string ⟨#[]⟩, .bool false, .int .i64 0, .int .i64 0, .int .i64 0, .int .i64 0, .int .i64 0, .int .i64 0, .int .i64 0, .slice none 0 0] from rfl] at KB
  generalize (w.alloc (.cells #[.slice A n c, .slice B m d, .slice C q e] 26)).alloc (.cells #[.int .i64 0, .int .i64 0, .int .i64 0, .string ⟨#[]⟩, .string ⟨#[]⟩, .bool false, .int .i64 0, .int .i64 0, .int .i64 0, .int .i64 0, .int .i64 0, .int .i64 0, .int .i64 0, .slice none 0 0] 138) = W at *
  simp only [World.size_alloc] at *
  obtain ⟨_, x0, x1, x2, _⟩ := (KB.tail.head).three
  go_wp2_with (go_at_call 133; refine (EO.out _ KB.hb).mono ?_; clear EO; rintro e9 W9 ⟨rfl, hk⟩; replace KB := KB.below hk; clear hk x0 x1 x2; obtain ⟨_, x0, x1, x2, _⟩ := (KB.tail.head).three; obtain ⟨lt, z0, z1, z2, z3, z4, z5, z6, z7, z8, z9, z10, z11, z12, z13, g0, g1, g2, g3, g4, g5, g6, g7, g8, g9, g10, g11, g12, g13⟩ := KB.head.fourteen)
  clear z0 z1 z2 z3 z4 z5 z6 z7 z8 z9 z10 z11 z12 z13 g0 g1 g2 g3 g4 g5 g6 g7 g8 g9 g10 g11 g12 g13 lt
  have y0 := (KB.hb.cell (p := ⟨g, o + i * 13, none⟩) hg).trans E0.out
  have y1 := (KB.hb.cell (p := ⟨g, o + i * 13 + 1, none⟩) hg).trans E1.out
  have y2 := (KB.hb.cell (p := ⟨g, o + i * 13 + 2, none⟩) hg).trans E2.out
  have y3 := (KB.hb.cell (p := ⟨g, o + i * 13 + 3, none⟩) hg).trans E3.out
  have y4 := (KB.hb.cell (p := ⟨g, o + i * 13 + 4, none⟩) hg).trans E4.out
  have y5 := (KB.hb.cell (p := ⟨g, o + i * 13 + 5, none⟩) hg).trans E5.out
  have y6 := (KB.hb.cell (p := ⟨g, o + i * 13 + 6, none⟩) hg).trans E6.out
  have y7 := (KB.hb.cell (p := ⟨g, o + i * 13 + 7, none⟩) hg).trans E7.out
  have y8 := (KB.hb.cell (p := ⟨g, o + i * 13 + 8, none⟩) hg).trans E8.out
  have y9 := (KB.hb.cell (p := ⟨g, o + i * 13 + 9, none⟩) hg).trans E9.out
  have y10 := (KB.hb.cell (p := ⟨g, o + i * 13 + 10, none⟩) hg).trans E10.out
  have y11 := (KB.hb.cell (p := ⟨g, o + i * 13 + 11, none⟩) hg).trans E11.out
  have y12 := (KB.hb.cell (p := ⟨g, o + i * 13 + 12, none⟩) hg).trans E12.out
  go_region_held3 (fun w' => w'.cell? ⟨g, o + i * 13, none⟩ = some (.int .i64 off) ∧ w'.cell? ⟨g, o + i * 13 + 1, none⟩ = some (.int .i64 kind) ∧ w'.cell? ⟨g, o + i * 13 + 2, none⟩ = some (.int .i64 sav) ∧ w'.cell? ⟨g, o + i * 13 + 3, none⟩ = some (.string rs) ∧ w'.cell? ⟨g, o + i * 13 + 4, none⟩ = some (.string fmt) ∧ w'.cell? ⟨g, o + i * 13 + 5, none⟩ = some (.bool til) ∧ w'.cell? ⟨g, o + i * 13 + 6, none⟩ = some (.int .i64 yr) ∧ w'.cell? ⟨g, o + i * 13 + 7, none⟩ = some (.int .i64 mo) ∧ w'.cell? ⟨g, o + i * 13 + 8, none⟩ = some (.int .i64 ki) ∧ w'.cell? ⟨g, o + i * 13 + 9, none⟩ = some (.int .i64 wd) ∧ w'.cell? ⟨g, o + i * 13 + 10, none⟩ = some (.int .i64 da) ∧ w'.cell? ⟨g, o + i * 13 + 11, none⟩ = some (.int .i64 ti) ∧ w'.cell? ⟨g, o + i * 13 + 12, none⟩ = some (.int .i64 re) ∧ w'.cell? ⟨w.heap.size, 0, none⟩ = some (.slice A n c) ∧ w'.cell? ⟨w.heap.size, 1, none⟩ = some (.slice B m d) ∧ w'.cell? ⟨w.heap.size, 2, none⟩ = some (.slice C q e)) (first | (with_reducible exact ⟨(KB.hb.cell (p := ⟨g, o + i * 13, none⟩) hg).trans E0.out, (KB.hb.cell (p := ⟨g, o + i * 13 + 1, none⟩) hg).trans E1.out, (KB.hb.cell (p := ⟨g, o + i * 13 + 2, none⟩) hg).trans E2.out, (KB.hb.cell (p := ⟨g, o + i * 13 + 3, none⟩) hg).trans E3.out, (KB.hb.cell (p := ⟨g, o + i * 13 + 4, none⟩) hg).trans E4.out, (KB.hb.cell (p := ⟨g, o + i * 13 + 5, none⟩) hg).trans E5.out, (KB.hb.cell (p := ⟨g, o + i * 13 + 6, none⟩) hg).trans E6.out, (KB.hb.cell (p := ⟨g, o + i * 13 + 7, none⟩) hg).trans E7.out, (KB.hb.cell (p := ⟨g, o + i * 13 + 8, none⟩) hg).trans E8.out, (KB.hb.cell (p := ⟨g, o + i * 13 + 9, none⟩) hg).trans E9.out, (KB.hb.cell (p := ⟨g, o + i * 13 + 10, none⟩) hg).trans E10.out, (KB.hb.cell (p := ⟨g, o + i * 13 + 11, none⟩) hg).trans E11.out, (KB.hb.cell (p := ⟨g, o + i * 13 + 12, none⟩) hg).trans E12.out, (KB.tail.head).three.2.1, (KB.tail.head).three.2.2.1, (KB.tail.head).three.2.2.2.1⟩) | (with_reducible exact ⟨(KB.drew.hb.cell (p := ⟨g, o + i * 13, none⟩) hg).trans E0.out, (KB.drew.hb.cell (p := ⟨g, o + i * 13 + 1, none⟩) hg).trans E1.out, (KB.drew.hb.cell (p := ⟨g, o + i * 13 + 2, none⟩) hg).trans E2.out, (KB.drew.hb.cell (p := ⟨g, o + i * 13 + 3, none⟩) hg).trans E3.out, (KB.drew.hb.cell (p := ⟨g, o + i * 13 + 4, none⟩) hg).trans E4.out, (KB.drew.hb.cell (p := ⟨g, o + i * 13 + 5, none⟩) hg).trans E5.out, (KB.drew.hb.cell (p := ⟨g, o + i * 13 + 6, none⟩) hg).trans E6.out, (KB.drew.hb.cell (p := ⟨g, o + i * 13 + 7, none⟩) hg).trans E7.out, (KB.drew.hb.cell (p := ⟨g, o + i * 13 + 8, none⟩) hg).trans E8.out, (KB.drew.hb.cell (p := ⟨g, o + i * 13 + 9, none⟩) hg).trans E9.out, (KB.drew.hb.cell (p := ⟨g, o + i * 13 + 10, none⟩) hg).trans E10.out, (KB.drew.hb.cell (p := ⟨g, o + i * 13 + 11, none⟩) hg).trans E11.out, (KB.drew.hb.cell (p := ⟨g, o + i * 13 + 12, none⟩) hg).trans E12.out, (KB.drew.tail.head).three.2.1, (KB.drew.tail.head).three.2.2.1, (KB.drew.tail.head).three.2.2.2.1⟩) | go_keep)
    ((go_at_call 134; have lw := KB.head.lt; (with_reducible first | refine (WS.out _ KB.hb).mono ?_ | refine (WS.out _ KB.drew.hb).mono ?_); rintro e9 W10 ⟨X, y, rfl, hv, hf, hk⟩; (with_reducible first | replace KB := KB.below hk | replace KB := KB.drew.below hk); clear hk; have f9 := fun vs => Rs.farF hv hf lw vs; clear hv hf lw; obtain ⟨lt, z0, z1, z2, z3, z4, z5, z6, z7, z8, z9, z10, z11, z12, z13, g0, g1, g2, g3, g4, g5, g6, g7, g8, g9, g10, g11, g12, g13⟩ := KB.head.fourteen))
  all_goals
    go_wp2
    have KF := KB.put14 (.int .i64 off) (.int .i64 kind) (.int .i64 sav) (.string rs) (.string fmt) (.bool til) (.int .i64 yr) (.int .i64 mo) (.int .i64 ki) (.int .i64 wd) (.int .i64 da) (.int .i64 ti) (.int .i64 re) (.slice X l.length y) (by omega) (by intro y hy; simp only [List.mem_cons, List.not_mem_nil, or_false] at hy; subst hy; (show ¬ _ = _; first | omega | (simp only []; omega)))
    obtain ⟨_, P0, P1, P2, P3, P4, P5, P6, P7, P8, P9, P10, P11, P12, P13, _⟩ := KF.head.fourteen
    exact bodyPost_ret (v := .tuple #[.agg #[.int .i64 off, .int .i64 kind, .int .i64 sav, .string rs, .string fmt, .bool til, .int .i64 yr, .int .i64 mo, .int .i64 ki, .int .i64 wd, .int .i64 da, .int .i64 ti, .int .i64 re, .slice X l.length y], .bool true]) (by simp [results, Tryz.results116, go_sem, P0, P1, P2, P3, P4, P5, P6, P7, P8, P9, P10, P11, P12, P13]) rfl ⟨X, y, rfl, f9 [.int .i64 off, .int .i64 kind, .int .i64 sav, .string rs, .string fmt, .bool til, .int .i64 yr, .int .i64 mo, .int .i64 ki, .int .i64 wd, .int .i64 da, .int .i64 ti, .int .i64 re, .slice X l.length y], KF.hb⟩
theorem zoneAt_mem {S : Sr} {ze : List Ze} {z : Int} {p : Ze} (h : zoneAt S ze z = some p) : okSr S = true ∧ 0 ≤ z ∧ ze[z.toNat]? = some p := by
  unfold zoneAt at h
  by_cases c : okSr S = true ∧ 0 ≤ z
  · rw [if_pos c] at h; exact ⟨c.1, c.2, h⟩
  · rw [if_neg c] at h; cases h
theorem ok_of {S : Sr} (h : okSr S = true) : S.ok := by
  unfold okSr at h
  exact @of_decide_eq_true _ (Classical.propDecidable _) h
theorem zone_ok {w : World} {S : Sr} {a b c : Hd} {ze : List Ze} (hv : SrcV w S a b c ze) {z : Int} {p : Ze} (h : zoneAt S ze z = some p) : p.1.ok ∧ eraRows w p ∧ a.n ≤ 200 ∧ fitL S.rules ∧ shortL S.rules := by
  obtain ⟨h1, _, h3⟩ := zoneAt_mem h
  have ok := ok_of h1
  have hn : S.rules.length = a.n := by have := hv.rules.len; simpa using this
  refine ⟨ok.2.2.2.2.1 p.1 ?_, hv.eras p (List.mem_of_getElem? h3), by rw [← hn]; exact ok.1, rules_fit ok, rules_short ok⟩
  rw [← hv.all]
  exact List.mem_map_of_mem (List.mem_of_getElem? h3)
theorem eraOfE (S : Sr) (a b c : Hd) (ze : List Ze) (w : World) (hv : SrcV w S a b c ze) (hx : S.in64) (z i : Int) : Calls Tryz.prog 116 #[.agg #[a.val, b.val, c.val], .int .i64 z, .int .i64 i] w (RetXB w S.rules (eraAtP S ze z i)) := by
  have EO := fun W (h : Below w.heap.size w W) => erasOfE S a b c ze W (hv.below h) hx z
  have ZO := fun p => zone_ok hv (z := z) (p := p)
  have WS := fun (x : Er) (small : a.n ≤ 900) W (h : Below w.heap.size w W) => withSetE S.rules x a.a b.a c.a a.n a.c b.n b.c c.n c.c W (hv.rules.below h) small
  obtain ⟨A, n, c'⟩ := a
  obtain ⟨B, m, d⟩ := b
  obtain ⟨C, q, e⟩ := c
  unfold eraAtP
  cases hz : zoneAt S ze z with
  | none =>
    rw [hz] at EO
    exact er_none A B C n c' m d q e z i w (Lib.hid EO)
  | some p =>
    rw [hz] at EO
    obtain ⟨zok, er, sm, _, _⟩ := ZO p hz
    obtain ⟨⟨nm, es⟩, ⟨Z, u, cu⟩⟩ := p
    have hn : es.length = u := by have := er.len; simpa using this
    show Calls Tryz.prog _ _ _ (RetXB w S.rules (if 0 ≤ i then es[i.toNat]? else none))
    by_cases h0 : i < 0
    · rw [if_neg (by omega)]
      exact er_neg A B C n c' m d q e z i w Z u cu (decide_eq_true h0) (Lib.hid EO)
    · rw [if_pos (by omega)]
      by_cases h1 : i ≥ (u : Int)
      · rw [List.getElem?_eq_none (by omega)]
        exact er_far A B C n c' m d q e z i w Z u cu (decide_eq_false h0) (decide_eq_true h1) (Lib.hid EO)
      · obtain ⟨x, hxx⟩ : ∃ x, es[i.toNat]? = some x := ⟨_, List.getElem?_eq_getElem (by omega)⟩
        rw [hxx]
        have sm : n ≤ 200 := sm
        have W1 := WS x (by show n ≤ 900; omega)
        obtain ⟨g, o, eZ, hg, _, ra⟩ := era_rows er hxx
        have eZ : Z = some ⟨g, o, none⟩ := eZ
        subst eZ
        unfold RetXB RetX at *
        have t := er_hit A B C n c' m d q e x.off x.kind x.save x.rules x.fmt x.til x.year x.sp.mo x.sp.ki x.sp.wd x.sp.da x.sp.ti x.sp.re z i.toNat g o u cu (by omega) er.cap er.max (setL S.rules x.rules) w hg (ra 0 _ rfl) (ra 1 _ rfl) (ra 2 _ rfl) (ra 3 _ rfl) (ra 4 _ rfl) (ra 5 _ rfl) (ra 6 _ rfl) (ra 7 _ rfl) (ra 8 _ rfl) (ra 9 _ rfl) (ra 10 _ rfl) (ra 11 _ rfl) (ra 12 _ rfl) (Lib.hid EO) (Lib.hid W1)
        rw [show ((i.toNat : Nat) : Int) = i by omega] at t
        exact t
noncomputable def endO (L : List Rl) (o : Option Er) : Int × Bool := match o with | some x => if x.til = true then (endE L x, true) else (0, false) | none => (0, false)
theorem era_of {S : Sr} {ze : List Ze} {w : World} {n : Nat} {z i : Int} {x : Er} (ZO : ∀ p, zoneAt S ze z = some p → p.1.ok ∧ eraRows w p ∧ n ≤ 200 ∧ fitL S.rules ∧ shortL S.rules) (h : eraAtP S ze z i = some x) : ErF x ∧ fitL S.rules ∧ shortL S.rules := by
  unfold eraAtP at h
  cases hz : zoneAt S ze z with
  | none => rw [hz] at h; cases h
  | some p =>
    rw [hz] at h
    have h : (if 0 ≤ i then p.1.eras[i.toNat]? else none) = some x := h
    obtain ⟨zk, _, _, h1, h2⟩ := ZO p hz
    by_cases c : 0 ≤ i
    · rw [if_pos c] at h
      exact ⟨era_fit (zk.2.2.1 x (List.mem_of_getElem? h)), h1, h2⟩
    · rw [if_neg c] at h; cases h
theorem en_none (A B C : Option Addr) (n c m d q e : Nat) (z i : Int) (w : World) (EA : Hid (∀ W, Below w.heap.size w W → Calls Tryz.prog 116 #[.agg #[.slice A n c, .slice B m d, .slice C q e], .int .i64 z, .int .i64 i] W (fun e w' => e = .returned (.tuple #[.agg #[.int .i64 0, .int .i64 0, .int .i64 0, .string ⟨#[]⟩, .string ⟨#[]⟩, .bool false, .int .i64 0, .int .i64 0, .int .i64 0, .int .i64 0, .int .i64 0, .int .i64 0, .int .i64 0, .slice none 0 0], .bool false]) ∧ Below W.heap.size W w'))) : Calls Tryz.prog 91 #[.agg #[.slice A n c, .slice B m d, .slice C q e], .int .i64 z, .int .i64 i] w (RetNumB w 0 false) := by
  go_enter Tryz.func91, Tryz.ntmps91
  go_upto_region 1 with (fail)
  have KB := (BK.nil w).lit [.slice A n c, .slice B m d, .slice C q e] 26
  generalize w.alloc (.cells #[.slice A n c, .slice B m d, .slice C q e] 26) = W at *
  obtain ⟨_, x0, x1, x2, _⟩ := (KB.head).three
  go_upto_region 2 with (go_at_call 116; refine (EA.out _ KB.hb).mono ?_; clear EA; rintro e9 W9 ⟨rfl, hk⟩; replace KB := KB.below hk; clear hk x0 x1 x2)
  replace KB := KB.lit [.int .i64 0, .int .i64 0, .int .i64 0, .string ⟨#[]⟩, .string ⟨#[]⟩, .bool false, .int .i64 0, .int .i64 0, .int .i64 0, .int .i64 0, .int .i64 0, .int .i64 0, .int .i64 0, .slice none 0 0] 138
  rw [show ([.int .i64 0, .int .i64 0, .int .i64 0, .string ⟨#[]⟩, .string ⟨#[]⟩, .bool false, .int .i64 0, .int .i64 0, .int .i64 0, .int .i64 0, .int .i64 0, .int .i64 0, .int .i64 0, .slice none 0 0] : List Value).toArray = #[.int .i64 0, .int .i64 0, .int .i64 0, .string ⟨#[]⟩, .string ⟨#[]⟩, .bool false, .int .i64 0, .int .i64 0, .int .i64 0, .int .i64 0, .int .i64 0, .int .i64 0, .int .i64 0, .slice none 0 0] from rfl] at KB
  generalize W9.alloc (.cells #[.int .i64 0, .int .i64 0, .int .i64 0, .string ⟨#[]⟩, .string ⟨#[]⟩, .bool false, .int .i64 0, .int .i64 0, .int .i64 0, .int .i64 0, .int .i64 0, .int .i64 0, .int .i64 0, .slice none 0 0] 138) = W1 at *
  generalize W9.heap.size = q at *
  obtain ⟨x0, x1, x2, x3, x4, x5, x6, x7, x8, x9, x10, x11, x12, x13⟩ := KB.open14
  go_wp2
  go_ret2
  exact ⟨rfl, KB.hb⟩
theorem en_false (A B C : Option Addr) (n c m d q e : Nat) (off kind sav : Int) (rs fmt : ByteArray) (yr mo ki wd da ti re : Int) (z i : Int) (l : List Rl) (w : World)  (EA : Hid (∀ W, Below w.heap.size w W → Calls Tryz.prog 116 #[.agg #[.slice A n c, .slice B m d, .slice C q e], .int .i64 z, .int .i64 i] W (fun e w' => ∃ X y, e = .returned (.tuple #[.agg #[.int .i64 off, .int .i64 kind, .int .i64 sav, .string rs, .string fmt, .bool false, .int .i64 yr, .int .i64 mo, .int .i64 ki, .int .i64 wd, .int .i64 da, .int .i64 ti, .int .i64 re, .slice X l.length y], .bool true]) ∧ RulV w' X l.length y l ∧ Below W.heap.size W w'))) : Calls Tryz.prog 91 #[.agg #[.slice A n c, .slice B m d, .slice C q e], .int .i64 z, .int .i64 i] w (RetNumB w 0 false) := by
  go_enter Tryz.func91, Tryz.ntmps91
  go_upto_region 1 with (fail)
  have KB := (BK.nil w).lit [.slice A n c, .slice B m d, .slice C q e] 26
  generalize w.alloc (.cells #[.slice A n c, .slice B m d, .slice C q e] 26) = W at *
  obtain ⟨_, x0, x1, x2, _⟩ := (KB.head).three
  go_upto_region 2 with (go_at_call 116; refine (EA.out _ KB.hb).mono ?_; clear EA; rintro e9 W9 ⟨X, y, rfl, hv, hk⟩; replace KB := KB.below hk; clear hk x0 x1 x2)
  replace hv := hv.below (below_box W9 (.cells #[.int .i64 off, .int .i64 kind, .int .i64 sav, .string rs, .string fmt, .bool false, .int .i64 yr, .int .i64 mo, .int .i64 ki, .int .i64 wd, .int .i64 da, .int .i64 ti, .int .i64 re, .slice X l.length y] 138))
  replace KB := KB.lit [.int .i64 off, .int .i64 kind, .int .i64 sav, .string rs, .string fmt, .bool false, .int .i64 yr, .int .i64 mo, .int .i64 ki, .int .i64 wd, .int .i64 da, .int .i64 ti, .int .i64 re, .slice X l.length y] 138
  generalize W9.alloc (.cells #[.int .i64 off, .int .i64 kind, .int .i64 sav, .string rs, .string fmt, .bool false, .int .i64 yr, .int .i64 mo, .int .i64 ki, .int .i64 wd, .int .i64 da, .int .i64 ti, .int .i64 re, .slice X l.length y] 138) = W1 at *
  generalize W9.heap.size = q at *
  obtain ⟨x0, x1, x2, x3, x4, x5, x6, x7, x8, x9, x10, x11, x12, x13⟩ := KB.open14
  clear hv
  go_wp2
  go_ret2
  exact ⟨rfl, KB.hb⟩
theorem en_true (A B C : Option Addr) (n c m d q e : Nat) (off kind sav : Int) (rs fmt : ByteArray) (yr mo ki wd da ti re : Int) (z i : Int) (l : List Rl) (en : Int) (w : World) (LQ : ErasM w) (MO : Hid (∀ w W : World, ErasM w → Below w.heap.size w W → ErasM W)) (EA : Hid (∀ W, Below w.heap.size w W → Calls Tryz.prog 116 #[.agg #[.slice A n c, .slice B m d, .slice C q e], .int .i64 z, .int .i64 i] W (fun e w' => ∃ X y, e = .returned (.tuple #[.agg #[.int .i64 off, .int .i64 kind, .int .i64 sav, .string rs, .string fmt, .bool true, .int .i64 yr, .int .i64 mo, .int .i64 ki, .int .i64 wd, .int .i64 da, .int .i64 ti, .int .i64 re, .slice X l.length y], .bool true]) ∧ RulV w' X l.length y l ∧ Below W.heap.size W w'))) (EN : Hid (∀ X y W, RulV W X l.length y l → ErasM W → Calls Tryz.prog 117 #[.agg #[.int .i64 off, .int .i64 kind, .int .i64 sav, .string rs, .string fmt, .bool true, .int .i64 yr, .int .i64 mo, .int .i64 ki, .int .i64 wd, .int .i64 da, .int .i64 ti, .int .i64 re, .slice X l.length y]] W (RetV W (.int .i64 en)))) : Calls Tryz.prog 91 #[.agg #[.slice A n c, .slice B m d, .slice C q e], .int .i64 z, .int .i64 i] w (RetNumB w en true) := by
  go_enter Tryz.func91, Tryz.ntmps91
  go_upto_region 1 with (fail)
  have KB := (BK.nil w).lit [.slice A n c, .slice B m d, .slice C q e] 26
  generalize w.alloc (.cells #[.slice A n c, .slice B m d, .slice C q e] 26) = W at *
  obtain ⟨_, x0, x1, x2, _⟩ := (KB.head).three
  go_upto_region 2 with (go_at_call 116; refine (EA.out _ KB.hb).mono ?_; clear EA; rintro e9 W9 ⟨X, y, rfl, hv, hk⟩; replace KB := KB.below hk; clear hk x0 x1 x2)
  replace hv := hv.below (below_box W9 (.cells #[.int .i64 off, .int .i64 kind, .int .i64 sav, .string rs, .string fmt, .bool true, .int .i64 yr, .int .i64 mo, .int .i64 ki, .int .i64 wd, .int .i64 da, .int .i64 ti, .int .i64 re, .slice X l.length y] 138))
  replace KB := KB.lit [.int .i64 off, .int .i64 kind, .int .i64 sav, .string rs, .string fmt, .bool true, .int .i64 yr, .int .i64 mo, .int .i64 ki, .int .i64 wd, .int .i64 da, .int .i64 ti, .int .i64 re, .slice X l.length y] 138
  generalize W9.alloc (.cells #[.int .i64 off, .int .i64 kind, .int .i64 sav, .string rs, .string fmt, .bool true, .int .i64 yr, .int .i64 mo, .int .i64 ki, .int .i64 wd, .int .i64 da, .int .i64 ti, .int .i64 re, .slice X l.length y] 138) = W1 at *
  generalize W9.heap.size = q at *
  obtain ⟨x0, x1, x2, x3, x4, x5, x6, x7, x8, x9, x10, x11, x12, x13⟩ := KB.open14
  go_wp2_with (go_at_call 117; refine (EN.out _ _ _ hv (MO.out _ _ LQ KB.hb)).mono ?_; clear EN hv; rintro e9 W10 ⟨rfl, hk⟩; replace KB := KB.below hk; clear hk)
  go_ret2
  exact ⟨rfl, KB.hb⟩
theorem endAE (S : Sr) (a b c : Hd) (ze : List Ze) (w : World) (hv : SrcV w S a b c ze) (hx : S.in64) (z i : Int) (T : ErasM w) : Calls Tryz.prog 91 #[.agg #[a.val, b.val, c.val], .int .i64 z, .int .i64 i] w (RetNumB w (endO S.rules (eraAtP S ze z i)).1 (endO S.rules (eraAtP S ze z i)).2) := by
  have EA := fun W (h : Below w.heap.size w W) => eraOfE S a b c ze W (hv.below h) hx z i
  have ZO := fun p => zone_ok hv (z := z) (p := p)
  obtain ⟨A, n, c'⟩ := a
  obtain ⟨B, m, d⟩ := b
  obtain ⟨C, q, e⟩ := c
  unfold endO
  cases he : eraAtP S ze z i with
  | none =>
    rw [he] at EA
    exact en_none A B C n c' m d q e z i w (Lib.hid EA)
  | some x =>
    rw [he] at EA
    obtain ⟨fx, hL, _⟩ := era_of ZO he
    have EN := fun X y W (hl : RulV W X (setL S.rules x.rules).length y (setL S.rules x.rules)) (t : ErasM W) => endPE hL x fx X y W hl t
    unfold RetXB at EA
    obtain ⟨off, kind, sav, rs, fmt, til, yr, ⟨mo, ki, wd, da, ti, re⟩⟩ := x
    cases til with
    | false => exact en_false A B C n c' m d q e off kind sav rs fmt yr mo ki wd da ti re z i (setL S.rules rs) w (Lib.hid EA)
    | true => exact en_true A B C n c' m d q e off kind sav rs fmt yr mo ki wd da ti re z i (setL S.rules rs) _ w T era_mono (Lib.hid EA) (Lib.hid EN)
structure OpenR (lo g n : Nat) (l : List Rl) (W : World) : Prop where
  lo : lo ≤ g
  rows : ∀ (i : Nat) (x : Rl), l[i]? = some x → ∀ (j : Nat) (v : Value), x.vals[j]? = some v → W.cell? ⟨g, i * 11 + j, none⟩ = some v
  open_ : ∀ k, k < n * 11 → W.frozen? ⟨g, k, none⟩ = false
  lt : g < W.heap.size
theorem OpenR.below {lo g n : Nat} {l : List Rl} {W W' : World} (h : OpenR lo g n l W) (k : Below W.heap.size W W') : OpenR lo g n l W' :=
  ⟨h.lo, fun i x hx j v hv => (k.cell (p := ⟨g, i * 11 + j, none⟩) h.lt).trans (h.rows i x hx j v hv), fun j hj => (k.frozen (p := ⟨g, j, none⟩) h.lt).trans (h.open_ j hj), Nat.lt_of_lt_of_le h.lt k.size⟩
theorem OpenR.again {lo g n : Nat} {l : List Rl} {W : World} (h : OpenR lo g n l W) {k : Nat} {v : Value} (e : W.cell? ⟨g, k, none⟩ = some v) : OpenR lo g n l (W.setCell ⟨g, k, none⟩ v) :=
  ⟨h.lo, fun i x hx j u hu => by
    by_cases c : i * 11 + j = k
    · subst c
      rw [World.cell?_setCell_same _ _ _ e, ← e]
      exact h.rows i x hx j u hu
    · rw [World.cell?_setCell_other _ _ _ _ (by simp <;> omega)]
      exact h.rows i x hx j u hu, fun j hj => by simpa using h.open_ j hj, by simpa [World.setCell] using h.lt⟩
theorem OwnR.open_ {w : World} {base g n c : Nat} {l : List Rl} (h : OwnR w base (.slice (some ⟨g, 0, none⟩) n c) l) (hn : l.length = n) : OpenR base g n l w := by
  subst hn
  exact ⟨(World.ownsRow.lt h g rfl).1, fun i x hx j v hv => by
    have hj : j < 11 := (List.getElem?_eq_some_iff.1 hv).1
    have := World.ownsRow.cells (g := g) h rfl (i * 11 + j) v (by rw [flatR_at hx j hj]; exact hv)
    rw [addr_add, Nat.zero_add] at this
    exact this, fun k _ => World.ownsRow.frozenAt h k, (World.ownsRow.lt h g rfl).2⟩
theorem OpenR.rulv {lo g n c : Nat} {l : List Rl} {W : World} (h : OpenR lo g n l W) (hn : l.length = n) (hc : n ≤ c) (hm : c ≤ maxLen) : RulV W (some ⟨g, 0, none⟩) n c l :=
  ⟨by simpa using hn, hc, hm, fun _ => ⟨g, 0, rfl, h.lt, fun i hi j u hu => by
    have hi' : i < l.length := by simpa using hi
    rw [List.getElem_map] at hu
    rw [Nat.zero_add]
    exact h.rows i _ (List.getElem?_eq_getElem hi') j u hu⟩⟩
def namesLe (l : List Rl) : Prop := ∀ x ∈ l, x.name.size ≤ 1000 ∧ x.letter.size ≤ 1000
def RetRl (w : World) (l : List Rl) (e : Ending) (w' : World) : Prop := ∃ A c, e = .returned (.slice A l.length c) ∧ RulV w' A l.length c l ∧ FreshS w.heap.size A ∧ Below w.heap.size w w'
theorem setAE (L : List Rl) (nm : ByteArray) (A B C : Option Addr) (n c m d q e : Nat) (w : World) (hm : RulV w A n c L) (small : n ≤ 900) (hz : namesLe (setL L nm)) : Calls Tryz.prog 30 #[.agg #[.slice A n c, .slice B m d, .slice C q e], .string nm] w (RetRl w (setL L nm)) := by
  have NC := Lib.hid (fun W (h : Below w.heap.size w W) => namedE L nm A B C n c m d q e W (hm.below h) small)
  have CC := Lib.hid (fun (s : ByteArray) (h : s.size ≤ 1000) W => cloneP s (by omega) W)
  clear hm
  generalize setL L nm = l at *
  have HZ := Lib.hid hz
  clear hz
  go_enter Tryz.func30, Tryz.ntmps30
  go_upto_region 1 with (fail)
  have KB := (BK.nil w).lit [.slice A n c, .slice B m d, .slice C q e] 26
  generalize w.alloc (.cells #[.slice A n c, .slice B m d, .slice C q e] 26) = W at *
  obtain ⟨_, x0, x1, x2, _⟩ := (KB.head).three
  go_upto_region 2 with (go_at_call 57; refine (NC.out _ KB.hb).mono ?_; have hb0 := KB.hb; have lw := KB.head.lt; clear NC KB x0 x1 x2; rintro e9 W9 ⟨v9, rfl, hw9, hk⟩; replace hb0 := below_thru hb0 hk)
  obtain ⟨X, y, rfl, hv⟩ := hw9.rulv
  have um : l.length ≤ y := hv.cap
  have ym : y ≤ 9223372036854775807 := hv.max
  cases X with
  | none =>
    obtain rfl : l = [] := by
      rcases hw9.2 with ⟨_, h⟩ | ⟨_, _, _, h, _⟩
      · exact List.eq_nil_of_length_eq_zero h
      · cases h
    go_wp2_with fail
    go_loopw [12] (fun v12 wr => v12 = .int .i64 0 ∧ wr = W9) (fun _ _ => 0)
    case atStart => exact ⟨rfl, rfl⟩
    case round =>
      obtain ⟨rfl, rfl⟩ := hrel
      go_wp2
      go_ret
      exact ⟨none, y, rfl, hv, (fun a h => by cases h), hb0⟩
  | some a0 =>
    obtain ⟨g, rfl⟩ := hw9.zero a0 rfl
    have HO := hw9.open_ rfl
    replace HO : OpenR w.heap.size g l.length l W9 := ⟨Nat.le_trans (Nat.le_of_lt lw) HO.lo, HO.rows, HO.open_, HO.lt⟩
    clear hw9 hv hk lw
    go_wp2_with fail
    go_loopw [12] (fun v12 wr => ∃ i : Nat, i ≤ l.length ∧ v12 = .int .i64 i ∧ OpenR w.heap.size g l.length l wr ∧ Below w.heap.size w wr) (fun v _ => l.length - (intOf v).toNat)
    case atStart => exact ⟨0, by omega, rfl, HO, hb0⟩
    case round =>
      clear HO hb0
      obtain ⟨i, hi, rfl, HO, hb⟩ := hrel
      by_cases h4 : i < l.length
      · obtain ⟨x, hxx⟩ : ∃ x, l[i]? = some x := ⟨_, List.getElem?_eq_getElem h4⟩
        obtain ⟨z1, z2⟩ := HZ.out x (List.mem_of_getElem? hxx)
        have C1 := Lib.hid (CC.out x.name z1)
        have C2 := Lib.hid (CC.out x.letter z2)
        have R0 : Hid (∀ W, OpenR w.heap.size g l.length l W → W.cell? ⟨g, i * 11, none⟩ = some (.string x.name)) := Lib.hid (fun W h => h.rows i x hxx 0 _ rfl)
        have R1 := Lib.hid (fun W (h : OpenR w.heap.size g l.length l W) => (h.rows i x hxx 10 _ rfl : W.cell? ⟨g, i * 11 + 10, none⟩ = some (.string x.letter)))
        have F0 := Lib.hid (fun W (h : OpenR w.heap.size g l.length l W) => h.open_ (i * 11) (by omega))
        have F1 := Lib.hid (fun W (h : OpenR w.heap.size g l.length l W) => h.open_ (i * 11 + 10) (by omega))
        clear hxx z1 z2
        generalize x.name = sn at *
        generalize x.letter = sl at *
        have c0 : wr.cell? ⟨g, i * 11, none⟩ = some (.string sn) := R0.out _ HO
        have c1 := R1.out _ HO
        have f0 := F0.out _ HO
        have f1 := F1.out _ HO
        go_wp2_with fail
        go_region_held3 (fun w' => w'.cell? ⟨g, i * 11, none⟩ = some (.string sn) ∧ w'.cell? ⟨g, i * 11 + 10, none⟩ = some (.string sl)) (first | (with_reducible exact ⟨R0.out _ HO, R1.out _ HO⟩) | (with_reducible exact ⟨R0.out _ (HO.below (Below.refl _ _).drew), R1.out _ (HO.below (Below.refl _ _).drew)⟩) | (with_reducible exact ⟨R0.out _ (HO.again (R0.out _ HO)), R1.out _ (HO.again (R0.out _ HO))⟩) | (with_reducible exact ⟨R0.out _ (HO.again (R1.out _ HO)), R1.out _ (HO.again (R1.out _ HO))⟩) | (with_reducible exact ⟨R0.out _ ((HO.below (Below.refl _ _).drew).again (R0.out _ (HO.below (Below.refl _ _).drew))), R1.out _ ((HO.below (Below.refl _ _).drew).again (R0.out _ (HO.below (Below.refl _ _).drew)))⟩) | (with_reducible exact ⟨R0.out _ ((HO.below (Below.refl _ _).drew).again (R1.out _ (HO.below (Below.refl _ _).drew))), R1.out _ ((HO.below (Below.refl _ _).drew).again (R1.out _ (HO.below (Below.refl _ _).drew)))⟩) | (with_reducible exact ⟨R0.out _ ((HO.again (R0.out _ HO)).again (R1.out _ (HO.again (R0.out _ HO)))), R1.out _ ((HO.again (R0.out _ HO)).again (R1.out _ (HO.again (R0.out _ HO))))⟩) | (with_reducible exact ⟨R0.out _ ((HO.again (R1.out _ HO)).again (R0.out _ (HO.again (R1.out _ HO)))), R1.out _ ((HO.again (R1.out _ HO)).again (R0.out _ (HO.again (R1.out _ HO))))⟩) | (with_reducible exact ⟨R0.out _ (((HO.below (Below.refl _ _).drew).again (R0.out _ (HO.below (Below.refl _ _).drew))).again (R1.out _ ((HO.below (Below.refl _ _).drew).again (R0.out _ (HO.below (Below.refl _ _).drew))))), R1.out _ (((HO.below (Below.refl _ _).drew).again (R0.out _ (HO.below (Below.refl _ _).drew))).again (R1.out _ ((HO.below (Below.refl _ _).drew).again (R0.out _ (HO.below (Below.refl _ _).drew)))))⟩) | (with_reducible exact ⟨R0.out _ (((HO.below (Below.refl _ _).drew).again (R1.out _ (HO.below (Below.refl _ _).drew))).again (R0.out _ ((HO.below (Below.refl _ _).drew).again (R1.out _ (HO.below (Below.refl _ _).drew))))), R1.out _ (((HO.below (Below.refl _ _).drew).again (R1.out _ (HO.below (Below.refl _ _).drew))).again (R0.out _ ((HO.below (Below.refl _ _).drew).again (R1.out _ (HO.below (Below.refl _ _).drew)))))⟩) | go_keep)
          (first
            | (go_at_call 22; (with_reducible refine (C1.out _).mono ?_); rintro e9 W10 ⟨rfl, hk⟩; (with_reducible first | (replace HO := HO.below hk; replace hb := below_thru hb hk) | (replace HO := (HO.below (Below.refl _ _).drew).below hk; replace hb := below_thru (hb.drew) hk)); clear hk c0 c1 f0 f1; have c0 : W10.cell? ⟨g, i * 11, none⟩ = some (.string sn) := R0.out _ HO; have c1 := R1.out _ HO; have f0 := F0.out _ HO; have f1 := F1.out _ HO)
            | (go_at_call 22; (with_reducible refine (C2.out _).mono ?_); rintro e9 W11 ⟨rfl, hk⟩; (with_reducible first | (replace HO := HO.below hk; replace hb := below_thru hb hk) | (replace HO := (HO.below (Below.refl _ _).drew).below hk; replace hb := below_thru (hb.drew) hk)); clear hk c0 c1 f0 f1; have c0 : W11.cell? ⟨g, i * 11, none⟩ = some (.string sn) := R0.out _ HO; have c1 := R1.out _ HO; have f0 := F0.out _ HO; have f1 := F1.out _ HO))
        all_goals
          go_wp2_with fail
          go_roundw
          case rel => exact ⟨i + 1, by omega, int_eqS (by omega), (HO.again (R0.out _ HO)).again (R1.out _ (HO.again (R0.out _ HO))), (hb.setCell (p := ⟨g, i * 11, none⟩) HO.lo _).setCell (p := ⟨g, i * 11 + 10, none⟩) HO.lo _⟩
          case measure => simp only [intOf]; omega
      · obtain rfl : i = l.length := by omega
        go_wp2
        go_ret
        exact ⟨_, y, rfl, HO.rulv rfl um ym, (fun a h => by cases h; exact ⟨_, rfl, HO.lo⟩), hb⟩
theorem flat_row {k : Nat} : ∀ {l : List (List Value)} {i : Nat}, (∀ x ∈ l, x.length = k) → (hi : i < l.length) → ∀ (j : Nat) (u : Value), l[i][j]? = some u → l.flatten[i * k + j]? = some u
  | [], i, _, hi, _, _, _ => absurd hi (by simp)
  | x :: r, 0, h, _, j, u, hu => by
    have hj : j < x.length := (List.getElem?_eq_some_iff.1 hu).1
    rw [List.flatten_cons, Nat.zero_mul, Nat.zero_add, List.getElem?_append_left hj]
    exact hu
  | x :: r, i + 1, h, hi, j, u, hu => by
    have hx := h x (List.mem_cons_self ..)
    rw [List.flatten_cons, List.getElem?_append_right (by rw [hx, Nat.succ_mul]; omega), hx, show (i + 1) * k + j - k = i * k + j by rw [Nat.succ_mul]; omega]
    exact flat_row (l := r) (i := i) (fun z hz => h z (List.mem_cons_of_mem _ hz)) (by simpa using hi) j u (by simpa using hu)
theorem Rs.ofBlk {k : Nat} {W : World} {g : Nat} {l : List (List Value)} {n : Nat} (h : Blk W g l.flatten) (hk : ∀ x ∈ l, x.length = k) (hn : l.length = n) (hm : n ≤ maxLen) : Rs k W (some ⟨g, 0, none⟩) n n l :=
  ⟨hn, Nat.le_refl _, hm, fun _ => ⟨g, 0, rfl, h.lt, fun i hi j u hu => by
    have := blk_news h (i * k + j) u (flat_row hk hi j u hu)
    rw [addr_add, Nat.zero_add] at this
    rw [Nat.zero_add]
    exact this⟩⟩
end Go.Proofs.YtmhpnmlgfdomkaaGreatDoor
