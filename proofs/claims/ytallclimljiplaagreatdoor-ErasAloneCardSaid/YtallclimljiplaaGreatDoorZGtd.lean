import Derived.Test.YtallclimljiplaaGreatDoorZGtc
import Derived.Test.YtallclimljiplaaGreatDoorZGp
import Derived.Test.YtallclimljiplaaGreatDoorZGtb
import Derived.Laws.OwnMore
set_option maxRecDepth 100000
set_option maxHeartbeats 64000000
namespace Go.Proofs.YtallclimljiplaaGreatDoor
open Go.RowKit
noncomputable def zoneAt (S : Sr) (ze : List Ze) (z : Int) : Option Ze := if okSr S = true ∧ 0 ≤ z then ze[z.toNat]? else none
noncomputable def eraAtP (S : Sr) (ze : List Ze) (z e : Int) : Option Er := match zoneAt S ze z with | some p => if 0 ≤ e then p.1.eras[e.toNat]? else none | none => none
def RetEs (w : World) (o : Option Ze) (e : Ending) (w' : World) : Prop := e = .returned (match o with | some p => .tuple #[p.2.val, .bool true] | none => .tuple #[.slice none 0 0, .bool false]) ∧ Below w.heap.size w w'
theorem zone_far {S : Sr} {ze : List Ze} {m : Nat} (hn : ze.length = m) {z : Int} (h : ¬ (z < m)) : zoneAt S ze z = none := by
  unfold zoneAt
  by_cases c : okSr S = true ∧ 0 ≤ z
  · rw [if_pos c]; exact List.getElem?_eq_none (by omega)
  · rw [if_neg c]
theorem eo_neg (A B C : Option Addr) (n c m d q e : Nat) (z : Int) (w : World) (h0 : decide (z < 0) = true) : Calls Tryz.prog 34 #[.agg #[.slice A n c, .slice B m d, .slice C q e], .int .i64 z] w (fun e w' => e = .returned (.tuple #[.slice none 0 0, .bool false]) ∧ Below w.heap.size w w') := by
  go_enter Tryz.func34, Tryz.ntmps34
  go_upto_region 1 with (fail)
  have KB := (BK.nil w).lit [.slice A n c, .slice B m d, .slice C q e] 29
  rw [show ([.slice A n c, .slice B m d, .slice C q e] : List Value).toArray = #[.slice A n c, .slice B m d, .slice C q e] from rfl] at KB
  generalize w.alloc (.cells #[.slice A n c, .slice B m d, .slice C q e] 29) = W at *
  obtain ⟨_, x0, x1, x2, _⟩ := (KB.head).three
  go_wp2
  go_ret2
  exact ⟨rfl, KB.hb⟩
theorem eo_far (A B C : Option Addr) (n c m d q e : Nat) (z : Int) (w : World) (h0 : decide (z < 0) = false) (h1 : decide (z ≥ (m : Int)) = true) : Calls Tryz.prog 34 #[.agg #[.slice A n c, .slice B m d, .slice C q e], .int .i64 z] w (fun e w' => e = .returned (.tuple #[.slice none 0 0, .bool false]) ∧ Below w.heap.size w w') := by
  go_enter Tryz.func34, Tryz.ntmps34
  go_upto_region 1 with (fail)
  have KB := (BK.nil w).lit [.slice A n c, .slice B m d, .slice C q e] 29
  rw [show ([.slice A n c, .slice B m d, .slice C q e] : List Value).toArray = #[.slice A n c, .slice B m d, .slice C q e] from rfl] at KB
  generalize w.alloc (.cells #[.slice A n c, .slice B m d, .slice C q e] 29) = W at *
  obtain ⟨_, x0, x1, x2, _⟩ := (KB.head).three
  go_wp2
  go_ret2
  exact ⟨rfl, KB.hb⟩
theorem eo_bad (A B C : Option Addr) (n c m d q e : Nat) (z : Int) (w : World) (h0 : decide (z < 0) = false) (h1 : decide (z ≥ (m : Int)) = false) (RG : Hid (∀ W, Below w.heap.size w W → Calls Tryz.prog 58 #[.agg #[.slice A n c, .slice B m d, .slice C q e]] W (RetV W (.bool false)))) : Calls Tryz.prog 34 #[.agg #[.slice A n c, .slice B m d, .slice C q e], .int .i64 z] w (fun e w' => e = .returned (.tuple #[.slice none 0 0, .bool false]) ∧ Below w.heap.size w w') := by
  go_enter Tryz.func34, Tryz.ntmps34
  go_upto_region 1 with (fail)
  have KB := (BK.nil w).lit [.slice A n c, .slice B m d, .slice C q e] 29
  rw [show ([.slice A n c, .slice B m d, .slice C q e] : List Value).toArray = #[.slice A n c, .slice B m d, .slice C q e] from rfl] at KB
  generalize w.alloc (.cells #[.slice A n c, .slice B m d, .slice C q e] 29) = W at *
  obtain ⟨_, x0, x1, x2, _⟩ := (KB.head).three
  go_wp2_with (go_at_call 58; refine (RG.out _ KB.hb).mono ?_; clear RG; rintro e9 W9 ⟨rfl, hk⟩; replace KB := KB.below hk; clear hk x0 x1 x2; obtain ⟨_, x0, x1, x2, _⟩ := (KB.head).three)
  go_ret2
  exact ⟨rfl, KB.hb⟩
theorem eo_hit (g : Nat) (g0 : Nat) (A C : Option Addr) (n c m d q e : Nat) (z : Nat) (hz : z < m) (_hm : m ≤ d) (hd : d ≤ maxLen) (Z : Option Addr) (u cu : Nat) (w : World) (hg : g < w.heap.size) (c1 : w.cell? ⟨g, g0 + z * 2 + 1, none⟩ = some (.slice Z u cu)) (RG : Hid (∀ W, Below w.heap.size w W → Calls Tryz.prog 58 #[.agg #[.slice A n c, .slice (some ⟨g, g0, none⟩) m d, .slice C q e]] W (RetV W (.bool true)))) : Calls Tryz.prog 34 #[.agg #[.slice A n c, .slice (some ⟨g, g0, none⟩) m d, .slice C q e], .int .i64 (z : Int)] w (fun e w' => e = .returned (.tuple #[.slice Z u cu, .bool true]) ∧ Below w.heap.size w w') := by
  have dm : d ≤ 9223372036854775807 := hd
  have h0 : decide ((z : Int) < 0) = false := decide_eq_false (by omega)
  have h1 : decide ((z : Int) ≥ (m : Int)) = false := decide_eq_false (by omega)
  go_enter Tryz.func34, Tryz.ntmps34
  go_upto_region 1 with (fail)
  have KB := (BK.nil w).lit [.slice A n c, .slice (some ⟨g, g0, none⟩) m d, .slice C q e] 29
  rw [show ([.slice A n c, .slice (some ⟨g, g0, none⟩) m d, .slice C q e] : List Value).toArray = #[.slice A n c, .slice (some ⟨g, g0, none⟩) m d, .slice C q e] from rfl] at KB
  generalize w.alloc (.cells #[.slice A n c, .slice (some ⟨g, g0, none⟩) m d, .slice C q e] 29) = W at *
  obtain ⟨_, x0, x1, x2, _⟩ := (KB.head).three
  go_wp2_with (go_at_call 58; refine (RG.out _ KB.hb).mono ?_; clear RG; rintro e9 W9 ⟨rfl, hk⟩; replace KB := KB.below hk; clear hk x0 x1 x2; obtain ⟨_, x0, x1, x2, _⟩ := (KB.head).three; have y1 := (KB.hb.cell (p := ⟨g, g0 + z * 2 + 1, none⟩) hg).trans c1)
  go_ret2
  exact ⟨rfl, KB.hb⟩
theorem erasOfE (S : Sr) (a b c : Hd) (ze : List Ze) (w : World) (hv : SrcV w S a b c ze) (hx : S.in64) (z : Int) : Calls Tryz.prog 34 #[.agg #[a.val, b.val, c.val], .int .i64 z] w (RetEs w (zoneAt S ze z)) := by
  have hn : ze.length = b.n := by have := hv.zones.len; simpa using this
  have RG := fun W (h : Below w.heap.size w W) => rightSrcP S a b c ze W (hv.below h) hx
  obtain ⟨A, n, c'⟩ := a
  obtain ⟨B, m, d⟩ := b
  obtain ⟨C, q, e⟩ := c
  replace hn : ze.length = m := hn
  by_cases h0 : z < 0
  · rw [show zoneAt S ze z = none by unfold zoneAt; rw [if_neg (by omega)]]
    exact eo_neg A B C n c' m d q e z w (decide_eq_true h0)
  · by_cases h1 : z ≥ (m : Int)
    · rw [show zoneAt S ze z = none from zone_far hn (by omega)]
      exact eo_far A B C n c' m d q e z w (decide_eq_false h0) (decide_eq_true h1)
    · cases hb : okSr S with
      | false =>
        rw [hb] at RG
        rw [show zoneAt S ze z = none by unfold zoneAt; rw [if_neg (by rw [hb]; simp)]]
        exact eo_bad A B C n c' m d q e z w (decide_eq_false h0) (decide_eq_false h1) (Lib.hid RG)
      | true =>
        rw [hb] at RG
        have hz : z.toNat < ze.length := by omega
        obtain ⟨p, hp⟩ : ∃ p, ze[z.toNat]? = some p := ⟨_, List.getElem?_eq_getElem hz⟩
        rw [show zoneAt S ze z = some p by unfold zoneAt; rw [if_pos ⟨hb, by omega⟩]; exact hp]
        obtain ⟨g, o, eB, hg, ca⟩ := hv.zones.cells (by show 0 < m; omega)
        have eB : B = some ⟨g, o, none⟩ := eB
        subst eB
        have ra := row_at ca (show (ze.map Ze.vals)[z.toNat]? = some (Ze.vals p) by rw [List.getElem?_map, hp]; rfl)
        obtain ⟨⟨nm, es⟩, ⟨Z, u, cu⟩⟩ := p
        have c1 : w.cell? ⟨g, o + z.toNat * 2 + 1, none⟩ = some (.slice Z u cu) := ra 1 _ rfl
        have := eo_hit g o A C n c' m d q e z.toNat (by omega) hv.zones.cap hv.zones.max Z u cu w hg c1 (Lib.hid RG)
        rw [show ((z.toNat : Nat) : Int) = z by omega] at this
        exact this
theorem Rs.farF {k : Nat} {W : World} {A : Option Addr} {n c : Nat} {l : List (List Value)} (h : Rs k W A n c l) {lo b : Nat} (f : FreshS lo A) (hb : b < lo) (vs : List Value) : Rs k (setAll W b 0 vs) A n c l :=
  h.far (fun g e => by obtain ⟨g', e', le⟩ := f _ e; cases e'; omega) (fun a e => by obtain ⟨g, e', _⟩ := f a e; exact ⟨g, e'⟩) vs
def zeroX : Value := .agg #[.int .i64 0, .int .i64 0, .int .i64 0, .string ⟨#[]⟩, .string ⟨#[]⟩, .bool false, .int .i64 0, .int .i64 0, .int .i64 0, .int .i64 0, .int .i64 0, .int .i64 0, .int .i64 0, .slice none 0 0]
def RetXB (w : World) (L : List Rl) (o : Option Er) (e : Ending) (w' : World) : Prop := match o with
  | none => e = .returned (.tuple #[zeroX, .bool false]) ∧ Below w.heap.size w w'
  | some x => ∃ X y, e = .returned (.tuple #[x.xval (.slice X (setL L x.rules).length y), .bool true]) ∧ RulV w' X (setL L x.rules).length y (setL L x.rules) ∧ Below w.heap.size w w'
theorem er_none (A B C : Option Addr) (n c m d q e : Nat) (z i : Int) (w : World)  (EO : Hid (∀ W, Below w.heap.size w W → Calls Tryz.prog 34 #[.agg #[.slice A n c, .slice B m d, .slice C q e], .int .i64 z] W (fun e w' => e = .returned (.tuple #[.slice none 0 0, .bool false]) ∧ Below W.heap.size W w'))) : Calls Tryz.prog 26 #[.agg #[.slice A n c, .slice B m d, .slice C q e], .int .i64 z, .int .i64 i] w (fun e w' => e = .returned (.tuple #[.agg #[.int .i64 0, .int .i64 0, .int .i64 0, .string ⟨#[]⟩, .string ⟨#[]⟩, .bool false, .int .i64 0, .int .i64 0, .int .i64 0, .int .i64 0, .int .i64 0, .int .i64 0, .int .i64 0, .slice none 0 0], .bool false]) ∧ Below w.heap.size w w') := by
  go_enter Tryz.func26, Tryz.ntmps26
  go_upto_region 1 with (fail)
  have KB := (BK.nil w).lit [.slice A n c, .slice B m d, .slice C q e] 29
  rw [show ([.slice A n c, .slice B m d, .slice C q e] : List Value).toArray = #[.slice A n c, .slice B m d, .slice C q e] from rfl] at KB
  replace KB := KB.lit [.int .i64 0, .int .i64 0, .int .i64 0, .string ⟨#[]⟩, .string ⟨#[]⟩, .bool false, .int .i64 0, .int .i64 0, .int .i64 0, .int .i64 0, .int .i64 0, .int .i64 0, .int .i64 0, .slice none 0 0] 59
  rw [show ([.int .i64 0, .int .i64 0, .int .i64 0, .string ⟨#[]⟩, .string ⟨#[]⟩, .bool false, .int .i64 0, .int .i64 0, .int .i64 0, .int .i64 0, .int .i64 0, .int .i64 0, .int .i64 0, .slice none 0 0] : List Value).toArray = #[.int .i64 0, .int .i64 0, .int .i64 0, .string ⟨#[]⟩, .string ⟨#[]⟩, .bool false, .int .i64 0, .int .i64 0, .int .i64 0, .int .i64 0, .int .i64 0, .int .i64 0, .int .i64 0, .slice none 0 0] from rfl] at KB
  generalize (w.alloc (.cells #[.slice A n c, .slice B m d, .slice C q e] 29)).alloc (.cells #[.int .i64 0, .int .i64 0, .int .i64 0, .string ⟨#[]⟩, .string ⟨#[]⟩, .bool false, .int .i64 0, .int .i64 0, .int .i64 0, .int .i64 0, .int .i64 0, .int .i64 0, .int .i64 0, .slice none 0 0] 59) = W at *
  simp only [World.size_alloc] at *
  obtain ⟨_, x0, x1, x2, _⟩ := (KB.tail.head).three
  go_wp2_with (go_at_call 34; refine (EO.out _ KB.hb).mono ?_; clear EO; rintro e9 W9 ⟨rfl, hk⟩; replace KB := KB.below hk; clear hk x0 x1 x2; obtain ⟨_, x0, x1, x2, _⟩ := (KB.tail.head).three; obtain ⟨lt, z0, z1, z2, z3, z4, z5, z6, z7, z8, z9, z10, z11, z12, z13, g0, g1, g2, g3, g4, g5, g6, g7, g8, g9, g10, g11, g12, g13⟩ := KB.head.fourteen)
  have KF := KB.put14 (.int .i64 0) (.int .i64 0) (.int .i64 0) (.string ⟨#[]⟩) (.string ⟨#[]⟩) (.bool false) (.int .i64 0) (.int .i64 0) (.int .i64 0) (.int .i64 0) (.int .i64 0) (.int .i64 0) (.int .i64 0) (.slice none 0 0) (by omega) (by intro y hy; simp only [List.mem_cons, List.not_mem_nil, or_false] at hy; subst hy; (show ¬ _ = _; first | omega | (simp only []; omega)))
  obtain ⟨_, P0, P1, P2, P3, P4, P5, P6, P7, P8, P9, P10, P11, P12, P13, _⟩ := KF.head.fourteen
  exact bodyPost_ret (v := .tuple #[.agg #[.int .i64 0, .int .i64 0, .int .i64 0, .string ⟨#[]⟩, .string ⟨#[]⟩, .bool false, .int .i64 0, .int .i64 0, .int .i64 0, .int .i64 0, .int .i64 0, .int .i64 0, .int .i64 0, .slice none 0 0], .bool false]) (by simp [results, Tryz.results26, go_sem, P0, P1, P2, P3, P4, P5, P6, P7, P8, P9, P10, P11, P12, P13]) rfl ⟨rfl, KF.hb⟩
theorem er_neg (A B C : Option Addr) (n c m d q e : Nat) (z i : Int) (w : World) (Z : Option Addr) (u cu : Nat) (h0 : decide (i < 0) = true) (EO : Hid (∀ W, Below w.heap.size w W → Calls Tryz.prog 34 #[.agg #[.slice A n c, .slice B m d, .slice C q e], .int .i64 z] W (fun e w' => e = .returned (.tuple #[.slice Z u cu, .bool true]) ∧ Below W.heap.size W w'))) : Calls Tryz.prog 26 #[.agg #[.slice A n c, .slice B m d, .slice C q e], .int .i64 z, .int .i64 i] w (fun e w' => e = .returned (.tuple #[.agg #[.int .i64 0, .int .i64 0, .int .i64 0, .string ⟨#[]⟩, .string ⟨#[]⟩, .bool false, .int .i64 0, .int .i64 0, .int .i64 0, .int .i64 0, .int .i64 0, .int .i64 0, .int .i64 0, .slice none 0 0], .bool false]) ∧ Below w.heap.size w w') := by
  go_enter Tryz.func26, Tryz.ntmps26
  go_upto_region 1 with (fail)
  have KB := (BK.nil w).lit [.slice A n c, .slice B m d, .slice C q e] 29
  rw [show ([.slice A n c, .slice B m d, .slice C q e] : List Value).toArray = #[.slice A n c, .slice B m d, .slice C q e] from rfl] at KB
  replace KB := KB.lit [.int .i64 0, .int .i64 0, .int .i64 0, .string ⟨#[]⟩, .string ⟨#[]⟩, .bool false, .int .i64 0, .int .i64 0, .int .i64 0, .int .i64 0, .int .i64 0, .int .i64 0, .int .i64 0, .slice none 0 0] 59
  rw [show ([.int .i64 0, .int .i64 0, .int .i64 0, .string ⟨#[]⟩, .string ⟨#[]⟩, .bool false, .int .i64 0, .int .i64 0, .int .i64 0, .int .i64 0, .int .i64 0, .int .i64 0, .int .i64 0, .slice none 0 0] : List Value).toArray = #[.int .i64 0, .int .i64 0, .int .i64 0, .string ⟨#[]⟩, .string ⟨#[]⟩, .bool false, .int .i64 0, .int .i64 0, .int .i64 0, .int .i64 0, .int .i64 0, .int .i64 0, .int .i64 0, .slice none 0 0] from rfl] at KB
  generalize (w.alloc (.cells #[.slice A n c, .slice B m d, .slice C q e] 29)).alloc (.cells #[.int .i64 0, .int .i64 0, .int .i64 0, .string ⟨#[]⟩, .string ⟨#[]⟩, .bool false, .int .i64 0, .int .i64 0, .int .i64 0, .int .i64 0, .int .i64 0, .int .i64 0, .int .i64 0, .slice none 0 0] 59) = W at *
  simp only [World.size_alloc] at *
  obtain ⟨_, x0, x1, x2, _⟩ := (KB.tail.head).three
  go_wp2_with (go_at_call 34; refine (EO.out _ KB.hb).mono ?_; clear EO; rintro e9 W9 ⟨rfl, hk⟩; replace KB := KB.below hk; clear hk x0 x1 x2; obtain ⟨_, x0, x1, x2, _⟩ := (KB.tail.head).three; obtain ⟨lt, z0, z1, z2, z3, z4, z5, z6, z7, z8, z9, z10, z11, z12, z13, g0, g1, g2, g3, g4, g5, g6, g7, g8, g9, g10, g11, g12, g13⟩ := KB.head.fourteen)
  have KF := KB.put14 (.int .i64 0) (.int .i64 0) (.int .i64 0) (.string ⟨#[]⟩) (.string ⟨#[]⟩) (.bool false) (.int .i64 0) (.int .i64 0) (.int .i64 0) (.int .i64 0) (.int .i64 0) (.int .i64 0) (.int .i64 0) (.slice none 0 0) (by omega) (by intro y hy; simp only [List.mem_cons, List.not_mem_nil, or_false] at hy; subst hy; (show ¬ _ = _; first | omega | (simp only []; omega)))
  obtain ⟨_, P0, P1, P2, P3, P4, P5, P6, P7, P8, P9, P10, P11, P12, P13, _⟩ := KF.head.fourteen
  exact bodyPost_ret (v := .tuple #[.agg #[.int .i64 0, .int .i64 0, .int .i64 0, .string ⟨#[]⟩, .string ⟨#[]⟩, .bool false, .int .i64 0, .int .i64 0, .int .i64 0, .int .i64 0, .int .i64 0, .int .i64 0, .int .i64 0, .slice none 0 0], .bool false]) (by simp [results, Tryz.results26, go_sem, P0, P1, P2, P3, P4, P5, P6, P7, P8, P9, P10, P11, P12, P13]) rfl ⟨rfl, KF.hb⟩
theorem er_far (A B C : Option Addr) (n c m d q e : Nat) (z i : Int) (w : World) (Z : Option Addr) (u cu : Nat) (h0 : decide (i < 0) = false) (h1 : decide (i ≥ (u : Int)) = true) (EO : Hid (∀ W, Below w.heap.size w W → Calls Tryz.prog 34 #[.agg #[.slice A n c, .slice B m d, .slice C q e], .int .i64 z] W (fun e w' => e = .returned (.tuple #[.slice Z u cu, .bool true]) ∧ Below W.heap.size W w'))) : Calls Tryz.prog 26 #[.agg #[.slice A n c, .slice B m d, .slice C q e], .int .i64 z, .int .i64 i] w (fun e w' => e = .returned (.tuple #[.agg #[.int .i64 0, .int .i64 0, .int .i64 0, .string ⟨#[]⟩, .string ⟨#[]⟩, .bool false, .int .i64 0, .int .i64 0, .int .i64 0, .int .i64 0, .int .i64 0, .int .i64 0, .int .i64 0, .slice none 0 0], .bool false]) ∧ Below w.heap.size w w') := by
  go_enter Tryz.func26, Tryz.ntmps26
  go_upto_region 1 with (fail)
  have KB := (BK.nil w).lit [.slice A n c, .slice B m d, .slice C q e] 29
  rw [show ([.slice A n c, .slice B m d, .slice C q e] : List Value).toArray = #[.slice A n c, .slice B m d, .slice C q e] from rfl] at KB
  replace KB := KB.lit [.int .i64 0, .int .i64 0, .int .i64 0, .string ⟨#[]⟩, .string ⟨#[]⟩, .bool false, .int .i64 0, .int .i64 0, .int .i64 0, .int .i64 0, .int .i64 0, .int .i64 0, .int .i64 0, .slice none 0 0] 59
  rw [show ([.int .i64 0, .int .i64 0, .int .i64 0, .string ⟨#[]⟩, .string ⟨#[]⟩, .bool false, .int .i64 0, .int .i64 0, .int .i64 0, .int .i64 0, .int .i64 0, .int .i64 0, .int .i64 0, .slice none 0 0] : List Value).toArray = #[.int .i64 0, .int .i64 0, .int .i64 0, .string ⟨#[]⟩, .string ⟨#[]⟩, .bool false, .int .i64 0, .int .i64 0, .int .i64 0, .int .i64 0, .int .i64 0, .int .i64 0, .int .i64 0, .slice none 0 0] from rfl] at KB
  generalize (w.alloc (.cells #[.slice A n c, .slice B m d, .slice C q e] 29)).alloc (.cells #[.int .i64 0, .int .i64 0, .int .i64 0, .string ⟨#[]⟩, .string ⟨#[]⟩, .bool false, .int .i64 0, .int .i64 0, .int .i64 0, .int .i64 0, .int .i64 0, .int .i64 0, .int .i64 0, .slice none 0 0] 59) = W at *
  simp only [World.size_alloc] at *
  obtain ⟨_, x0, x1, x2, _⟩ := (KB.tail.head).three
  go_wp2_with (go_at_call 34; refine (EO.out _ KB.hb).mono ?_; clear EO; rintro e9 W9 ⟨rfl, hk⟩; replace KB := KB.below hk; clear hk x0 x1 x2; obtain ⟨_, x0, x1, x2, _⟩ := (KB.tail.head).three; obtain ⟨lt, z0, z1, z2, z3, z4, z5, z6, z7, z8, z9, z10, z11, z12, z13, g0, g1, g2, g3, g4, g5, g6, g7, g8, g9, g10, g11, g12, g13⟩ := KB.head.fourteen)
  have KF := KB.put14 (.int .i64 0) (.int .i64 0) (.int .i64 0) (.string ⟨#[]⟩) (.string ⟨#[]⟩) (.bool false) (.int .i64 0) (.int .i64 0) (.int .i64 0) (.int .i64 0) (.int .i64 0) (.int .i64 0) (.int .i64 0) (.slice none 0 0) (by omega) (by intro y hy; simp only [List.mem_cons, List.not_mem_nil, or_false] at hy; subst hy; (show ¬ _ = _; first | omega | (simp only []; omega)))
  obtain ⟨_, P0, P1, P2, P3, P4, P5, P6, P7, P8, P9, P10, P11, P12, P13, _⟩ := KF.head.fourteen
  exact bodyPost_ret (v := .tuple #[.agg #[.int .i64 0, .int .i64 0, .int .i64 0, .string ⟨#[]⟩, .string ⟨#[]⟩, .bool false, .int .i64 0, .int .i64 0, .int .i64 0, .int .i64 0, .int .i64 0, .int .i64 0, .int .i64 0, .slice none 0 0], .bool false]) (by simp [results, Tryz.results26, go_sem, P0, P1, P2, P3, P4, P5, P6, P7, P8, P9, P10, P11, P12, P13]) rfl ⟨rfl, KF.hb⟩
theorem er_hit (A B C : Option Addr) (n c m d q e : Nat) (off kind sav : Int) (rs fmt : ByteArray) (til : Bool) (yr mo ki wd da ti re : Int) (z : Int) (i : Nat) (g o u cu : Nat) (hi : i < u) (_hu : u ≤ cu) (hc : cu ≤ maxLen) (l : List Rl) (w : World) (hg : g < w.heap.size) (e0 : w.cell? ⟨g, o + i * 13, none⟩ = some (.int .i64 off)) (e1 : w.cell? ⟨g, o + i * 13 + 1, none⟩ = some (.int .i64 kind)) (e2 : w.cell? ⟨g, o + i * 13 + 2, none⟩ = some (.int .i64 sav)) (e3 : w.cell? ⟨g, o + i * 13 + 3, none⟩ = some (.string rs)) (e4 : w.cell? ⟨g, o + i * 13 + 4, none⟩ = some (.string fmt)) (e5 : w.cell? ⟨g, o + i * 13 + 5, none⟩ = some (.bool til)) (e6 : w.cell? ⟨g, o + i * 13 + 6, none⟩ = some (.int .i64 yr)) (e7 : w.cell? ⟨g, o + i * 13 + 7, none⟩ = some (.int .i64 mo)) (e8 : w.cell? ⟨g, o + i * 13 + 8, none⟩ = some (.int .i64 ki)) (e9 : w.cell? ⟨g, o + i * 13 + 9, none⟩ = some (.int .i64 wd)) (e10 : w.cell? ⟨g, o + i * 13 + 10, none⟩ = some (.int .i64 da)) (e11 : w.cell? ⟨g, o + i * 13 + 11, none⟩ = some (.int .i64 ti)) (e12 : w.cell? ⟨g, o + i * 13 + 12, none⟩ = some (.int .i64 re)) (EO : Hid (∀ W, Below w.heap.size w W → Calls Tryz.prog 34 #[.agg #[.slice A n c, .slice B m d, .slice C q e], .int .i64 z] W (fun e w' => e = .returned (.tuple #[.slice (some ⟨g, o, none⟩) u cu, .bool true]) ∧ Below W.heap.size W w')))
    (WS : Hid (∀ W, Below w.heap.size w W → Calls Tryz.prog 41 #[.agg #[.slice A n c, .slice B m d, .slice C q e], .agg #[.int .i64 off, .int .i64 kind, .int .i64 sav, .string rs, .string fmt, .bool til, .int .i64 yr, .int .i64 mo, .int .i64 ki, .int .i64 wd, .int .i64 da, .int .i64 ti, .int .i64 re]] W (fun e w' => ∃ X y, e = .returned (.agg #[.int .i64 off, .int .i64 kind, .int .i64 sav, .string rs, .string fmt, .bool til, .int .i64 yr, .int .i64 mo, .int .i64 ki, .int .i64 wd, .int .i64 da, .int .i64 ti, .int .i64 re, .slice X l.length y]) ∧ RulV w' X l.length y l ∧ FreshS W.heap.size X ∧ Below W.heap.size W w'))) :
    Calls Tryz.prog 26 #[.agg #[.slice A n c, .slice B m d, .slice C q e], .int .i64 z, .int .i64 (i : Int)] w (fun e w' => ∃ X y, e = .returned (.tuple #[.agg #[.int .i64 off, .int .i64 kind, .int .i64 sav, .string rs, .string fmt, .bool til, .int .i64 yr, .int .i64 mo, .int .i64 ki, .int .i64 wd, .int .i64 da, .int .i64 ti, .int .i64 re, .slice X l.length y], .bool true]) ∧ RulV w' X l.length y l ∧ Below w.heap.size w w') := by
  have um : cu ≤ 9223372036854775807 := hc
  have h0 : decide ((i : Int) < 0) = false := decide_eq_false (by omega)
  have h1 : decide ((i : Int) ≥ (u : Int)) = false := decide_eq_false (by omega)
  have E0 := Lib.hid e0
  have E1 := Lib.hid e1
  have E2 := Lib.hid e2
  have E3 := Lib.hid e3
  have E4 := Lib.hid e4
  have E5 := Lib.hid e5
  have E6 := Lib.hid e6
  have E7 := Lib.hid e7
  have E8 := Lib.hid e8
  have E9 := Lib.hid e9
  have E10 := Lib.hid e10
  have E11 := Lib.hid e11
  have E12 := Lib.hid e12
  have n1 : w.heap.size + 1 ≠ g := by omega
  have n2 : g ≠ w.heap.size + 1 := by omega
  clear e0 e1 e2 e3 e4 e5 e6 e7 e8 e9 e10 e11 e12
  go_enter Tryz.func26, Tryz.ntmps26
  go_upto_region 1 with (fail)
  have KB := (BK.nil w).lit [.slice A n c, .slice B m d, .slice C q e] 29
  rw [show ([.slice A n c, .slice B m d, .slice C q e] : List Value).toArray = #[.slice A n c, .slice B m d, .slice C q e] from rfl] at KB
  replace KB := KB.lit [.int .i64 0, .int .i64 0, .int .i64 0, .string ⟨#[]⟩, .string ⟨#[]⟩, .bool false, .int .i64 0, .int .i64 0, .int .i64 0, .int .i64 0, .int .i64 0, .int .i64 0, .int .i64 0, .slice none 0 0] 59
  rw [show ([.int .i64 0, .int .i64 0, .int .i64 0, .string ⟨#[]⟩, .string ⟨#[]⟩, .bool false, .int .i64 0, .int .i64 0, .int .i64 0, .int .i64 0, .int .i64 0, .int .i64 0, .int .i64 0, .slice none 0 0] : List Value).toArray = #[.int .i64 0, .int .i64 0, .int .i64 0, .string ⟨#[]⟩, .string ⟨#[]⟩, .bool false, .int .i64 0, .int .i64 0, .int .i64 0, .int .i64 0, .int .i64 0, .int .i64 0, .int .i64 0, .slice none 0 0] from rfl] at KB
  generalize (w.alloc (.cells #[.slice A n c, .slice B m d, .slice C q e] 29)).alloc (.cells #[.int .i64 0, .int .i64 0, .int .i64 0, .string ⟨#[]⟩, .string ⟨#[]⟩, .bool false, .int .i64 0, .int .i64 0, .int .i64 0, .int .i64 0, .int .i64 0, .int .i64 0, .int .i64 0, .slice none 0 0] 59) = W at *
  simp only [World.size_alloc] at *
  obtain ⟨_, x0, x1, x2, _⟩ := (KB.tail.head).three
  go_wp2_with (go_at_call 34; refine (EO.out _ KB.hb).mono ?_; clear EO; rintro e9 W9 ⟨rfl, hk⟩; replace KB := KB.below hk; clear hk x0 x1 x2; obtain ⟨_, x0, x1, x2, _⟩ := (KB.tail.head).three; obtain ⟨lt, z0, z1, z2, z3, z4, z5, z6, z7, z8, z9, z10, z11, z12, z13, g0, g1, g2, g3, g4, g5, g6, g7, g8, g9, g10, g11, g12, g13⟩ := KB.head.fourteen)
  clear z0 z1 z2 z3 z4 z5 z6 z7 z8 z9 z10 z11 z12 z13 g0 g1 g2 g3 g4 g5 g6 g7 g8 g9 g10 g11 g12 g13 lt
  have y0 := (KB.hb.cell (p := ⟨g, o + i * 13, none⟩) hg).trans E0.out
  have y1 := (KB.hb.cell (p := ⟨g, o + i * 13 + 1, none⟩) hg).trans E1.out
  have y2 := (KB.hb.cell (p := ⟨g, o + i * 13 + 2, none⟩) hg).trans E2.out
  have y3 := (KB.hb.cell (p := ⟨g, o + i * 13 + 3, none⟩) hg).trans E3.out
  have y4 := (KB.hb.cell (p := ⟨g, o + i * 13 + 4, none⟩) hg).trans E4.out
  have y5 := (KB.hb.cell (p := ⟨g, o + i * 13 + 5, none⟩) hg).trans E5.out
  have y6 := (KB.hb.cell (p := ⟨g, o + i * 13 + 6, none⟩) hg).trans E6.out
  have y7 := (KB.hb.cell (p := ⟨g, o + i * 13 + 7, none⟩) hg).trans E7.out
  have y8 := (KB.hb.cell (p := ⟨g, o + i * 13 + 8, none⟩) hg).trans E8.out
  have y9 := (KB.hb.cell (p := ⟨g, o + i * 13 + 9, none⟩) hg).trans E9.out
  have y10 := (KB.hb.cell (p := ⟨g, o + i * 13 + 10, none⟩) hg).trans E10.out
  have y11 := (KB.hb.cell (p := ⟨g, o + i * 13 + 11, none⟩) hg).trans E11.out
  have y12 := (KB.hb.cell (p := ⟨g, o + i * 13 + 12, none⟩) hg).trans E12.out
  go_region_held3 (fun w' => w'.cell? ⟨g, o + i * 13, none⟩ = some (.int .i64 off) ∧ w'.cell? ⟨g, o + i * 13 + 1, none⟩ = some (.int .i64 kind) ∧ w'.cell? ⟨g, o + i * 13 + 2, none⟩ = some (.int .i64 sav) ∧ w'.cell? ⟨g, o + i * 13 + 3, none⟩ = some (.string rs) ∧ w'.cell? ⟨g, o + i * 13 + 4, none⟩ = some (.string fmt) ∧ w'.cell? ⟨g, o + i * 13 + 5, none⟩ = some (.bool til) ∧ w'.cell? ⟨g, o + i * 13 + 6, none⟩ = some (.int .i64 yr) ∧ w'.cell? ⟨g, o + i * 13 + 7, none⟩ = some (.int .i64 mo) ∧ w'.cell? ⟨g, o + i * 13 + 8, none⟩ = some (.int .i64 ki) ∧ w'.cell? ⟨g, o + i * 13 + 9, none⟩ = some (.int .i64 wd) ∧ w'.cell? ⟨g, o + i * 13 + 10, none⟩ = some (.int .i64 da) ∧ w'.cell? ⟨g, o + i * 13 + 11, none⟩ = some (.int .i64 ti) ∧ w'.cell? ⟨g, o + i * 13 + 12, none⟩ = some (.int .i64 re) ∧ w'.cell? ⟨w.heap.size, 0, none⟩ = some (.slice A n c) ∧ w'.cell? ⟨w.heap.size, 1, none⟩ = some (.slice B m d) ∧ w'.cell? ⟨w.heap.size, 2, none⟩ = some (.slice C q e)) (first | (with_reducible exact ⟨(KB.hb.cell (p := ⟨g, o + i * 13, none⟩) hg).trans E0.out, (KB.hb.cell (p := ⟨g, o + i * 13 + 1, none⟩) hg).trans E1.out, (KB.hb.cell (p := ⟨g, o + i * 13 + 2, none⟩) hg).trans E2.out, (KB.hb.cell (p := ⟨g, o + i * 13 + 3, none⟩) hg).trans E3.out, (KB.hb.cell (p := ⟨g, o + i * 13 + 4, none⟩) hg).trans E4.out, (KB.hb.cell (p := ⟨g, o + i * 13 + 5, none⟩) hg).trans E5.out, (KB.hb.cell (p := ⟨g, o + i * 13 + 6, none⟩) hg).trans E6.out, (KB.hb.cell (p := ⟨g, o + i * 13 + 7, none⟩) hg).trans E7.out, (KB.hb.cell (p := ⟨g, o + i * 13 + 8, none⟩) hg).trans E8.out, (KB.hb.cell (p := ⟨g, o + i * 13 + 9, none⟩) hg).trans E9.out, (KB.hb.cell (p := ⟨g, o + i * 13 + 10, none⟩) hg).trans E10.out, (KB.hb.cell (p := ⟨g, o + i * 13 + 11, none⟩) hg).trans E11.out, (KB.hb.cell (p := ⟨g, o + i * 13 + 12, none⟩) hg).trans E12.out, (KB.tail.head).three.2.1, (KB.tail.head).three.2.2.1, (KB.tail.head).three.2.2.2.1⟩) | (with_reducible exact ⟨(KB.drew.hb.cell (p := ⟨g, o + i * 13, none⟩) hg).trans E0.out, (KB.drew.hb.cell (p := ⟨g, o + i * 13 + 1, none⟩) hg).trans E1.out, (KB.drew.hb.cell (p := ⟨g, o + i * 13 + 2, none⟩) hg).trans E2.out, (KB.drew.hb.cell (p := ⟨g, o + i * 13 + 3, none⟩) hg).trans E3.out, (KB.drew.hb.cell (p := ⟨g, o + i * 13 + 4, none⟩) hg).trans E4.out, (KB.drew.hb.cell (p := ⟨g, o + i * 13 + 5, none⟩) hg).trans E5.out, (KB.drew.hb.cell (p := ⟨g, o + i * 13 + 6, none⟩) hg).trans E6.out, (KB.drew.hb.cell (p := ⟨g, o + i * 13 + 7, none⟩) hg).trans E7.out, (KB.drew.hb.cell (p := ⟨g, o + i * 13 + 8, none⟩) hg).trans E8.out, (KB.drew.hb.cell (p := ⟨g, o + i * 13 + 9, none⟩) hg).trans E9.out, (KB.drew.hb.cell (p := ⟨g, o + i * 13 + 10, none⟩) hg).trans E10.out, (KB.drew.hb.cell (p := ⟨g, o + i * 13 + 11, none⟩) hg).trans E11.out, (KB.drew.hb.cell (p := ⟨g, o + i * 13 + 12, none⟩) hg).trans E12.out, (KB.drew.tail.head).three.2.1, (KB.drew.tail.head).three.2.2.1, (KB.drew.tail.head).three.2.2.2.1⟩) | go_keep)
    ((go_at_call 41; have lw := KB.head.lt; (with_reducible first | refine (WS.out _ KB.hb).mono ?_ | refine (WS.out _ KB.drew.hb).mono ?_); rintro e9 W10 ⟨X, y, rfl, hv, hf, hk⟩; (with_reducible first | replace KB := KB.below hk | replace KB := KB.drew.below hk); clear hk; have f9 := fun vs => Rs.farF hv hf lw vs; clear hv hf lw; obtain ⟨lt, z0, z1, z2, z3, z4, z5, z6, z7, z8, z9, z10, z11, z12, z13, g0, g1, g2, g3, g4, g5, g6, g7, g8, g9, g10, g11, g12, g13⟩ := KB.head.fourteen))
  all_goals
    go_wp2
    have KF := KB.put14 (.int .i64 off) (.int .i64 kind) (.int .i64 sav) (.string rs) (.string fmt) (.bool til) (.int .i64 yr) (.int .i64 mo) (.int .i64 ki) (.int .i64 wd) (.int .i64 da) (.int .i64 ti) (.int .i64 re) (.slice X l.length y) (by omega) (by intro y hy; simp only [List.mem_cons, List.not_mem_nil, or_false] at hy; subst hy; (show ¬ _ = _; first | omega | (simp only []; omega)))
    obtain ⟨_, P0, P1, P2, P3, P4, P5, P6, P7, P8, P9, P10, P11, P12, P13, _⟩ := KF.head.fourteen
    exact bodyPost_ret (v := .tuple #[.agg #[.int .i64 off, .int .i64 kind, .int .i64 sav, .string rs, .string fmt, .bool til, .int .i64 yr, .int .i64 mo, .int .i64 ki, .int .i64 wd, .int .i64 da, .int .i64 ti, .int .i64 re, .slice X l.length y], .bool true]) (by simp [results, Tryz.results26, go_sem, P0, P1, P2, P3, P4, P5, P6, P7, P8, P9, P10, P11, P12, P13]) rfl ⟨X, y, rfl, f9 [.int .i64 off, .int .i64 kind, .int .i64 sav, .string rs, .string fmt, .bool til, .int .i64 yr, .int .i64 mo, .int .i64 ki, .int .i64 wd, .int .i64 da, .int .i64 ti, .int .i64 re, .slice X l.length y], KF.hb⟩
theorem zoneAt_mem {S : Sr} {ze : List Ze} {z : Int} {p : Ze} (h : zoneAt S ze z = some p) : okSr S = true ∧ 0 ≤ z ∧ ze[z.toNat]? = some p := by
  unfold zoneAt at h
  by_cases c : okSr S = true ∧ 0 ≤ z
  · rw [if_pos c] at h; exact ⟨c.1, c.2, h⟩
  · rw [if_neg c] at h; cases h
theorem ok_of {S : Sr} (h : okSr S = true) : S.ok := by
  unfold okSr at h
  exact @of_decide_eq_true _ (Classical.propDecidable _) h
theorem zone_ok {w : World} {S : Sr} {a b c : Hd} {ze : List Ze} (hv : SrcV w S a b c ze) {z : Int} {p : Ze} (h : zoneAt S ze z = some p) : p.1.ok ∧ eraRows w p ∧ a.n ≤ 200 ∧ fitL S.rules ∧ shortL S.rules := by
  obtain ⟨h1, _, h3⟩ := zoneAt_mem h
  have ok := ok_of h1
  have hn : S.rules.length = a.n := by have := hv.rules.len; simpa using this
  refine ⟨ok.2.2.2.2.1 p.1 ?_, hv.eras p (List.mem_of_getElem? h3), by rw [← hn]; exact ok.1, rules_fit ok, rules_short ok⟩
  rw [← hv.all]
  exact List.mem_map_of_mem (List.mem_of_getElem? h3)
theorem eraOfE (S : Sr) (a b c : Hd) (ze : List Ze) (w : World) (hv : SrcV w S a b c ze) (hx : S.in64) (z i : Int) : Calls Tryz.prog 26 #[.agg #[a.val, b.val, c.val], .int .i64 z, .int .i64 i] w (RetXB w S.rules (eraAtP S ze z i)) := by
  have EO := fun W (h : Below w.heap.size w W) => erasOfE S a b c ze W (hv.below h) hx z
  have ZO := fun p => zone_ok hv (z := z) (p := p)
  have WS := fun (x : Er) (small : a.n ≤ 900) W (h : Below w.heap.size w W) => withSetE S.rules x a.a b.a c.a a.n a.c b.n b.c c.n c.c W (hv.rules.below h) small
  obtain ⟨A, n, c'⟩ := a
  obtain ⟨B, m, d⟩ := b
  obtain ⟨C, q, e⟩ := c
  unfold eraAtP
  cases hz : zoneAt S ze z with
  | none =>
    rw [hz] at EO
    exact er_none A B C n c' m d q e z i w (Lib.hid EO)
  | some p =>
    rw [hz] at EO
    obtain ⟨zok, er, sm, _, _⟩ := ZO p hz
    obtain ⟨⟨nm, es⟩, ⟨Z, u, cu⟩⟩ := p
    have hn : es.length = u := by have := er.len; simpa using this
    show Calls Tryz.prog _ _ _ (RetXB w S.rules (if 0 ≤ i then es[i.toNat]? else none))
    by_cases h0 : i < 0
    · rw [if_neg (by omega)]
      exact er_neg A B C n c' m d q e z i w Z u cu (decide_eq_true h0) (Lib.hid EO)
    · rw [if_pos (by omega)]
      by_cases h1 : i ≥ (u : Int)
      · rw [List.getElem?_eq_none (by omega)]
        exact er_far A B C n c' m d q e z i w Z u cu (decide_eq_false h0) (decide_eq_true h1) (Lib.hid EO)
      · obtain ⟨x, hxx⟩ : ∃ x, es[i.toNat]? = some x := ⟨_, List.getElem?_eq_getElem (by omega)⟩
        rw [hxx]
        have sm : n ≤ 200 := sm
        have W1 := WS x (by show n ≤ 900; omega)
        obtain ⟨g, o, eZ, hg, _, ra⟩ := era_rows er hxx
        have eZ : Z = some ⟨g, o, none⟩ := eZ
        subst eZ
        unfold RetXB RetX at *
        have t := er_hit A B C n c' m d q e x.off x.kind x.save x.rules x.fmt x.til x.year x.sp.mo x.sp.ki x.sp.wd x.sp.da x.sp.ti x.sp.re z i.toNat g o u cu (by omega) er.cap er.max (setL S.rules x.rules) w hg (ra 0 _ rfl) (ra 1 _ rfl) (ra 2 _ rfl) (ra 3 _ rfl) (ra 4 _ rfl) (ra 5 _ rfl) (ra 6 _ rfl) (ra 7 _ rfl) (ra 8 _ rfl) (ra 9 _ rfl) (ra 10 _ rfl) (ra 11 _ rfl) (ra 12 _ rfl) (Lib.hid EO) (Lib.hid W1)
        rw [show ((i.toNat : Nat) : Int) = i by omega] at t
        exact t
noncomputable def endO (L : List Rl) (o : Option Er) : Int × Bool := match o with | some x => if x.til = true then (endE L x, true) else (0, false) | none => (0, false)
noncomputable def phO (abbr : ByteArray → ByteArray → Int → Int → ByteArray) (L : List Rl) (o : Option Er) (T : Int) : Ph := match o with | some x => phE abbr L x T | none => Ph.zero
def RetPB (w : World) (p : Ph) (b : Bool) (e : Ending) (w' : World) : Prop := e = .returned (.tuple #[p.val, .bool b]) ∧ Below w.heap.size w w'
theorem era_of {S : Sr} {ze : List Ze} {w : World} {n : Nat} {z i : Int} {x : Er} (ZO : ∀ p, zoneAt S ze z = some p → p.1.ok ∧ eraRows w p ∧ n ≤ 200 ∧ fitL S.rules ∧ shortL S.rules) (h : eraAtP S ze z i = some x) : ErF x ∧ fitL S.rules ∧ shortL S.rules := by
  unfold eraAtP at h
  cases hz : zoneAt S ze z with
  | none => rw [hz] at h; cases h
  | some p =>
    rw [hz] at h
    have h : (if 0 ≤ i then p.1.eras[i.toNat]? else none) = some x := h
    obtain ⟨zk, _, _, h1, h2⟩ := ZO p hz
    by_cases c : 0 ≤ i
    · rw [if_pos c] at h
      exact ⟨era_fit (zk.2.2.1 x (List.mem_of_getElem? h)), h1, h2⟩
    · rw [if_neg c] at h; cases h
theorem en_none (A B C : Option Addr) (n c m d q e : Nat) (z i : Int) (w : World) (EA : Hid (∀ W, Below w.heap.size w W → Calls Tryz.prog 26 #[.agg #[.slice A n c, .slice B m d, .slice C q e], .int .i64 z, .int .i64 i] W (fun e w' => e = .returned (.tuple #[.agg #[.int .i64 0, .int .i64 0, .int .i64 0, .string ⟨#[]⟩, .string ⟨#[]⟩, .bool false, .int .i64 0, .int .i64 0, .int .i64 0, .int .i64 0, .int .i64 0, .int .i64 0, .int .i64 0, .slice none 0 0], .bool false]) ∧ Below W.heap.size W w'))) : Calls Tryz.prog 13 #[.agg #[.slice A n c, .slice B m d, .slice C q e], .int .i64 z, .int .i64 i] w (RetNumB w 0 false) := by
  go_enter Tryz.func13, Tryz.ntmps13
  go_upto_region 1 with (fail)
  have KB := (BK.nil w).lit [.slice A n c, .slice B m d, .slice C q e] 29
  rw [show ([.slice A n c, .slice B m d, .slice C q e] : List Value).toArray = #[.slice A n c, .slice B m d, .slice C q e] from rfl] at KB
  generalize w.alloc (.cells #[.slice A n c, .slice B m d, .slice C q e] 29) = W at *
  obtain ⟨_, x0, x1, x2, _⟩ := (KB.head).three
  go_upto_region 2 with (go_at_call 26; refine (EA.out _ KB.hb).mono ?_; clear EA; rintro e9 W9 ⟨rfl, hk⟩; replace KB := KB.below hk; clear hk x0 x1 x2)
  replace KB := KB.lit [.int .i64 0, .int .i64 0, .int .i64 0, .string ⟨#[]⟩, .string ⟨#[]⟩, .bool false, .int .i64 0, .int .i64 0, .int .i64 0, .int .i64 0, .int .i64 0, .int .i64 0, .int .i64 0, .slice none 0 0] 59
  rw [show ([.int .i64 0, .int .i64 0, .int .i64 0, .string ⟨#[]⟩, .string ⟨#[]⟩, .bool false, .int .i64 0, .int .i64 0, .int .i64 0, .int .i64 0, .int .i64 0, .int .i64 0, .int .i64 0, .slice none 0 0] : List Value).toArray = #[.int .i64 0, .int .i64 0, .int .i64 0, .string ⟨#[]⟩, .string ⟨#[]⟩, .bool false, .int .i64 0, .int .i64 0, .int .i64 0, .int .i64 0, .int .i64 0, .int .i64 0, .int .i64 0, .slice none 0 0] from rfl] at KB
  generalize W9.alloc (.cells #[.int .i64 0, .int .i64 0, .int .i64 0, .string ⟨#[]⟩, .string ⟨#[]⟩, .bool false, .int .i64 0, .int .i64 0, .int .i64 0, .int .i64 0, .int .i64 0, .int .i64 0, .int .i64 0, .slice none 0 0] 59) = W1 at *
  generalize W9.heap.size = q at *
  obtain ⟨x0, x1, x2, x3, x4, x5, x6, x7, x8, x9, x10, x11, x12, x13⟩ := KB.open14
  go_wp2
  go_ret2
  exact ⟨rfl, KB.hb⟩
theorem en_false (A B C : Option Addr) (n c m d q e : Nat) (off kind sav : Int) (rs fmt : ByteArray) (yr mo ki wd da ti re : Int) (z i : Int) (l : List Rl) (w : World)  (EA : Hid (∀ W, Below w.heap.size w W → Calls Tryz.prog 26 #[.agg #[.slice A n c, .slice B m d, .slice C q e], .int .i64 z, .int .i64 i] W (fun e w' => ∃ X y, e = .returned (.tuple #[.agg #[.int .i64 off, .int .i64 kind, .int .i64 sav, .string rs, .string fmt, .bool false, .int .i64 yr, .int .i64 mo, .int .i64 ki, .int .i64 wd, .int .i64 da, .int .i64 ti, .int .i64 re, .slice X l.length y], .bool true]) ∧ RulV w' X l.length y l ∧ Below W.heap.size W w'))) : Calls Tryz.prog 13 #[.agg #[.slice A n c, .slice B m d, .slice C q e], .int .i64 z, .int .i64 i] w (RetNumB w 0 false) := by
  go_enter Tryz.func13, Tryz.ntmps13
  go_upto_region 1 with (fail)
  have KB := (BK.nil w).lit [.slice A n c, .slice B m d, .slice C q e] 29
  rw [show ([.slice A n c, .slice B m d, .slice C q e] : List Value).toArray = #[.slice A n c, .slice B m d, .slice C q e] from rfl] at KB
  generalize w.alloc (.cells #[.slice A n c, .slice B m d, .slice C q e] 29) = W at *
  obtain ⟨_, x0, x1, x2, _⟩ := (KB.head).three
  go_upto_region 2 with (go_at_call 26; refine (EA.out _ KB.hb).mono ?_; clear EA; rintro e9 W9 ⟨X, y, rfl, hv, hk⟩; replace KB := KB.below hk; clear hk x0 x1 x2)
  replace hv := hv.below (below_box W9 (.cells #[.int .i64 off, .int .i64 kind, .int .i64 sav, .string rs, .string fmt, .bool false, .int .i64 yr, .int .i64 mo, .int .i64 ki, .int .i64 wd, .int .i64 da, .int .i64 ti, .int .i64 re, .slice X l.length y] 59))
  replace KB := KB.lit [.int .i64 off, .int .i64 kind, .int .i64 sav, .string rs, .string fmt, .bool false, .int .i64 yr, .int .i64 mo, .int .i64 ki, .int .i64 wd, .int .i64 da, .int .i64 ti, .int .i64 re, .slice X l.length y] 59
  rw [show ([.int .i64 off, .int .i64 kind, .int .i64 sav, .string rs, .string fmt, .bool false, .int .i64 yr, .int .i64 mo, .int .i64 ki, .int .i64 wd, .int .i64 da, .int .i64 ti, .int .i64 re, .slice X l.length y] : List Value).toArray = #[.int .i64 off, .int .i64 kind, .int .i64 sav, .string rs, .string fmt, .bool false, .int .i64 yr, .int .i64 mo, .int .i64 ki, .int .i64 wd, .int .i64 da, .int .i64 ti, .int .i64 re, .slice X l.length y] from rfl] at KB
  generalize W9.alloc (.cells #[.int .i64 off, .int .i64 kind, .int .i64 sav, .string rs, .string fmt, .bool false, .int .i64 yr, .int .i64 mo, .int .i64 ki, .int .i64 wd, .int .i64 da, .int .i64 ti, .int .i64 re, .slice X l.length y] 59) = W1 at *
  generalize W9.heap.size = q at *
  obtain ⟨x0, x1, x2, x3, x4, x5, x6, x7, x8, x9, x10, x11, x12, x13⟩ := KB.open14
  clear hv
  go_wp2
  go_ret2
  exact ⟨rfl, KB.hb⟩
theorem en_true (A B C : Option Addr) (n c m d q e : Nat) (off kind sav : Int) (rs fmt : ByteArray) (yr mo ki wd da ti re : Int) (z i : Int) (l : List Rl) (en : Int) (w : World) (LQ : ErasM w) (MO : Hid (∀ w W : World, ErasM w → Below w.heap.size w W → ErasM W)) (EA : Hid (∀ W, Below w.heap.size w W → Calls Tryz.prog 26 #[.agg #[.slice A n c, .slice B m d, .slice C q e], .int .i64 z, .int .i64 i] W (fun e w' => ∃ X y, e = .returned (.tuple #[.agg #[.int .i64 off, .int .i64 kind, .int .i64 sav, .string rs, .string fmt, .bool true, .int .i64 yr, .int .i64 mo, .int .i64 ki, .int .i64 wd, .int .i64 da, .int .i64 ti, .int .i64 re, .slice X l.length y], .bool true]) ∧ RulV w' X l.length y l ∧ Below W.heap.size W w'))) (EN : Hid (∀ X y W, RulV W X l.length y l → ErasM W → Calls Tryz.prog 27 #[.agg #[.int .i64 off, .int .i64 kind, .int .i64 sav, .string rs, .string fmt, .bool true, .int .i64 yr, .int .i64 mo, .int .i64 ki, .int .i64 wd, .int .i64 da, .int .i64 ti, .int .i64 re, .slice X l.length y]] W (RetV W (.int .i64 en)))) : Calls Tryz.prog 13 #[.agg #[.slice A n c, .slice B m d, .slice C q e], .int .i64 z, .int .i64 i] w (RetNumB w en true) := by
  go_enter Tryz.func13, Tryz.ntmps13
  go_upto_region 1 with (fail)
  have KB := (BK.nil w).lit [.slice A n c, .slice B m d, .slice C q e] 29
  rw [show ([.slice A n c, .slice B m d, .slice C q e] : List Value).toArray = #[.slice A n c, .slice B m d, .slice C q e] from rfl] at KB
  generalize w.alloc (.cells #[.slice A n c, .slice B m d, .slice C q e] 29) = W at *
  obtain ⟨_, x0, x1, x2, _⟩ := (KB.head).three
  go_upto_region 2 with (go_at_call 26; refine (EA.out _ KB.hb).mono ?_; clear EA; rintro e9 W9 ⟨X, y, rfl, hv, hk⟩; replace KB := KB.below hk; clear hk x0 x1 x2)
  replace hv := hv.below (below_box W9 (.cells #[.int .i64 off, .int .i64 kind, .int .i64 sav, .string rs, .string fmt, .bool true, .int .i64 yr, .int .i64 mo, .int .i64 ki, .int .i64 wd, .int .i64 da, .int .i64 ti, .int .i64 re, .slice X l.length y] 59))
  replace KB := KB.lit [.int .i64 off, .int .i64 kind, .int .i64 sav, .string rs, .string fmt, .bool true, .int .i64 yr, .int .i64 mo, .int .i64 ki, .int .i64 wd, .int .i64 da, .int .i64 ti, .int .i64 re, .slice X l.length y] 59
  rw [show ([.int .i64 off, .int .i64 kind, .int .i64 sav, .string rs, .string fmt, .bool true, .int .i64 yr, .int .i64 mo, .int .i64 ki, .int .i64 wd, .int .i64 da, .int .i64 ti, .int .i64 re, .slice X l.length y] : List Value).toArray = #[.int .i64 off, .int .i64 kind, .int .i64 sav, .string rs, .string fmt, .bool true, .int .i64 yr, .int .i64 mo, .int .i64 ki, .int .i64 wd, .int .i64 da, .int .i64 ti, .int .i64 re, .slice X l.length y] from rfl] at KB
  generalize W9.alloc (.cells #[.int .i64 off, .int .i64 kind, .int .i64 sav, .string rs, .string fmt, .bool true, .int .i64 yr, .int .i64 mo, .int .i64 ki, .int .i64 wd, .int .i64 da, .int .i64 ti, .int .i64 re, .slice X l.length y] 59) = W1 at *
  generalize W9.heap.size = q at *
  obtain ⟨x0, x1, x2, x3, x4, x5, x6, x7, x8, x9, x10, x11, x12, x13⟩ := KB.open14
  go_wp2_with (go_at_call 27; refine (EN.out _ _ _ hv (MO.out _ _ LQ KB.hb)).mono ?_; clear EN hv; rintro e9 W10 ⟨rfl, hk⟩; replace KB := KB.below hk; clear hk)
  go_ret2
  exact ⟨rfl, KB.hb⟩
theorem endAE (S : Sr) (a b c : Hd) (ze : List Ze) (w : World) (hv : SrcV w S a b c ze) (hx : S.in64) (z i : Int) (T : ErasM w) : Calls Tryz.prog 13 #[.agg #[a.val, b.val, c.val], .int .i64 z, .int .i64 i] w (RetNumB w (endO S.rules (eraAtP S ze z i)).1 (endO S.rules (eraAtP S ze z i)).2) := by
  have EA := fun W (h : Below w.heap.size w W) => eraOfE S a b c ze W (hv.below h) hx z i
  have ZO := fun p => zone_ok hv (z := z) (p := p)
  obtain ⟨A, n, c'⟩ := a
  obtain ⟨B, m, d⟩ := b
  obtain ⟨C, q, e⟩ := c
  unfold endO
  cases he : eraAtP S ze z i with
  | none =>
    rw [he] at EA
    exact en_none A B C n c' m d q e z i w (Lib.hid EA)
  | some x =>
    rw [he] at EA
    obtain ⟨fx, hL, _⟩ := era_of ZO he
    have EN := fun X y W (hl : RulV W X (setL S.rules x.rules).length y (setL S.rules x.rules)) (t : ErasM W) => endPE hL x fx X y W hl t
    unfold RetXB at EA
    obtain ⟨off, kind, sav, rs, fmt, til, yr, ⟨mo, ki, wd, da, ti, re⟩⟩ := x
    cases til with
    | false => exact en_false A B C n c' m d q e off kind sav rs fmt yr mo ki wd da ti re z i (setL S.rules rs) w (Lib.hid EA)
    | true => exact en_true A B C n c' m d q e off kind sav rs fmt yr mo ki wd da ti re z i (setL S.rules rs) _ w T era_mono (Lib.hid EA) (Lib.hid EN)
theorem ph_none (A B C : Option Addr) (n c m d q e : Nat) (z i T : Int) (w : World) (EA : Hid (∀ W, Below w.heap.size w W → Calls Tryz.prog 26 #[.agg #[.slice A n c, .slice B m d, .slice C q e], .int .i64 z, .int .i64 i] W (fun e w' => e = .returned (.tuple #[.agg #[.int .i64 0, .int .i64 0, .int .i64 0, .string ⟨#[]⟩, .string ⟨#[]⟩, .bool false, .int .i64 0, .int .i64 0, .int .i64 0, .int .i64 0, .int .i64 0, .int .i64 0, .int .i64 0, .slice none 0 0], .bool false]) ∧ Below W.heap.size W w'))) : Calls Tryz.prog 16 #[.agg #[.slice A n c, .slice B m d, .slice C q e], .int .i64 z, .int .i64 i, .int .i64 T] w (RetPB w Ph.zero false) := by
  go_enter Tryz.func16, Tryz.ntmps16
  go_upto_region 1 with (fail)
  have KB := (BK.nil w).lit [.slice A n c, .slice B m d, .slice C q e] 29
  rw [show ([.slice A n c, .slice B m d, .slice C q e] : List Value).toArray = #[.slice A n c, .slice B m d, .slice C q e] from rfl] at KB
  replace KB := KB.lit [.int .i64 0, .int .i64 0, .string ⟨#[]⟩] 43
  rw [show ([.int .i64 0, .int .i64 0, .string ⟨#[]⟩] : List Value).toArray = #[.int .i64 0, .int .i64 0, .string ⟨#[]⟩] from rfl] at KB
  generalize (w.alloc (.cells #[.slice A n c, .slice B m d, .slice C q e] 29)).alloc (.cells #[.int .i64 0, .int .i64 0, .string ⟨#[]⟩] 43) = W at *
  simp only [World.size_alloc] at *
  obtain ⟨_, x0, x1, x2, _⟩ := (KB.tail.head).three
  go_upto_region 2 with (go_at_call 26; refine (EA.out _ KB.hb).mono ?_; clear EA; rintro e9 W9 ⟨rfl, hk⟩; replace KB := KB.below hk; clear hk x0 x1 x2)
  replace KB := KB.lit [.int .i64 0, .int .i64 0, .int .i64 0, .string ⟨#[]⟩, .string ⟨#[]⟩, .bool false, .int .i64 0, .int .i64 0, .int .i64 0, .int .i64 0, .int .i64 0, .int .i64 0, .int .i64 0, .slice none 0 0] 59
  rw [show ([.int .i64 0, .int .i64 0, .int .i64 0, .string ⟨#[]⟩, .string ⟨#[]⟩, .bool false, .int .i64 0, .int .i64 0, .int .i64 0, .int .i64 0, .int .i64 0, .int .i64 0, .int .i64 0, .slice none 0 0] : List Value).toArray = #[.int .i64 0, .int .i64 0, .int .i64 0, .string ⟨#[]⟩, .string ⟨#[]⟩, .bool false, .int .i64 0, .int .i64 0, .int .i64 0, .int .i64 0, .int .i64 0, .int .i64 0, .int .i64 0, .slice none 0 0] from rfl] at KB
  generalize W9.alloc (.cells #[.int .i64 0, .int .i64 0, .int .i64 0, .string ⟨#[]⟩, .string ⟨#[]⟩, .bool false, .int .i64 0, .int .i64 0, .int .i64 0, .int .i64 0, .int .i64 0, .int .i64 0, .int .i64 0, .slice none 0 0] 59) = W1 at *
  generalize W9.heap.size = qq at *
  obtain ⟨lt, s0, s1, s2, g0, g1, g2⟩ := KB.tail.head.three
  go_wp2
  have K0 := KB.tail
  have KF := K0.put3 (.int .i64 0) (.int .i64 0) (.string ⟨#[]⟩) (by omega) (by intro y hy; simp only [List.mem_cons, List.not_mem_nil, or_false] at hy; subst hy; (show ¬ _ = _; first | omega | (simp only []; omega)))
  obtain ⟨_, P0, P1, P2, _⟩ := KF.head.three
  exact bodyPost_ret (v := .tuple #[.agg #[.int .i64 0, .int .i64 0, .string ⟨#[]⟩], .bool false]) (by simp [results, Tryz.results16, go_sem, P0, P1, P2]) rfl ⟨rfl, KF.hb⟩
theorem ph_some (A B C : Option Addr) (n c m d q e : Nat) (off kind sav : Int) (rs fmt : ByteArray) (til : Bool) (yr mo ki wd da ti re : Int) (z i T : Int) (l : List Rl) (po ps : Int) (pa : ByteArray) (w : World) (LQ : ErasM w) (MO : Hid (∀ w W : World, ErasM w → Below w.heap.size w W → ErasM W)) (EA : Hid (∀ W, Below w.heap.size w W → Calls Tryz.prog 26 #[.agg #[.slice A n c, .slice B m d, .slice C q e], .int .i64 z, .int .i64 i] W (fun e w' => ∃ X y, e = .returned (.tuple #[.agg #[.int .i64 off, .int .i64 kind, .int .i64 sav, .string rs, .string fmt, .bool til, .int .i64 yr, .int .i64 mo, .int .i64 ki, .int .i64 wd, .int .i64 da, .int .i64 ti, .int .i64 re, .slice X l.length y], .bool true]) ∧ RulV w' X l.length y l ∧ Below W.heap.size W w'))) (PH : Hid (∀ X y W, RulV W X l.length y l → ErasM W → Calls Tryz.prog 32 #[.agg #[.int .i64 off, .int .i64 kind, .int .i64 sav, .string rs, .string fmt, .bool til, .int .i64 yr, .int .i64 mo, .int .i64 ki, .int .i64 wd, .int .i64 da, .int .i64 ti, .int .i64 re, .slice X l.length y], .int .i64 T] W (RetV W (.agg #[.int .i64 po, .int .i64 ps, .string pa])))) : Calls Tryz.prog 16 #[.agg #[.slice A n c, .slice B m d, .slice C q e], .int .i64 z, .int .i64 i, .int .i64 T] w (RetPB w ⟨po, ps, pa⟩ true) := by
  go_enter Tryz.func16, Tryz.ntmps16
  go_upto_region 1 with (fail)
  have KB := (BK.nil w).lit [.slice A n c, .slice B m d, .slice C q e] 29
  rw [show ([.slice A n c, .slice B m d, .slice C q e] : List Value).toArray = #[.slice A n c, .slice B m d, .slice C q e] from rfl] at KB
  replace KB := KB.lit [.int .i64 0, .int .i64 0, .string ⟨#[]⟩] 43
  rw [show ([.int .i64 0, .int .i64 0, .string ⟨#[]⟩] : List Value).toArray = #[.int .i64 0, .int .i64 0, .string ⟨#[]⟩] from rfl] at KB
  generalize (w.alloc (.cells #[.slice A n c, .slice B m d, .slice C q e] 29)).alloc (.cells #[.int .i64 0, .int .i64 0, .string ⟨#[]⟩] 43) = W at *
  simp only [World.size_alloc] at *
  obtain ⟨_, x0, x1, x2, _⟩ := (KB.tail.head).three
  go_upto_region 2 with (go_at_call 26; refine (EA.out _ KB.hb).mono ?_; clear EA; rintro e9 W9 ⟨X, y, rfl, hv, hk⟩; replace KB := KB.below hk; clear hk x0 x1 x2)
  replace hv := hv.below (below_box W9 (.cells #[.int .i64 off, .int .i64 kind, .int .i64 sav, .string rs, .string fmt, .bool til, .int .i64 yr, .int .i64 mo, .int .i64 ki, .int .i64 wd, .int .i64 da, .int .i64 ti, .int .i64 re, .slice X l.length y] 59))
  replace KB := KB.lit [.int .i64 off, .int .i64 kind, .int .i64 sav, .string rs, .string fmt, .bool til, .int .i64 yr, .int .i64 mo, .int .i64 ki, .int .i64 wd, .int .i64 da, .int .i64 ti, .int .i64 re, .slice X l.length y] 59
  rw [show ([.int .i64 off, .int .i64 kind, .int .i64 sav, .string rs, .string fmt, .bool til, .int .i64 yr, .int .i64 mo, .int .i64 ki, .int .i64 wd, .int .i64 da, .int .i64 ti, .int .i64 re, .slice X l.length y] : List Value).toArray = #[.int .i64 off, .int .i64 kind, .int .i64 sav, .string rs, .string fmt, .bool til, .int .i64 yr, .int .i64 mo, .int .i64 ki, .int .i64 wd, .int .i64 da, .int .i64 ti, .int .i64 re, .slice X l.length y] from rfl] at KB
  generalize W9.alloc (.cells #[.int .i64 off, .int .i64 kind, .int .i64 sav, .string rs, .string fmt, .bool til, .int .i64 yr, .int .i64 mo, .int .i64 ki, .int .i64 wd, .int .i64 da, .int .i64 ti, .int .i64 re, .slice X l.length y] 59) = W1 at *
  generalize W9.heap.size = qq at *
  obtain ⟨x0, x1, x2, x3, x4, x5, x6, x7, x8, x9, x10, x11, x12, x13⟩ := KB.open14
  go_wp2_with (go_at_call 32; refine (PH.out _ _ _ hv (MO.out _ _ LQ KB.hb)).mono ?_; clear PH hv; rintro e9 W10 ⟨rfl, hk⟩; replace KB := KB.below hk; clear hk x0 x1 x2 x3 x4 x5 x6 x7 x8 x9 x10 x11 x12 x13; obtain ⟨lt, s0, s1, s2, g0, g1, g2⟩ := KB.tail.head.three)
  have K0 := KB.tail
  have KF := K0.put3 (.int .i64 po) (.int .i64 ps) (.string pa) (by omega) (by intro y hy; simp only [List.mem_cons, List.not_mem_nil, or_false] at hy; subst hy; (show ¬ _ = _; first | omega | (simp only []; omega)))
  obtain ⟨_, P0, P1, P2, _⟩ := KF.head.three
  exact bodyPost_ret (v := .tuple #[.agg #[.int .i64 po, .int .i64 ps, .string pa], .bool true]) (by simp [results, Tryz.results16, go_sem, P0, P1, P2]) rfl ⟨rfl, KF.hb⟩
theorem phaseAE (S : Sr) (a b c : Hd) (ze : List Ze) (w : World) (hv : SrcV w S a b c ze) (hx : S.in64) (z i T : Int) (hT : In64 T) (t : ErasM w) : Calls Tryz.prog 16 #[.agg #[a.val, b.val, c.val], .int .i64 z, .int .i64 i, .int .i64 T] w (RetPB w (phO abbrB S.rules (eraAtP S ze z i) T) (eraAtP S ze z i).isSome) := by
  have EA := fun W (h : Below w.heap.size w W) => eraOfE S a b c ze W (hv.below h) hx z i
  have ZO := fun p => zone_ok hv (z := z) (p := p)
  obtain ⟨A, n, c'⟩ := a
  obtain ⟨B, m, d⟩ := b
  obtain ⟨C, q, e⟩ := c
  unfold phO
  cases he : eraAtP S ze z i with
  | none =>
    rw [he] at EA
    exact ph_none A B C n c' m d q e z i T w (Lib.hid EA)
  | some x =>
    rw [he] at EA
    obtain ⟨fx, hL, hS⟩ := era_of ZO he
    have PH := fun X y W (hl : RulV W X (setL S.rules x.rules).length y (setL S.rules x.rules)) (t : ErasM W) => phasePE hL hS x fx T hT X y W hl t
    unfold RetXB at EA
    show Calls Tryz.prog _ _ _ (RetPB w (phE abbrB S.rules x T) true)
    generalize phE abbrB S.rules x T = p at *
    obtain ⟨po, ps, pa⟩ := p
    obtain ⟨off, kind, sav, rs, fmt, til, yr, ⟨mo, ki, wd, da, ti, re⟩⟩ := x
    exact ph_some A B C n c' m d q e off kind sav rs fmt til yr mo ki wd da ti re z i T (setL S.rules rs) po ps pa w t era_mono (Lib.hid EA) (Lib.hid PH)
theorem hold_brk {L : List Rl} {T : Int} {es : List Er} {i : Nat} {x : Er} (hx : es[i]? = some x) (ok : tilOk es) (h : x.til = true ∧ T < endE L x) (hn : ∀ (k : Nat) (y : Er), k < i → es[k]? = some y → ¬ (y.til = true ∧ T < endE L y)) : eraAt L T es = some x :=
  eraAt_first hx (fun k y hk hy => by
    have hi := (List.getElem?_eq_some_iff.1 hx).1
    have t : y.til = true := by rw [tilC_at ok k y hy]; exact decide_eq_true (by omega)
    intro c
    rcases c with c | c
    · rw [t] at c; cases c
    · exact hn k y hk hy ⟨t, c⟩) (.inr h.2)
theorem hold_end {L : List Rl} {T : Int} {es : List Er} {u : Nat} {x : Er} (hu : es.length = u) (h0 : 0 < u) (hx : es[u - 1]? = some x) (ok : tilOk es) (hn : ∀ (k : Nat) (y : Er), k < u → es[k]? = some y → ¬ (y.til = true ∧ T < endE L y)) : eraAt L T es = some x :=
  eraAt_first hx (fun k y hk hy => by
    have t : y.til = true := by rw [tilC_at ok k y hy]; exact decide_eq_true (by omega)
    intro c
    rcases c with c | c
    · rw [t] at c; cases c
    · exact hn k y (by omega) hy ⟨t, c⟩) (.inl (by rw [tilC_at ok (u - 1) x hx]; exact decide_eq_false (by omega)))
theorem til_pos {es : List Er} (h : tilOk es) : 0 < es.length := by
  cases es with
  | nil => exact h.elim
  | cons _ _ => simp
theorem FreshS.low {a b : Nat} {X : Option Addr} (h : FreshS b X) (le : a ≤ b) : FreshS a X := fun p e => by
  obtain ⟨g, e', l⟩ := h p e
  exact ⟨g, e', Nat.le_trans le l⟩
def HoldX (L : List Rl) (es : List Er) (i lo : Nat) (vs : List Value) (W : World) : Prop := 0 < i → ∃ x X y, es[i - 1]? = some x ∧ vs = x.vals ++ [.slice X (setL L x.rules).length y] ∧ RulV W X (setL L x.rules).length y (setL L x.rules) ∧ FreshS lo X
theorem BK.flip {w W : World} {L : List (Nat × List Value)} {a b : Nat × List Value} (h : BK w (a :: b :: L) W) : BK w (b :: a :: L) W :=
  ⟨fun x hx => h.al x (by
    simp only [List.mem_cons] at hx ⊢
    rcases hx with hx | hx | hx
    · exact .inr (.inl hx)
    · exact .inl hx
    · exact .inr (.inr hx)), h.hb⟩
theorem holdingE {L : List Rl} (hL : fitL L) (Z : Option Addr) (u cu : Nat) (es : List Er) (hE : ∀ x ∈ es, ErF x) (ok : tilOk es) (T : Int) (A B C : Option Addr) (n c m d q e : Nat) (w : World) (hm : RulV w A n c L) (hz : Rs 13 w Z u cu (es.map Er.vals)) (small : n ≤ 900) (LQ : ErasM w) (MO : Hid (∀ w W : World, ErasM w → Below w.heap.size w W → ErasM W)) : Calls Tryz.prog 35 #[.agg #[.slice A n c, .slice B m d, .slice C q e], .slice Z u cu, .int .i64 T] w (fun e w' => ∃ x, x ∈ es ∧ eraAt L T es = some x ∧ RetX w x (setL L x.rules) e w') := by
  have mx : u ≤ 9223372036854775807 := Nat.le_trans hz.cap hz.max
  have LN := Lib.hid (show es.length = u by have := hz.len; simpa using this)
  have UP := til_pos ok
  rw [LN.out] at UP
  have OK := Lib.hid ok
  have ED := Lib.hid (fun (x : Er) (hx : x ∈ es) X y W (hl : RulV W X (setL L x.rules).length y (setL L x.rules)) (t : ErasM W) => endPE hL x (hE x hx) X y W hl t)
  have WD := Lib.hid (fun (x : Er) W (h : Below w.heap.size w W) => withSetE L x A B C n c m d q e W (hm.below h) small)
  have HZ := Lib.hid hz
  clear hz hm hE ok
  go_enter Tryz.func35, Tryz.ntmps35
  go_upto_region 2 with (fail)
  have KB := (BK.nil w).lit [.slice A n c, .slice B m d, .slice C q e] 29
  rw [show ([.slice A n c, .slice B m d, .slice C q e] : List Value).toArray = #[.slice A n c, .slice B m d, .slice C q e] from rfl] at KB
  replace KB := KB.lit [.int .i64 0, .int .i64 0, .int .i64 0, .string ⟨#[]⟩, .string ⟨#[]⟩, .bool false, .int .i64 0, .int .i64 0, .int .i64 0, .int .i64 0, .int .i64 0, .int .i64 0, .int .i64 0, .slice none 0 0] 59
  rw [show ([.int .i64 0, .int .i64 0, .int .i64 0, .string ⟨#[]⟩, .string ⟨#[]⟩, .bool false, .int .i64 0, .int .i64 0, .int .i64 0, .int .i64 0, .int .i64 0, .int .i64 0, .int .i64 0, .slice none 0 0] : List Value).toArray = #[.int .i64 0, .int .i64 0, .int .i64 0, .string ⟨#[]⟩, .string ⟨#[]⟩, .bool false, .int .i64 0, .int .i64 0, .int .i64 0, .int .i64 0, .int .i64 0, .int .i64 0, .int .i64 0, .slice none 0 0] from rfl] at KB
  replace KB := KB.lit [.int .i64 0, .int .i64 0, .int .i64 0, .string ⟨#[]⟩, .string ⟨#[]⟩, .bool false, .int .i64 0, .int .i64 0, .int .i64 0, .int .i64 0, .int .i64 0, .int .i64 0, .int .i64 0, .slice none 0 0] 59
  rw [show ([.int .i64 0, .int .i64 0, .int .i64 0, .string ⟨#[]⟩, .string ⟨#[]⟩, .bool false, .int .i64 0, .int .i64 0, .int .i64 0, .int .i64 0, .int .i64 0, .int .i64 0, .int .i64 0, .slice none 0 0] : List Value).toArray = #[.int .i64 0, .int .i64 0, .int .i64 0, .string ⟨#[]⟩, .string ⟨#[]⟩, .bool false, .int .i64 0, .int .i64 0, .int .i64 0, .int .i64 0, .int .i64 0, .int .i64 0, .int .i64 0, .slice none 0 0] from rfl] at KB
  generalize ((w.alloc (.cells #[.slice A n c, .slice B m d, .slice C q e] 29)).alloc (.cells #[.int .i64 0, .int .i64 0, .int .i64 0, .string ⟨#[]⟩, .string ⟨#[]⟩, .bool false, .int .i64 0, .int .i64 0, .int .i64 0, .int .i64 0, .int .i64 0, .int .i64 0, .int .i64 0, .slice none 0 0] 59)).alloc (.cells #[.int .i64 0, .int .i64 0, .int .i64 0, .string ⟨#[]⟩, .string ⟨#[]⟩, .bool false, .int .i64 0, .int .i64 0, .int .i64 0, .int .i64 0, .int .i64 0, .int .i64 0, .int .i64 0, .slice none 0 0] 59) = W at *
  simp only [World.size_alloc] at *
  go_wp2_with fail
  go_loopw [12] (fun v12 wr => ∃ i : Nat, i ≤ u ∧ v12 = .int .i64 i ∧ Hid (∀ (k : Nat) (y : Er), k < i → es[k]? = some y → ¬ (y.til = true ∧ T < endE L y)) ∧ ∃ v0 v1 v2 v3 v4 v5 v6 v7 v8 v9 v10 v11 v12 v13 : Value, BK w [(w.heap.size + 1 + 1, [v0, v1, v2, v3, v4, v5, v6, v7, v8, v9, v10, v11, v12, v13]), (w.heap.size + 1, [.int .i64 0, .int .i64 0, .int .i64 0, .string ⟨#[]⟩, .string ⟨#[]⟩, .bool false, .int .i64 0, .int .i64 0, .int .i64 0, .int .i64 0, .int .i64 0, .int .i64 0, .int .i64 0, .slice none 0 0]), (w.heap.size, [.slice A n c, .slice B m d, .slice C q e])] wr ∧ Hid (HoldX L es i (w.heap.size + 1 + 1 + 1) [v0, v1, v2, v3, v4, v5, v6, v7, v8, v9, v10, v11, v12, v13] wr)) (fun v _ => u - (intOf v).toNat)
  case atStart => exact ⟨0, by omega, rfl, Lib.hid fun k y h => absurd h (by omega), _, _, _, _, _, _, _, _, _, _, _, _, _, _, KB, Lib.hid fun h => absurd h (by omega)⟩
  case round =>
    clear KB
    obtain ⟨i, hi, rfl, HN, v0, v1, v2, v3, v4, v5, v6, v7, v8, v9, v10, v11, v12, v13, KB, HH⟩ := hrel
    by_cases h4 : i < u
    · clear HH
      obtain ⟨x, hxx⟩ : ∃ x, es[i]? = some x := ⟨_, List.getElem?_eq_getElem (by rw [LN.out]; exact h4)⟩
      obtain ⟨g, o, ea0, hg, _, ra⟩ := era_rows (HZ.out.below KB.hb) hxx
      subst ea0
      have EN := ED.out x (List.mem_of_getElem? hxx)
      have WX := WD.out x
      unfold RetX at WX
      obtain ⟨en, hen⟩ : ∃ en, en = endE L x := ⟨_, rfl⟩
      rw [← hen] at EN
      have HQ := Lib.hid hen
      clear hen
      obtain ⟨l, hl⟩ : ∃ l, l = setL L x.rules := ⟨_, rfl⟩
      rw [← hl] at EN WX
      have HL := Lib.hid hl
      clear hl
      obtain ⟨Q, hQ⟩ : ∃ Q, Q = x := ⟨_, rfl⟩
      have HX := Lib.hid hQ
      rw [← hQ] at HQ HL hxx EN WX
      clear hQ
      obtain ⟨off, kind, sav, rs, fmt, til, yr, ⟨mo, ki, wd, da, ti, re⟩⟩ := x
      have HT := Lib.hid (show Q.til = til from by rw [HX.out])
      replace EN := Lib.hid (fun X y W hl t => (show Calls Tryz.prog 27 #[.agg #[.int .i64 off, .int .i64 kind, .int .i64 sav, .string rs, .string fmt, .bool til, .int .i64 yr, .int .i64 mo, .int .i64 ki, .int .i64 wd, .int .i64 da, .int .i64 ti, .int .i64 re, .slice X l.length y]] W (RetV W (.int .i64 en)) from by rw [show (Value.agg #[.int .i64 off, .int .i64 kind, .int .i64 sav, .string rs, .string fmt, .bool til, .int .i64 yr, .int .i64 mo, .int .i64 ki, .int .i64 wd, .int .i64 da, .int .i64 ti, .int .i64 re, .slice X l.length y]) = Q.xval (.slice X l.length y) from by rw [HX.out]; rfl]; exact EN X y W hl t))
      replace WX := Lib.hid (fun W hb => (show Calls Tryz.prog 41 #[.agg #[.slice A n c, .slice B m d, .slice C q e], .agg #[.int .i64 off, .int .i64 kind, .int .i64 sav, .string rs, .string fmt, .bool til, .int .i64 yr, .int .i64 mo, .int .i64 ki, .int .i64 wd, .int .i64 da, .int .i64 ti, .int .i64 re]] W (fun e w' => ∃ X y, e = .returned (.agg #[.int .i64 off, .int .i64 kind, .int .i64 sav, .string rs, .string fmt, .bool til, .int .i64 yr, .int .i64 mo, .int .i64 ki, .int .i64 wd, .int .i64 da, .int .i64 ti, .int .i64 re, .slice X l.length y]) ∧ RulV w' X l.length y l ∧ FreshS W.heap.size X ∧ Below W.heap.size W w') from by rw [show (Value.agg #[.int .i64 off, .int .i64 kind, .int .i64 sav, .string rs, .string fmt, .bool til, .int .i64 yr, .int .i64 mo, .int .i64 ki, .int .i64 wd, .int .i64 da, .int .i64 ti, .int .i64 re]) = Q.val from by rw [HX.out]; rfl]; rw [HX.out] at WX ⊢; exact WX W hb))
      have e0 : wr.cell? ⟨g, o + i * 13, none⟩ = some (.int .i64 off) := ra 0 _ rfl
      have e1 : wr.cell? ⟨g, o + i * 13 + 1, none⟩ = some (.int .i64 kind) := ra 1 _ rfl
      have e2 : wr.cell? ⟨g, o + i * 13 + 2, none⟩ = some (.int .i64 sav) := ra 2 _ rfl
      have e3 : wr.cell? ⟨g, o + i * 13 + 3, none⟩ = some (.string rs) := ra 3 _ rfl
      have e4 : wr.cell? ⟨g, o + i * 13 + 4, none⟩ = some (.string fmt) := ra 4 _ rfl
      have e5 : wr.cell? ⟨g, o + i * 13 + 5, none⟩ = some (.bool til) := ra 5 _ rfl
      have e6 : wr.cell? ⟨g, o + i * 13 + 6, none⟩ = some (.int .i64 yr) := ra 6 _ rfl
      have e7 : wr.cell? ⟨g, o + i * 13 + 7, none⟩ = some (.int .i64 mo) := ra 7 _ rfl
      have e8 : wr.cell? ⟨g, o + i * 13 + 8, none⟩ = some (.int .i64 ki) := ra 8 _ rfl
      have e9 : wr.cell? ⟨g, o + i * 13 + 9, none⟩ = some (.int .i64 wd) := ra 9 _ rfl
      have e10 : wr.cell? ⟨g, o + i * 13 + 10, none⟩ = some (.int .i64 da) := ra 10 _ rfl
      have e11 : wr.cell? ⟨g, o + i * 13 + 11, none⟩ = some (.int .i64 ti) := ra 11 _ rfl
      have e12 : wr.cell? ⟨g, o + i * 13 + 12, none⟩ = some (.int .i64 re) := ra 12 _ rfl
      clear ra
      go_upto_region 5 with (fail)
      replace KB := KB.lit [.int .i64 off, .int .i64 kind, .int .i64 sav, .string rs, .string fmt, .bool til, .int .i64 yr, .int .i64 mo, .int .i64 ki, .int .i64 wd, .int .i64 da, .int .i64 ti, .int .i64 re] 39
      rw [show ([.int .i64 off, .int .i64 kind, .int .i64 sav, .string rs, .string fmt, .bool til, .int .i64 yr, .int .i64 mo, .int .i64 ki, .int .i64 wd, .int .i64 da, .int .i64 ti, .int .i64 re] : List Value).toArray = #[.int .i64 off, .int .i64 kind, .int .i64 sav, .string rs, .string fmt, .bool til, .int .i64 yr, .int .i64 mo, .int .i64 ki, .int .i64 wd, .int .i64 da, .int .i64 ti, .int .i64 re] from rfl] at KB
      clear e0 e1 e2 e3 e4 e5 e6 e7 e8 e9 e10 e11 e12 hg
      generalize wr.alloc (.cells #[.int .i64 off, .int .i64 kind, .int .i64 sav, .string rs, .string fmt, .bool til, .int .i64 yr, .int .i64 mo, .int .i64 ki, .int .i64 wd, .int .i64 da, .int .i64 ti, .int .i64 re] 39) = W1 at *
      generalize wr.heap.size = qe at *
      obtain ⟨y0, y1, y2, y3, y4, y5, y6, y7, y8, y9, y10, y11, y12⟩ := (KB.head).thirteenC
      obtain ⟨_, x0, x1, x2, _⟩ := (KB.tail.tail.tail.head).three
      go_upto_region 6 with (go_at_call 41; have lw := KB.tail.head.lt; refine (WX.out _ KB.hb).mono ?_; clear WX; rintro e9 W9 ⟨X, y, rfl, hv, hf, hk⟩; replace KB := KB.below hk; clear hk y0 y1 y2 y3 y4 y5 y6 y7 y8 y9 y10 y11 y12 x0 x1 x2; obtain ⟨lt, z0, z1, z2, z3, z4, z5, z6, z7, z8, z9, z10, z11, z12, z13, g0, g1, g2, g3, g4, g5, g6, g7, g8, g9, g10, g11, g12, g13⟩ := KB.tail.head.fourteen)
      have K1 := KB.tail
      have KF := K1.put14 (.int .i64 off) (.int .i64 kind) (.int .i64 sav) (.string rs) (.string fmt) (.bool til) (.int .i64 yr) (.int .i64 mo) (.int .i64 ki) (.int .i64 wd) (.int .i64 da) (.int .i64 ti) (.int .i64 re) (.slice X l.length y) (by omega) (by intro y hy; simp only [List.mem_cons, List.not_mem_nil, or_false] at hy; rcases hy with rfl | rfl <;> (show ¬ _ = _; first | omega | (simp only []; omega)))
      have hv2 : RulV ((((((((((((((W9.setCell ⟨w.heap.size + 1 + 1, 0, none⟩ (.int .i64 off)).setCell ⟨w.heap.size + 1 + 1, 1, none⟩ (.int .i64 kind)).setCell ⟨w.heap.size + 1 + 1, 2, none⟩ (.int .i64 sav)).setCell ⟨w.heap.size + 1 + 1, 3, none⟩ (.string rs)).setCell ⟨w.heap.size + 1 + 1, 4, none⟩ (.string fmt)).setCell ⟨w.heap.size + 1 + 1, 5, none⟩ (.bool til)).setCell ⟨w.heap.size + 1 + 1, 6, none⟩ (.int .i64 yr)).setCell ⟨w.heap.size + 1 + 1, 7, none⟩ (.int .i64 mo)).setCell ⟨w.heap.size + 1 + 1, 8, none⟩ (.int .i64 ki)).setCell ⟨w.heap.size + 1 + 1, 9, none⟩ (.int .i64 wd)).setCell ⟨w.heap.size + 1 + 1, 10, none⟩ (.int .i64 da)).setCell ⟨w.heap.size + 1 + 1, 11, none⟩ (.int .i64 ti)).setCell ⟨w.heap.size + 1 + 1, 12, none⟩ (.int .i64 re)).setCell ⟨w.heap.size + 1 + 1, 13, none⟩ (.slice X l.length y)) X l.length y l := Rs.farF hv hf lw [.int .i64 off, .int .i64 kind, .int .i64 sav, .string rs, .string fmt, .bool til, .int .i64 yr, .int .i64 mo, .int .i64 ki, .int .i64 wd, .int .i64 da, .int .i64 ti, .int .i64 re, .slice X l.length y]
      have hf2 : FreshS (w.heap.size + 1 + 1 + 1) X := hf.low lw
      clear KB K1 hv hf lw lt z0 z1 z2 z3 z4 z5 z6 z7 z8 z9 z10 z11 z12 z13 g0 g1 g2 g3 g4 g5 g6 g7 g8 g9 g10 g11 g12 g13
      generalize ((((((((((((((W9.setCell ⟨w.heap.size + 1 + 1, 0, none⟩ (.int .i64 off)).setCell ⟨w.heap.size + 1 + 1, 1, none⟩ (.int .i64 kind)).setCell ⟨w.heap.size + 1 + 1, 2, none⟩ (.int .i64 sav)).setCell ⟨w.heap.size + 1 + 1, 3, none⟩ (.string rs)).setCell ⟨w.heap.size + 1 + 1, 4, none⟩ (.string fmt)).setCell ⟨w.heap.size + 1 + 1, 5, none⟩ (.bool til)).setCell ⟨w.heap.size + 1 + 1, 6, none⟩ (.int .i64 yr)).setCell ⟨w.heap.size + 1 + 1, 7, none⟩ (.int .i64 mo)).setCell ⟨w.heap.size + 1 + 1, 8, none⟩ (.int .i64 ki)).setCell ⟨w.heap.size + 1 + 1, 9, none⟩ (.int .i64 wd)).setCell ⟨w.heap.size + 1 + 1, 10, none⟩ (.int .i64 da)).setCell ⟨w.heap.size + 1 + 1, 11, none⟩ (.int .i64 ti)).setCell ⟨w.heap.size + 1 + 1, 12, none⟩ (.int .i64 re)).setCell ⟨w.heap.size + 1 + 1, 13, none⟩ (.slice X l.length y)) = W2 at *
      have KB := KF
      clear KF
      obtain ⟨y0, y1, y2, y3, y4, y5, y6, y7, y8, y9, y10, y11, y12, y13⟩ := KB.open14
      cases til with
      | false =>
        have N2 : Hid (∀ (k : Nat) (y : Er), k < i + 1 → es[k]? = some y → ¬ (y.til = true ∧ T < endE L y)) := Lib.hid fun k y hk hy => by
          by_cases c : k = i
          · subst c
            rw [hxx] at hy
            cases hy
            exact fun h => by have h1 := h.1; rw [HT.out] at h1; cases h1
          · exact HN.out k y (by omega) hy
        have H2 : Hid (HoldX L es (i + 1) (w.heap.size + 1 + 1 + 1) [.int .i64 off, .int .i64 kind, .int .i64 sav, .string rs, .string fmt, .bool false, .int .i64 yr, .int .i64 mo, .int .i64 ki, .int .i64 wd, .int .i64 da, .int .i64 ti, .int .i64 re, .slice X l.length y] W2) := Lib.hid fun _ => ⟨Q, X, y, hxx, by rw [← HL.out]; rw [HX.out]; rfl, by rw [← HL.out]; exact hv2, hf2⟩
        clear HN hxx EN hv2 hf2
        go_wp2_with fail
        go_roundw
        case rel => exact ⟨i + 1, by omega, int_eqS (by omega), N2, _, _, _, _, _, _, _, _, _, _, _, _, _, _, KB, H2⟩
        case measure => simp only [intOf]; omega
      | true =>
        by_cases hlt : T < en
        · have AN := Lib.hid (hold_brk hxx OK.out ⟨HT.out, by rw [← HQ.out]; exact hlt⟩ HN.out)
          have ME := Lib.hid (List.mem_of_getElem? hxx)
          clear HN hxx
          go_upto_region 8 with (go_at_call 27; refine (EN.out _ _ _ hv2 (MO.out _ _ LQ KB.hb)).mono ?_; clear EN; rintro e9 W10 ⟨rfl, hk⟩; replace KB := KB.below hk; replace hv2 := hv2.below hk; clear hk y0 y1 y2 y3 y4 y5 y6 y7 y8 y9 y10 y11 y12 y13; obtain ⟨y0, y1, y2, y3, y4, y5, y6, y7, y8, y9, y10, y11, y12, y13⟩ := KB.open14)
          clear y0 y1 y2 y3 y4 y5 y6 y7 y8 y9 y10 y11 y12 y13
          have KQ := KB.flip
          obtain ⟨lt, z0, z1, z2, z3, z4, z5, z6, z7, z8, z9, z10, z11, z12, z13, g0, g1, g2, g3, g4, g5, g6, g7, g8, g9, g10, g11, g12, g13⟩ := KQ.head.fourteen
          obtain ⟨y0, y1, y2, y3, y4, y5, y6, y7, y8, y9, y10, y11, y12, y13⟩ := KQ.tail.open14
          go_wp2
          have KF := KQ.put14 (.int .i64 off) (.int .i64 kind) (.int .i64 sav) (.string rs) (.string fmt) (.bool true) (.int .i64 yr) (.int .i64 mo) (.int .i64 ki) (.int .i64 wd) (.int .i64 da) (.int .i64 ti) (.int .i64 re) (.slice X l.length y) (by omega) (by intro y hy; simp only [List.mem_cons, List.not_mem_nil, or_false] at hy; rcases hy with rfl | rfl <;> (show ¬ _ = _; first | omega | (simp only []; omega)))
          obtain ⟨_, P0, P1, P2, P3, P4, P5, P6, P7, P8, P9, P10, P11, P12, P13, _⟩ := KF.head.fourteen
          exact bodyPost_ret (v := .agg #[.int .i64 off, .int .i64 kind, .int .i64 sav, .string rs, .string fmt, .bool true, .int .i64 yr, .int .i64 mo, .int .i64 ki, .int .i64 wd, .int .i64 da, .int .i64 ti, .int .i64 re, .slice X l.length y]) (by simp [results, Tryz.results35, go_sem, P0, P1, P2, P3, P4, P5, P6, P7, P8, P9, P10, P11, P12, P13]) rfl ⟨Q, ME.out, AN.out, X, y, by rw [← HL.out]; rw [HX.out]; rfl, by rw [← HL.out]; exact Rs.farF hv2 hf2 (by omega) [.int .i64 off, .int .i64 kind, .int .i64 sav, .string rs, .string fmt, .bool true, .int .i64 yr, .int .i64 mo, .int .i64 ki, .int .i64 wd, .int .i64 da, .int .i64 ti, .int .i64 re, .slice X l.length y], hf2.low (by omega), KF.hb⟩
        · have N2 : Hid (∀ (k : Nat) (y : Er), k < i + 1 → es[k]? = some y → ¬ (y.til = true ∧ T < endE L y)) := Lib.hid fun k y hk hy => by
            by_cases c : k = i
            · subst c
              rw [hxx] at hy
              cases hy
              exact fun h => hlt (by rw [HQ.out]; exact h.2)
            · exact HN.out k y (by omega) hy
          have H1 := hxx
          clear HN hxx
          go_wp2_with (go_at_call 27; refine (EN.out _ _ _ hv2 (MO.out _ _ LQ KB.hb)).mono ?_; clear EN; rintro e9 W10 ⟨rfl, hk⟩; replace KB := KB.below hk; replace hv2 := hv2.below hk; clear hk y0 y1 y2 y3 y4 y5 y6 y7 y8 y9 y10 y11 y12 y13)
          have H2 : Hid (HoldX L es (i + 1) (w.heap.size + 1 + 1 + 1) [.int .i64 off, .int .i64 kind, .int .i64 sav, .string rs, .string fmt, .bool true, .int .i64 yr, .int .i64 mo, .int .i64 ki, .int .i64 wd, .int .i64 da, .int .i64 ti, .int .i64 re, .slice X l.length y] W10) := Lib.hid fun _ => ⟨Q, X, y, H1, by rw [← HL.out]; rw [HX.out]; rfl, by rw [← HL.out]; exact hv2, hf2⟩
          go_roundw
          case rel => exact ⟨i + 1, by omega, int_eqS (by omega), N2, _, _, _, _, _, _, _, _, _, _, _, _, _, _, KB, H2⟩
          case measure => simp only [intOf]; omega
    · obtain rfl : i = u := by omega
      obtain ⟨x, X, y, hxx, hvs, hv2, hf2⟩ := HH.out UP
      have AN := Lib.hid (hold_end LN.out UP hxx OK.out HN.out)
      have ME := Lib.hid (List.mem_of_getElem? hxx)
      clear HN hxx HH
      obtain ⟨l, hl⟩ : ∃ l, l = setL L x.rules := ⟨_, rfl⟩
      rw [← hl] at hv2 hvs
      have HL := Lib.hid hl
      clear hl
      obtain ⟨Q, hQ⟩ : ∃ Q, Q = x := ⟨_, rfl⟩
      have HX := Lib.hid hQ
      rw [← hQ] at HL AN ME
      clear hQ
      obtain ⟨off, kind, sav, rs, fmt, til, yr, ⟨mo, ki, wd, da, ti, re⟩⟩ := x
      simp only [Er.vals, List.cons_append, List.nil_append, List.cons.injEq, and_true] at hvs
      obtain ⟨rfl, rfl, rfl, rfl, rfl, rfl, rfl, rfl, rfl, rfl, rfl, rfl, rfl, rfl⟩ := hvs
      have KQ := KB.flip
      obtain ⟨lt, z0, z1, z2, z3, z4, z5, z6, z7, z8, z9, z10, z11, z12, z13, g0, g1, g2, g3, g4, g5, g6, g7, g8, g9, g10, g11, g12, g13⟩ := KQ.head.fourteen
      obtain ⟨y0, y1, y2, y3, y4, y5, y6, y7, y8, y9, y10, y11, y12, y13⟩ := KQ.tail.open14
      go_wp2
      have KF := KQ.put14 (.int .i64 off) (.int .i64 kind) (.int .i64 sav) (.string rs) (.string fmt) (.bool til) (.int .i64 yr) (.int .i64 mo) (.int .i64 ki) (.int .i64 wd) (.int .i64 da) (.int .i64 ti) (.int .i64 re) (.slice X l.length y) (by omega) (by intro y hy; simp only [List.mem_cons, List.not_mem_nil, or_false] at hy; rcases hy with rfl | rfl <;> (show ¬ _ = _; first | omega | (simp only []; omega)))
      obtain ⟨_, P0, P1, P2, P3, P4, P5, P6, P7, P8, P9, P10, P11, P12, P13, _⟩ := KF.head.fourteen
      exact bodyPost_ret (v := .agg #[.int .i64 off, .int .i64 kind, .int .i64 sav, .string rs, .string fmt, .bool til, .int .i64 yr, .int .i64 mo, .int .i64 ki, .int .i64 wd, .int .i64 da, .int .i64 ti, .int .i64 re, .slice X l.length y]) (by simp [results, Tryz.results35, go_sem, P0, P1, P2, P3, P4, P5, P6, P7, P8, P9, P10, P11, P12, P13]) rfl ⟨Q, ME.out, AN.out, X, y, by rw [← HL.out]; rw [HX.out]; rfl, by rw [← HL.out]; exact Rs.farF hv2 hf2 (by omega) [.int .i64 off, .int .i64 kind, .int .i64 sav, .string rs, .string fmt, .bool til, .int .i64 yr, .int .i64 mo, .int .i64 ki, .int .i64 wd, .int .i64 da, .int .i64 ti, .int .i64 re, .slice X l.length y], hf2.low (by omega), KF.hb⟩
noncomputable def atO (abbr : ByteArray → ByteArray → Int → Int → ByteArray) (L : List Rl) (o : Option Ze) (T : Int) : Ph := match o with | some p => atE abbr L p.1.eras T | none => Ph.zero
theorem aa_none (A B C : Option Addr) (n c m d q e : Nat) (z T : Int) (w : World) (EO : Hid (∀ W, Below w.heap.size w W → Calls Tryz.prog 34 #[.agg #[.slice A n c, .slice B m d, .slice C q e], .int .i64 z] W (fun e w' => e = .returned (.tuple #[.slice none 0 0, .bool false]) ∧ Below W.heap.size W w'))) : Calls Tryz.prog 18 #[.agg #[.slice A n c, .slice B m d, .slice C q e], .int .i64 z, .int .i64 T] w (RetPB w Ph.zero false) := by
  go_enter Tryz.func18, Tryz.ntmps18
  go_upto_region 1 with (fail)
  have KB := (BK.nil w).lit [.slice A n c, .slice B m d, .slice C q e] 29
  rw [show ([.slice A n c, .slice B m d, .slice C q e] : List Value).toArray = #[.slice A n c, .slice B m d, .slice C q e] from rfl] at KB
  replace KB := KB.lit [.int .i64 0, .int .i64 0, .string ⟨#[]⟩] 43
  rw [show ([.int .i64 0, .int .i64 0, .string ⟨#[]⟩] : List Value).toArray = #[.int .i64 0, .int .i64 0, .string ⟨#[]⟩] from rfl] at KB
  generalize (w.alloc (.cells #[.slice A n c, .slice B m d, .slice C q e] 29)).alloc (.cells #[.int .i64 0, .int .i64 0, .string ⟨#[]⟩] 43) = W at *
  simp only [World.size_alloc] at *
  obtain ⟨_, x0, x1, x2, _⟩ := (KB.tail.head).three
  go_upto_region 3 with (go_at_call 34; refine (EO.out _ KB.hb).mono ?_; clear EO; rintro e9 W9 ⟨rfl, hk⟩; replace KB := KB.below hk; clear hk x0 x1 x2; obtain ⟨_, x0, x1, x2, _⟩ := (KB.tail.head).three)
  obtain ⟨lt, s0, s1, s2, g0, g1, g2⟩ := KB.head.three
  go_wp2
  have KF := KB.put3 (.int .i64 0) (.int .i64 0) (.string ⟨#[]⟩) (by omega) (by intro y hy; simp only [List.mem_cons, List.not_mem_nil, or_false] at hy; subst hy; (show ¬ _ = _; first | omega | (simp only []; omega)))
  obtain ⟨_, P0, P1, P2, _⟩ := KF.head.three
  exact bodyPost_ret (v := .tuple #[.agg #[.int .i64 0, .int .i64 0, .string ⟨#[]⟩], .bool false]) (by simp [results, Tryz.results18, go_sem, P0, P1, P2]) rfl ⟨rfl, KF.hb⟩
theorem aa_some {L : List Rl} (A B C : Option Addr) (n c m d q e : Nat) (z T : Int) (Z : Option Addr) (u cu : Nat) (es : List Er) (w : World) (LQ : ErasM w) (MO : Hid (∀ w W : World, ErasM w → Below w.heap.size w W → ErasM W)) (EO : Hid (∀ W, Below w.heap.size w W → Calls Tryz.prog 34 #[.agg #[.slice A n c, .slice B m d, .slice C q e], .int .i64 z] W (fun e w' => e = .returned (.tuple #[.slice Z u cu, .bool true]) ∧ Below W.heap.size W w')))
    (HO : Hid (∀ W, Below w.heap.size w W → Calls Tryz.prog 35 #[.agg #[.slice A n c, .slice B m d, .slice C q e], .slice Z u cu, .int .i64 T] W (fun e w' => ∃ x, x ∈ es ∧ eraAt L T es = some x ∧ RetX W x (setL L x.rules) e w')))
    (PH : Hid (∀ x, x ∈ es → ∀ X y po ps pa, phE abbrB L x T = ⟨po, ps, pa⟩ → ∀ W, RulV W X (setL L x.rules).length y (setL L x.rules) → ErasM W → Calls Tryz.prog 32 #[x.xval (.slice X (setL L x.rules).length y), .int .i64 T] W (RetV W (.agg #[.int .i64 po, .int .i64 ps, .string pa])))) :
    Calls Tryz.prog 18 #[.agg #[.slice A n c, .slice B m d, .slice C q e], .int .i64 z, .int .i64 T] w (RetPB w (atE abbrB L es T) true) := by
  go_enter Tryz.func18, Tryz.ntmps18
  go_upto_region 1 with (fail)
  have KB := (BK.nil w).lit [.slice A n c, .slice B m d, .slice C q e] 29
  rw [show ([.slice A n c, .slice B m d, .slice C q e] : List Value).toArray = #[.slice A n c, .slice B m d, .slice C q e] from rfl] at KB
  replace KB := KB.lit [.int .i64 0, .int .i64 0, .string ⟨#[]⟩] 43
  rw [show ([.int .i64 0, .int .i64 0, .string ⟨#[]⟩] : List Value).toArray = #[.int .i64 0, .int .i64 0, .string ⟨#[]⟩] from rfl] at KB
  generalize (w.alloc (.cells #[.slice A n c, .slice B m d, .slice C q e] 29)).alloc (.cells #[.int .i64 0, .int .i64 0, .string ⟨#[]⟩] 43) = W at *
  simp only [World.size_alloc] at *
  obtain ⟨_, x0, x1, x2, _⟩ := (KB.tail.head).three
  go_upto_region 4 with (go_at_call 34; refine (EO.out _ KB.hb).mono ?_; clear EO; rintro e9 W9 ⟨rfl, hk⟩; replace KB := KB.below hk; clear hk x0 x1 x2; obtain ⟨_, x0, x1, x2, _⟩ := (KB.tail.head).three)
  go_wp2_with (first
    | (go_at_call 35; refine (HO.out _ KB.hb).mono ?_; clear HO; rintro e9 W10 ⟨x, hx, ha, X, y, rfl, hv, _, hk⟩; have AN := Lib.hid (atE_some (abbr := abbrB) ha); clear ha; obtain ⟨⟨po, ps, pa⟩, hp⟩ : ∃ p, phE abbrB L x T = p := ⟨_, rfl⟩; have PX := Lib.hid (PH.out x hx X y po ps pa hp); replace AN := Lib.hid (AN.out.trans hp); clear PH hx hp; generalize x.xval _ = xv at *; replace KB := KB.below hk; clear hk x0 x1 x2; obtain ⟨_, x0, x1, x2, _⟩ := (KB.tail.head).three)
    | (go_at_call 32; refine (PX.out _ hv (MO.out _ _ LQ KB.hb)).mono ?_; clear PX hv; rintro e9 W11 ⟨rfl, hk⟩; replace KB := KB.below hk; clear hk x0 x1 x2; obtain ⟨_, x0, x1, x2, _⟩ := (KB.tail.head).three; obtain ⟨lt, s0, s1, s2, g0, g1, g2⟩ := KB.head.three))
  have KF := KB.put3 (.int .i64 po) (.int .i64 ps) (.string pa) (by omega) (by intro y hy; simp only [List.mem_cons, List.not_mem_nil, or_false] at hy; subst hy; (show ¬ _ = _; first | omega | (simp only []; omega)))
  obtain ⟨_, P0, P1, P2, _⟩ := KF.head.three
  exact bodyPost_ret (v := .tuple #[.agg #[.int .i64 po, .int .i64 ps, .string pa], .bool true]) (by simp [results, Tryz.results18, go_sem, P0, P1, P2]) rfl ⟨by rw [AN.out]; rfl, KF.hb⟩
theorem atAE (S : Sr) (a b c : Hd) (ze : List Ze) (w : World) (hv : SrcV w S a b c ze) (hx : S.in64) (z T : Int) (hT : In64 T) (t : ErasM w) : Calls Tryz.prog 18 #[.agg #[a.val, b.val, c.val], .int .i64 z, .int .i64 T] w (RetPB w (atO abbrB S.rules (zoneAt S ze z) T) (zoneAt S ze z).isSome) := by
  have EO := fun W (h : Below w.heap.size w W) => erasOfE S a b c ze W (hv.below h) hx z
  have ZO := fun p => zone_ok hv (z := z) (p := p)
  obtain ⟨A, n, c'⟩ := a
  obtain ⟨B, m, d⟩ := b
  obtain ⟨C, q, e⟩ := c
  unfold atO
  cases hz : zoneAt S ze z with
  | none =>
    rw [hz] at EO
    exact aa_none A B C n c' m d q e z T w (Lib.hid EO)
  | some p =>
    rw [hz] at EO
    obtain ⟨zok, er, sm, hL, hS⟩ := ZO p hz
    obtain ⟨⟨nm, es⟩, ⟨Z, u, cu⟩⟩ := p
    have sm : n ≤ 200 := sm
    have hE : ∀ x ∈ es, ErF x := fun x hx => era_fit (zok.2.2.1 x hx)
    have er : Rs 13 w Z u cu (es.map Er.vals) := er
    exact aa_some A B C n c' m d q e z T Z u cu es w t era_mono (Lib.hid EO)
      (Lib.hid fun W h => holdingE hL Z u cu es hE zok.2.2.2 T A B C n c' m d q e W (hv.rules.below h) (er.below h) (by omega) (t.mono h) era_mono)
      (Lib.hid fun x hx X y po ps pa hp W hl tt => by have := phasePE hL hS x (hE x hx) T hT X y W hl tt; rw [hp] at this; exact this)
structure OpenR (lo g n : Nat) (l : List Rl) (W : World) : Prop where
  lo : lo ≤ g
  rows : ∀ (i : Nat) (x : Rl), l[i]? = some x → ∀ (j : Nat) (v : Value), x.vals[j]? = some v → W.cell? ⟨g, i * 11 + j, none⟩ = some v
  open_ : ∀ k, k < n * 11 → W.frozen? ⟨g, k, none⟩ = false
  lt : g < W.heap.size
theorem OpenR.below {lo g n : Nat} {l : List Rl} {W W' : World} (h : OpenR lo g n l W) (k : Below W.heap.size W W') : OpenR lo g n l W' :=
  ⟨h.lo, fun i x hx j v hv => (k.cell (p := ⟨g, i * 11 + j, none⟩) h.lt).trans (h.rows i x hx j v hv), fun j hj => (k.frozen (p := ⟨g, j, none⟩) h.lt).trans (h.open_ j hj), Nat.lt_of_lt_of_le h.lt k.size⟩
theorem OpenR.again {lo g n : Nat} {l : List Rl} {W : World} (h : OpenR lo g n l W) {k : Nat} {v : Value} (e : W.cell? ⟨g, k, none⟩ = some v) : OpenR lo g n l (W.setCell ⟨g, k, none⟩ v) :=
  ⟨h.lo, fun i x hx j u hu => by
    by_cases c : i * 11 + j = k
    · subst c
      rw [World.cell?_setCell_same _ _ _ e, ← e]
      exact h.rows i x hx j u hu
    · rw [World.cell?_setCell_other _ _ _ _ (by simp <;> omega)]
      exact h.rows i x hx j u hu, fun j hj => by simpa using h.open_ j hj, by simpa [World.setCell] using h.lt⟩
theorem OwnR.open_ {w : World} {base g n c : Nat} {l : List Rl} (h : OwnR w base (.slice (some ⟨g, 0, none⟩) n c) l) (hn : l.length = n) : OpenR base g n l w := by
  subst hn
  exact ⟨(World.ownsRow.lt h g rfl).1, fun i x hx j v hv => by
    have hj : j < 11 := (List.getElem?_eq_some_iff.1 hv).1
    have := World.ownsRow.cells (g := g) h rfl (i * 11 + j) v (by rw [flatR_at hx j hj]; exact hv)
    rw [addr_add, Nat.zero_add] at this
    exact this, fun k _ => World.ownsRow.frozenAt h k, (World.ownsRow.lt h g rfl).2⟩
theorem OpenR.rulv {lo g n c : Nat} {l : List Rl} {W : World} (h : OpenR lo g n l W) (hn : l.length = n) (hc : n ≤ c) (hm : c ≤ maxLen) : RulV W (some ⟨g, 0, none⟩) n c l :=
  ⟨by simpa using hn, hc, hm, fun _ => ⟨g, 0, rfl, h.lt, fun i hi j u hu => by
    have hi' : i < l.length := by simpa using hi
    rw [List.getElem_map] at hu
    rw [Nat.zero_add]
    exact h.rows i _ (List.getElem?_eq_getElem hi') j u hu⟩⟩
def namesLe (l : List Rl) : Prop := ∀ x ∈ l, x.name.size ≤ 1000 ∧ x.letter.size ≤ 1000
def RetRl (w : World) (l : List Rl) (e : Ending) (w' : World) : Prop := ∃ A c, e = .returned (.slice A l.length c) ∧ RulV w' A l.length c l ∧ Below w.heap.size w w'
theorem setAE (L : List Rl) (nm : ByteArray) (A B C : Option Addr) (n c m d q e : Nat) (w : World) (hm : RulV w A n c L) (small : n ≤ 900) (hz : namesLe (setL L nm)) : Calls Tryz.prog 21 #[.agg #[.slice A n c, .slice B m d, .slice C q e], .string nm] w (RetRl w (setL L nm)) := by
  have NC := Lib.hid (fun W (h : Below w.heap.size w W) => namedE L nm A B C n c m d q e W (hm.below h) small)
  have CC := Lib.hid (fun (s : ByteArray) (h : s.size ≤ 1000) W => cloneP s (by omega) W)
  clear hm
  generalize setL L nm = l at *
  have HZ := Lib.hid hz
  clear hz
  go_enter Tryz.func21, Tryz.ntmps21
  go_upto_region 1 with (fail)
  have KB := (BK.nil w).lit [.slice A n c, .slice B m d, .slice C q e] 29
  rw [show ([.slice A n c, .slice B m d, .slice C q e] : List Value).toArray = #[.slice A n c, .slice B m d, .slice C q e] from rfl] at KB
  generalize w.alloc (.cells #[.slice A n c, .slice B m d, .slice C q e] 29) = W at *
  obtain ⟨_, x0, x1, x2, _⟩ := (KB.head).three
  go_upto_region 2 with (go_at_call 36; refine (NC.out _ KB.hb).mono ?_; have hb0 := KB.hb; have lw := KB.head.lt; clear NC KB x0 x1 x2; rintro e9 W9 ⟨v9, rfl, hw9, hk⟩; replace hb0 := below_thru hb0 hk)
  obtain ⟨X, y, rfl, hv⟩ := hw9.rulv
  have um : l.length ≤ y := hv.cap
  have ym : y ≤ 9223372036854775807 := hv.max
  cases X with
  | none =>
    obtain rfl : l = [] := by
      rcases hw9.2 with ⟨_, h⟩ | ⟨_, _, _, h, _⟩
      · exact List.eq_nil_of_length_eq_zero h
      · cases h
    go_wp2_with fail
    go_loopw [12] (fun v12 wr => v12 = .int .i64 0 ∧ wr = W9) (fun _ _ => 0)
    case atStart => exact ⟨rfl, rfl⟩
    case round =>
      obtain ⟨rfl, rfl⟩ := hrel
      go_wp2
      go_ret
      exact ⟨none, y, rfl, hv, hb0⟩
  | some a0 =>
    obtain ⟨g, rfl⟩ := hw9.zero a0 rfl
    have HO := hw9.open_ rfl
    replace HO : OpenR w.heap.size g l.length l W9 := ⟨Nat.le_trans (Nat.le_of_lt lw) HO.lo, HO.rows, HO.open_, HO.lt⟩
    clear hw9 hv hk lw
    go_wp2_with fail
    go_loopw [12] (fun v12 wr => ∃ i : Nat, i ≤ l.length ∧ v12 = .int .i64 i ∧ OpenR w.heap.size g l.length l wr ∧ Below w.heap.size w wr) (fun v _ => l.length - (intOf v).toNat)
    case atStart => exact ⟨0, by omega, rfl, HO, hb0⟩
    case round =>
      clear HO hb0
      obtain ⟨i, hi, rfl, HO, hb⟩ := hrel
      by_cases h4 : i < l.length
      · obtain ⟨x, hxx⟩ : ∃ x, l[i]? = some x := ⟨_, List.getElem?_eq_getElem h4⟩
        obtain ⟨z1, z2⟩ := HZ.out x (List.mem_of_getElem? hxx)
        have C1 := Lib.hid (CC.out x.name z1)
        have C2 := Lib.hid (CC.out x.letter z2)
        have R0 : Hid (∀ W, OpenR w.heap.size g l.length l W → W.cell? ⟨g, i * 11, none⟩ = some (.string x.name)) := Lib.hid (fun W h => h.rows i x hxx 0 _ rfl)
        have R1 := Lib.hid (fun W (h : OpenR w.heap.size g l.length l W) => (h.rows i x hxx 10 _ rfl : W.cell? ⟨g, i * 11 + 10, none⟩ = some (.string x.letter)))
        have F0 := Lib.hid (fun W (h : OpenR w.heap.size g l.length l W) => h.open_ (i * 11) (by omega))
        have F1 := Lib.hid (fun W (h : OpenR w.heap.size g l.length l W) => h.open_ (i * 11 + 10) (by omega))
        clear hxx z1 z2
        generalize x.name = sn at *
        generalize x.letter = sl at *
        have c0 : wr.cell? ⟨g, i * 11, none⟩ = some (.string sn) := R0.out _ HO
        have c1 := R1.out _ HO
        have f0 := F0.out _ HO
        have f1 := F1.out _ HO
        go_wp2_with fail
        go_region_held3 (fun w' => w'.cell? ⟨g, i * 11, none⟩ = some (.string sn) ∧ w'.cell? ⟨g, i * 11 + 10, none⟩ = some (.string sl)) (first | (with_reducible exact ⟨R0.out _ HO, R1.out _ HO⟩) | (with_reducible exact ⟨R0.out _ (HO.below (Below.refl _ _).drew), R1.out _ (HO.below (Below.refl _ _).drew)⟩) | (with_reducible exact ⟨R0.out _ (HO.again (R0.out _ HO)), R1.out _ (HO.again (R0.out _ HO))⟩) | (with_reducible exact ⟨R0.out _ (HO.again (R1.out _ HO)), R1.out _ (HO.again (R1.out _ HO))⟩) | (with_reducible exact ⟨R0.out _ ((HO.below (Below.refl _ _).drew).again (R0.out _ (HO.below (Below.refl _ _).drew))), R1.out _ ((HO.below (Below.refl _ _).drew).again (R0.out _ (HO.below (Below.refl _ _).drew)))⟩) | (with_reducible exact ⟨R0.out _ ((HO.below (Below.refl _ _).drew).again (R1.out _ (HO.below (Below.refl _ _).drew))), R1.out _ ((HO.below (Below.refl _ _).drew).again (R1.out _ (HO.below (Below.refl _ _).drew)))⟩) | (with_reducible exact ⟨R0.out _ ((HO.again (R0.out _ HO)).again (R1.out _ (HO.again (R0.out _ HO)))), R1.out _ ((HO.again (R0.out _ HO)).again (R1.out _ (HO.again (R0.out _ HO))))⟩) | (with_reducible exact ⟨R0.out _ ((HO.again (R1.out _ HO)).again (R0.out _ (HO.again (R1.out _ HO)))), R1.out _ ((HO.again (R1.out _ HO)).again (R0.out _ (HO.again (R1.out _ HO))))⟩) | (with_reducible exact ⟨R0.out _ (((HO.below (Below.refl _ _).drew).again (R0.out _ (HO.below (Below.refl _ _).drew))).again (R1.out _ ((HO.below (Below.refl _ _).drew).again (R0.out _ (HO.below (Below.refl _ _).drew))))), R1.out _ (((HO.below (Below.refl _ _).drew).again (R0.out _ (HO.below (Below.refl _ _).drew))).again (R1.out _ ((HO.below (Below.refl _ _).drew).again (R0.out _ (HO.below (Below.refl _ _).drew)))))⟩) | (with_reducible exact ⟨R0.out _ (((HO.below (Below.refl _ _).drew).again (R1.out _ (HO.below (Below.refl _ _).drew))).again (R0.out _ ((HO.below (Below.refl _ _).drew).again (R1.out _ (HO.below (Below.refl _ _).drew))))), R1.out _ (((HO.below (Below.refl _ _).drew).again (R1.out _ (HO.below (Below.refl _ _).drew))).again (R0.out _ ((HO.below (Below.refl _ _).drew).again (R1.out _ (HO.below (Below.refl _ _).drew)))))⟩) | go_keep)
          (first
            | (go_at_call 22; (with_reducible refine (C1.out _).mono ?_); rintro e9 W10 ⟨rfl, hk⟩; (with_reducible first | (replace HO := HO.below hk; replace hb := below_thru hb hk) | (replace HO := (HO.below (Below.refl _ _).drew).below hk; replace hb := below_thru (hb.drew) hk)); clear hk c0 c1 f0 f1; have c0 : W10.cell? ⟨g, i * 11, none⟩ = some (.string sn) := R0.out _ HO; have c1 := R1.out _ HO; have f0 := F0.out _ HO; have f1 := F1.out _ HO)
            | (go_at_call 22; (with_reducible refine (C2.out _).mono ?_); rintro e9 W11 ⟨rfl, hk⟩; (with_reducible first | (replace HO := HO.below hk; replace hb := below_thru hb hk) | (replace HO := (HO.below (Below.refl _ _).drew).below hk; replace hb := below_thru (hb.drew) hk)); clear hk c0 c1 f0 f1; have c0 : W11.cell? ⟨g, i * 11, none⟩ = some (.string sn) := R0.out _ HO; have c1 := R1.out _ HO; have f0 := F0.out _ HO; have f1 := F1.out _ HO))
        all_goals
          go_wp2_with fail
          go_roundw
          case rel => exact ⟨i + 1, by omega, int_eqS (by omega), (HO.again (R0.out _ HO)).again (R1.out _ (HO.again (R0.out _ HO))), (hb.setCell (p := ⟨g, i * 11, none⟩) HO.lo _).setCell (p := ⟨g, i * 11 + 10, none⟩) HO.lo _⟩
          case measure => simp only [intOf]; omega
      · obtain rfl : i = l.length := by omega
        go_wp2
        go_ret
        exact ⟨_, y, rfl, HO.rulv rfl um ym, hb⟩
def sgnD (s t : ByteArray) : Option Nat := (List.range (s.size + 1)).find? (fun i => decide (i + t.size ≤ s.size) && decide (s.extract i (i + t.size) = t))
theorem occ_dec {s t : ByteArray} {i : Nat} : (decide (i + t.size ≤ s.size) && decide (s.extract i (i + t.size) = t)) = true ↔ occ s t i := by
  unfold occ
  rw [Bool.and_eq_true, decide_eq_true_eq, decide_eq_true_eq]
theorem sgnD_is (s t : ByteArray) : sgnT s t = sgnD s t := by
  cases e : sgnD s t with
  | none =>
    refine sgnT_none fun k hk => ?_
    have := List.find?_eq_none.1 e k (List.mem_range.2 (by have := hk.1; omega))
    exact this (occ_dec.2 hk)
  | some i =>
    obtain ⟨h1, pa, pb, h2, h3⟩ := List.find?_eq_some_iff_append.1 e
    refine sgnT_at (occ_dec.1 h1) fun k hk c => ?_
    have hi : i = pa.length := by
      have g := congrArg (fun l => l[pa.length]?) h2
      have r : (pa ++ i :: pb)[pa.length]? = some i := by rw [List.getElem?_append_right (Nat.le_refl _), Nat.sub_self]; rfl
      simp only [r] at g
      have := (List.getElem?_eq_some_iff.1 g).2
      rw [List.getElem_range] at this
      exact this.symm
    have hm : k ∈ pa := by
      have g := congrArg (fun l => l[k]?) h2
      have le : k < pa.length := by omega
      have r : (pa ++ i :: pb)[k]? = some (pa[k]) := by rw [List.getElem?_append_left le, List.getElem?_eq_getElem le]
      simp only [r] at g
      have := (List.getElem?_eq_some_iff.1 g).2
      rw [List.getElem_range] at this
      rw [this]
      exact List.getElem_mem le
    have := h3 k hm
    rw [Bool.not_eq_true'] at this
    rw [occ_dec.2 c] at this
    cases this
def abbrD (f l : ByteArray) (off save : Int) : ByteArray :=
  match sgnD f ⟨#[37, 115]⟩ with
  | some i => f.extract 0 i ++ l ++ f.extract (i + 2) f.size
  | none => match sgnD f ⟨#[37, 122]⟩ with
    | some i => f.extract 0 i ++ toldB off ++ f.extract (i + 2) f.size
    | none => match sgnD f ⟨#[47]⟩ with
      | none => f
      | some i => if save = 0 then f.extract 0 i else f.extract (i + 1) f.size
theorem abbrD_is (f l : ByteArray) (off save : Int) : abbrB f l off save = abbrD f l off save := by
  unfold abbrB abbrD
  rw [sgnD_is, sgnD_is, sgnD_is]
  rfl
def euA : Rl := ⟨⟨#[69]⟩, 1990, 1000000, ⟨3, 1, 7, 0, 3600, 2⟩, 3600, ⟨#[83]⟩⟩
def euB : Rl := ⟨⟨#[69]⟩, 1990, 1000000, ⟨10, 1, 7, 0, 3600, 2⟩, 0, ⟨#[]⟩⟩
def euL : List Rl := [euA, euB]
def smE : Er := ⟨1234, 0, 0, ⟨#[]⟩, ⟨#[76, 77, 84]⟩, true, 1995, ⟨1, 0, 0, 1, 0, 0⟩⟩
def smF : Er := ⟨3600, 2, 0, ⟨#[69]⟩, ⟨#[67, 37, 115, 84]⟩, false, 0, .zero⟩
def smZ : Zn := ⟨⟨#[65]⟩, [smE, smF]⟩
def smS : Sr := ⟨euL, [smZ], []⟩
theorem sm_ok : smS.ok := by
  refine ⟨by decide, by decide, by decide, fun x hx => ?_, fun z hz => ?_, fun x hx => absurd hx (by simp [smS])⟩
  · have hx : x ∈ euL := hx
    simp only [euL, List.mem_cons, List.not_mem_nil, or_false] at hx
    rcases hx with rfl | rfl
    · exact ⟨by decide, by decide, by unfold Sp.ok; decide, by decide, by kernel_rfl, by decide, .inr (by kernel_rfl)⟩
    · exact ⟨by decide, by decide, by unfold Sp.ok; decide, by decide, by kernel_rfl, by decide, .inl rfl⟩
  · have hz : z ∈ [smZ] := hz
    simp only [List.mem_cons, List.not_mem_nil, or_false] at hz
    subst hz
    refine ⟨by kernel_rfl, by decide, fun x hx => ?_, rfl, rfl⟩
    have hx : x ∈ [smE, smF] := hx
    simp only [List.mem_cons, List.not_mem_nil, or_false] at hx
    rcases hx with rfl | rfl
    · exact ⟨by decide, by decide, by kernel_rfl, by decide, by decide, by decide, by decide, by unfold Sp.ok; decide, by decide⟩
    · exact ⟨by decide, by decide, by kernel_rfl, by decide, by decide, by decide, fun _ => by kernel_rfl, by decide, by decide⟩
theorem sm_okB : okSr smS = true := okSr_yes sm_ok
theorem eu_set : setL smS.rules ⟨#[69]⟩ = euL := by kernel_rfl
theorem sm_end : endE smS.rules smE = 788917166 := by
  unfold endE aheadE
  rw [if_neg (by decide), if_neg (by decide), if_neg (by decide)]
  kernel_rfl
theorem eu_A21 : turnT euA 2021 = ⟨1616893200, 2, 3600, ⟨#[83]⟩⟩ := by kernel_rfl
theorem eu_B21 : turnT euB 2021 = ⟨1635642000, 2, 0, ⟨#[]⟩⟩ := by kernel_rfl
theorem eu_tA21 : isTurn euL 0 2021 (turnT euA 2021) := ⟨euA, rfl, of_decide_eq_true (by kernel_rfl), rfl⟩
theorem eu_all {j : Nat} {z : Int} {u : Tn} (h : isTurn euL j z u) : u.re = 2 ∧ (u.at_ < 1616893200 ∨ (j = 0 ∧ u.at_ = 1616893200) ∨ 1625097600 < u.at_) := by
  obtain ⟨x, hx, ht, rfl⟩ := h
  have hj : (j = 0 ∧ x = euA) ∨ (j = 1 ∧ x = euB) := by
    have l := (List.getElem?_eq_some_iff.1 hx).1
    have l2 : j < 2 := l
    rcases (by omega : j = 0 ∨ j = 1) with rfl | rfl
    · left; exact ⟨rfl, (Option.some.inj hx).symm⟩
    · right; exact ⟨rfl, (Option.some.inj hx).symm⟩
  have ty := turn_year ht
  have c1 : jan 2021 = 18628 := by decide
  have c2 : jan 2022 = 18993 := by decide
  refine ⟨by rcases hj with ⟨_, rfl⟩ | ⟨_, rfl⟩ <;> rfl, ?_⟩
  by_cases l1 : z ≤ 2020
  · left
    have := jan_le (a := z + 1) (b := 2021) (by omega)
    omega
  by_cases l2 : 2022 ≤ z
  · have := jan_le (a := 2022) (b := z) l2
    exact .inr (.inr (by omega))
  obtain rfl : z = 2021 := by omega
  rcases hj with ⟨rfl, rfl⟩ | ⟨rfl, rfl⟩
  · rw [eu_A21]; exact .inr (.inl ⟨rfl, rfl⟩)
  · rw [eu_B21]; exact .inr (.inr (by decide))
theorem eu_on : forceR euL 3600 1625097600 = (3600, ⟨#[83]⟩) := by
  have h : lastO euL 3600 1625097600 = some (turnT euA 2021) := latestO_of ⟨0, 2021, eu_tA21, by show uniT euL 3600 (turnT euA 2021) ≤ _; unfold uniT; rw [if_pos (by rw [eu_A21]), eu_A21]; decide, fun j z u hu pu => by
    have pu' : uniT euL 3600 u ≤ 1625097600 := pu
    obtain ⟨h1, h2⟩ := eu_all hu
    unfold uniT at pu'
    rw [if_pos h1] at pu'
    rw [eu_A21]
    show u.at_ < 1616893200 ∨ (u.at_ = 1616893200 ∧ j ≤ 0)
    omega⟩
  unfold forceR
  rw [h, eu_A21]
theorem sm_at0 : atE abbrB smS.rules [smE, smF] 0 = ⟨1234, 0, ⟨#[76, 77, 84]⟩⟩ := by
  have e : eraAt smS.rules 0 [smE, smF] = some smE := eraAt_first (i := 0) rfl (fun k y h => absurd h (by omega)) (.inr (by rw [sm_end]; decide))
  rw [atE_some e]
  unfold phE savE
  rw [if_neg (by decide), abbrD_is]
  show (⟨1234, 0, abbrD ⟨#[76, 77, 84]⟩ ⟨#[]⟩ 1234 0⟩ : Ph) = _
  rw [show abbrD ⟨#[76, 77, 84]⟩ ⟨#[]⟩ 1234 0 = ⟨#[76, 77, 84]⟩ from by kernel_rfl]
theorem sm_at1 : atE abbrB smS.rules [smE, smF] 1625097600 = ⟨7200, 3600, ⟨#[67, 83, 84]⟩⟩ := by
  have e : eraAt smS.rules 1625097600 [smE, smF] = some smF := eraAt_first (i := 1) rfl (fun k y h hy => by
    obtain rfl : k = 0 := by omega
    obtain rfl : smE = y := Option.some.inj hy
    intro c
    rcases c with c | c
    · cases c
    · rw [sm_end] at c; exact absurd c (by decide)) (.inl rfl)
  rw [atE_some e]
  unfold phE savE
  have s : setL smS.rules smF.rules = euL := eu_set
  rw [if_pos (by rfl), s, show forceR euL smF.off 1625097600 = (3600, ⟨#[83]⟩) from eu_on, abbrD_is]
  show (⟨7200, 3600, abbrD ⟨#[67, 37, 115, 84]⟩ ⟨#[83]⟩ 7200 3600⟩ : Ph) = _
  rw [show abbrD ⟨#[67, 37, 115, 84]⟩ ⟨#[83]⟩ 7200 3600 = ⟨#[67, 83, 84]⟩ from by kernel_rfl]
theorem told_m : abbrB ⟨#[37, 122]⟩ ⟨#[]⟩ (-12600) 0 = ⟨#[45, 48, 51, 51, 48]⟩ := by rw [abbrD_is]; kernel_rfl
theorem beq_txtT (t u : ByteArray) : (t == u) = decide (t = u) := by
  by_cases h : t = u
  · subst h
    rw [decide_eq_true rfl]
    show (t.data == t.data) = true
    simp
  · rw [decide_eq_false h]
    rw [Bool.eq_false_iff]
    intro c
    apply h
    have c : (t.data == u.data) = true := c
    exact ByteArray.ext (by simpa using c)
structure ErasQ (Q : World → Prop) : Prop where
  mono : ∀ (w W : World), Q w → Below w.heap.size w W → Q W
  set_ : ∀ (S : Sr) (a b c : Hd) (ze : List Ze) (nm : ByteArray) (W : World), SrcV W S a b c ze → a.n ≤ 900 → namesLe (setL S.rules nm) → Q W → Calls Tryz.prog 21 #[.agg #[a.val, b.val, c.val], .string nm] W (RetRl W (setL S.rules nm))
  end_ : ∀ (S : Sr) (a b c : Hd) (ze : List Ze) (z i : Int) (W : World), SrcV W S a b c ze → S.in64 → Q W → Calls Tryz.prog 13 #[.agg #[a.val, b.val, c.val], .int .i64 z, .int .i64 i] W (RetNumB W (endO S.rules (eraAtP S ze z i)).1 (endO S.rules (eraAtP S ze z i)).2)
  phase : ∀ (S : Sr) (a b c : Hd) (ze : List Ze) (z i T : Int) (_ : In64 T) (W : World), SrcV W S a b c ze → S.in64 → Q W → Calls Tryz.prog 16 #[.agg #[a.val, b.val, c.val], .int .i64 z, .int .i64 i, .int .i64 T] W (RetPB W (phO abbrB S.rules (eraAtP S ze z i) T) (eraAtP S ze z i).isSome)
  at_ : ∀ (S : Sr) (a b c : Hd) (ze : List Ze) (z T : Int) (_ : In64 T) (W : World), SrcV W S a b c ze → S.in64 → Q W → Calls Tryz.prog 18 #[.agg #[a.val, b.val, c.val], .int .i64 z, .int .i64 T] W (RetPB W (atO abbrB S.rules (zoneAt S ze z) T) (zoneAt S ze z).isSome)
  abbr : ∀ (f l : ByteArray) (_ : f.size ≤ 1000) (_ : l.size ≤ 1000) (off save : Int) (_ : In64 off) (W : World), Q W → Calls Tryz.prog 10 #[.string f, .string l, .int .i64 off, .int .i64 save] W (RetV W (.string (abbrB f l off save)))
theorem erasP : ErasQ ErasM where
  mono := fun _ _ t h => t.mono h
  set_ := fun S a b c _ nm W hv hn hl _ => setAE S.rules nm a.a b.a c.a a.n a.c b.n b.c c.n c.c W hv.rules hn hl
  end_ := fun S a b c ze z i W hv hx t => endAE S a b c ze W hv hx z i t
  phase := fun S a b c ze z i T hT W hv hx t => phaseAE S a b c ze W hv hx z i T hT t
  at_ := fun S a b c ze z T hT W hv hx t => atAE S a b c ze W hv hx z T hT t
  abbr := fun f l hf hl off save ho W t => abbrP f l hf hl off save ho.1 ho.2 W t
theorem flat_row {k : Nat} : ∀ {l : List (List Value)} {i : Nat}, (∀ x ∈ l, x.length = k) → (hi : i < l.length) → ∀ (j : Nat) (u : Value), l[i][j]? = some u → l.flatten[i * k + j]? = some u
  | [], i, _, hi, _, _, _ => absurd hi (by simp)
  | x :: r, 0, h, _, j, u, hu => by
    have hj : j < x.length := (List.getElem?_eq_some_iff.1 hu).1
    rw [List.flatten_cons, Nat.zero_mul, Nat.zero_add, List.getElem?_append_left hj]
    exact hu
  | x :: r, i + 1, h, hi, j, u, hu => by
    have hx := h x (List.mem_cons_self ..)
    rw [List.flatten_cons, List.getElem?_append_right (by rw [hx, Nat.succ_mul]; omega), hx, show (i + 1) * k + j - k = i * k + j by rw [Nat.succ_mul]; omega]
    exact flat_row (l := r) (i := i) (fun z hz => h z (List.mem_cons_of_mem _ hz)) (by simpa using hi) j u (by simpa using hu)
theorem Rs.ofBlk {k : Nat} {W : World} {g : Nat} {l : List (List Value)} {n : Nat} (h : Blk W g l.flatten) (hk : ∀ x ∈ l, x.length = k) (hn : l.length = n) (hm : n ≤ maxLen) : Rs k W (some ⟨g, 0, none⟩) n n l :=
  ⟨hn, Nat.le_refl _, hm, fun _ => ⟨g, 0, rfl, h.lt, fun i hi j u hu => by
    have := blk_news h (i * k + j) u (flat_row hk hi j u hu)
    rw [addr_add, Nat.zero_add] at this
    rw [Nat.zero_add]
    exact this⟩⟩
theorem BK.rev4 {w W : World} {a b c d : Nat × List Value} (h : BK w [a, b, c, d] W) : BK w [d, c, b, a] W := ⟨fun x hx => h.al x (by
  simp only [List.mem_cons, List.not_mem_nil, or_false] at hx ⊢
  rcases hx with h | h | h | h
  · exact .inr (.inr (.inr h))
  · exact .inr (.inr (.inl h))
  · exact .inr (.inl h)
  · exact .inl h), h.hb⟩
def RetSm (w : World) (e : Ending) (w' : World) : Prop := ∃ a b ze, e = .returned (.agg #[a.val, b.val, Hd.val ⟨none, 0, 0⟩]) ∧ SrcV w' smS a b ⟨none, 0, 0⟩ ze ∧ Below w.heap.size w w' ∧ a.n = 2 ∧ ze.length = 1 ∧ (∀ p, ze[0]? = some p → p.1 = smZ)
theorem smallE (w : World) : Calls Tryz.prog 20 #[] w (RetSm w) := by
  have KB := (BK.nil w).lit [.slice (some ⟨w.heap.size + 1, 0, none⟩) 2 2, .slice (some ⟨w.heap.size + 1 + 1 + 1, 0, none⟩) 1 1, .slice none 0 0] 29
  rw [show ([.slice (some ⟨w.heap.size + 1, 0, none⟩) 2 2, .slice (some ⟨w.heap.size + 1 + 1 + 1, 0, none⟩) 1 1, .slice none 0 0] : List Value).toArray = #[.slice (some ⟨w.heap.size + 1, 0, none⟩) 2 2, .slice (some ⟨w.heap.size + 1 + 1 + 1, 0, none⟩) 1 1, .slice none 0 0] from rfl] at KB
  replace KB := KB.lit [.string ⟨#[69]⟩, .int .i64 1990, .int .i64 1000000, .int .i64 3, .int .i64 1, .int .i64 7, .int .i64 0, .int .i64 3600, .int .i64 2, .int .i64 3600, .string ⟨#[83]⟩, .string ⟨#[69]⟩, .int .i64 1990, .int .i64 1000000, .int .i64 10, .int .i64 1, .int .i64 7, .int .i64 0, .int .i64 3600, .int .i64 2, .int .i64 0, .string ⟨#[]⟩] 52
  rw [show ([.string ⟨#[69]⟩, .int .i64 1990, .int .i64 1000000, .int .i64 3, .int .i64 1, .int .i64 7, .int .i64 0, .int .i64 3600, .int .i64 2, .int .i64 3600, .string ⟨#[83]⟩, .string ⟨#[69]⟩, .int .i64 1990, .int .i64 1000000, .int .i64 10, .int .i64 1, .int .i64 7, .int .i64 0, .int .i64 3600, .int .i64 2, .int .i64 0, .string ⟨#[]⟩] : List Value).toArray = #[.string ⟨#[69]⟩, .int .i64 1990, .int .i64 1000000, .int .i64 3, .int .i64 1, .int .i64 7, .int .i64 0, .int .i64 3600, .int .i64 2, .int .i64 3600, .string ⟨#[83]⟩, .string ⟨#[69]⟩, .int .i64 1990, .int .i64 1000000, .int .i64 10, .int .i64 1, .int .i64 7, .int .i64 0, .int .i64 3600, .int .i64 2, .int .i64 0, .string ⟨#[]⟩] from rfl] at KB
  replace KB := KB.lit [.int .i64 1234, .int .i64 0, .int .i64 0, .string ⟨#[]⟩, .string ⟨#[76, 77, 84]⟩, .bool true, .int .i64 1995, .int .i64 1, .int .i64 0, .int .i64 0, .int .i64 1, .int .i64 0, .int .i64 0, .int .i64 3600, .int .i64 2, .int .i64 0, .string ⟨#[69]⟩, .string ⟨#[67, 37, 115, 84]⟩, .bool false, .int .i64 0, .int .i64 0, .int .i64 0, .int .i64 0, .int .i64 0, .int .i64 0, .int .i64 0] 39
  rw [show ([.int .i64 1234, .int .i64 0, .int .i64 0, .string ⟨#[]⟩, .string ⟨#[76, 77, 84]⟩, .bool true, .int .i64 1995, .int .i64 1, .int .i64 0, .int .i64 0, .int .i64 1, .int .i64 0, .int .i64 0, .int .i64 3600, .int .i64 2, .int .i64 0, .string ⟨#[69]⟩, .string ⟨#[67, 37, 115, 84]⟩, .bool false, .int .i64 0, .int .i64 0, .int .i64 0, .int .i64 0, .int .i64 0, .int .i64 0, .int .i64 0] : List Value).toArray = #[.int .i64 1234, .int .i64 0, .int .i64 0, .string ⟨#[]⟩, .string ⟨#[76, 77, 84]⟩, .bool true, .int .i64 1995, .int .i64 1, .int .i64 0, .int .i64 0, .int .i64 1, .int .i64 0, .int .i64 0, .int .i64 3600, .int .i64 2, .int .i64 0, .string ⟨#[69]⟩, .string ⟨#[67, 37, 115, 84]⟩, .bool false, .int .i64 0, .int .i64 0, .int .i64 0, .int .i64 0, .int .i64 0, .int .i64 0, .int .i64 0] from rfl] at KB
  simp only [World.size_alloc] at KB
  replace KB := KB.lit [.string ⟨#[65]⟩, .slice (some ⟨w.heap.size + 1 + 1, 0, none⟩) 2 2] 35
  rw [show ([.string ⟨#[65]⟩, .slice (some ⟨w.heap.size + 1 + 1, 0, none⟩) 2 2] : List Value).toArray = #[.string ⟨#[65]⟩, .slice (some ⟨w.heap.size + 1 + 1, 0, none⟩) 2 2] from rfl] at KB
  simp only [World.size_alloc] at KB
  go_enter Tryz.func20, Tryz.ntmps20
  go_wp2
  generalize (((w.alloc (.cells #[.slice (some ⟨w.heap.size + 1, 0, none⟩) 2 2, .slice (some ⟨w.heap.size + 1 + 1 + 1, 0, none⟩) 1 1, .slice none 0 0] 29)).alloc (.cells #[.string ⟨#[69]⟩, .int .i64 1990, .int .i64 1000000, .int .i64 3, .int .i64 1, .int .i64 7, .int .i64 0, .int .i64 3600, .int .i64 2, .int .i64 3600, .string ⟨#[83]⟩, .string ⟨#[69]⟩, .int .i64 1990, .int .i64 1000000, .int .i64 10, .int .i64 1, .int .i64 7, .int .i64 0, .int .i64 3600, .int .i64 2, .int .i64 0, .string ⟨#[]⟩] 52)).alloc (.cells #[.int .i64 1234, .int .i64 0, .int .i64 0, .string ⟨#[]⟩, .string ⟨#[76, 77, 84]⟩, .bool true, .int .i64 1995, .int .i64 1, .int .i64 0, .int .i64 0, .int .i64 1, .int .i64 0, .int .i64 0, .int .i64 3600, .int .i64 2, .int .i64 0, .string ⟨#[69]⟩, .string ⟨#[67, 37, 115, 84]⟩, .bool false, .int .i64 0, .int .i64 0, .int .i64 0, .int .i64 0, .int .i64 0, .int .i64 0, .int .i64 0] 39)).alloc (.cells #[.string ⟨#[65]⟩, .slice (some ⟨w.heap.size + 1 + 1, 0, none⟩) 2 2] 35) = W at *
  have KQ : BK w [(w.heap.size, [.slice (some ⟨w.heap.size + 1, 0, none⟩) 2 2, .slice (some ⟨w.heap.size + 1 + 1 + 1, 0, none⟩) 1 1, .slice none 0 0]), (w.heap.size + 1, [.string ⟨#[69]⟩, .int .i64 1990, .int .i64 1000000, .int .i64 3, .int .i64 1, .int .i64 7, .int .i64 0, .int .i64 3600, .int .i64 2, .int .i64 3600, .string ⟨#[83]⟩, .string ⟨#[69]⟩, .int .i64 1990, .int .i64 1000000, .int .i64 10, .int .i64 1, .int .i64 7, .int .i64 0, .int .i64 3600, .int .i64 2, .int .i64 0, .string ⟨#[]⟩]), (w.heap.size + 1 + 1, [.int .i64 1234, .int .i64 0, .int .i64 0, .string ⟨#[]⟩, .string ⟨#[76, 77, 84]⟩, .bool true, .int .i64 1995, .int .i64 1, .int .i64 0, .int .i64 0, .int .i64 1, .int .i64 0, .int .i64 0, .int .i64 3600, .int .i64 2, .int .i64 0, .string ⟨#[69]⟩, .string ⟨#[67, 37, 115, 84]⟩, .bool false, .int .i64 0, .int .i64 0, .int .i64 0, .int .i64 0, .int .i64 0, .int .i64 0, .int .i64 0]), (w.heap.size + 1 + 1 + 1, [.string ⟨#[65]⟩, .slice (some ⟨w.heap.size + 1 + 1, 0, none⟩) 2 2])] W := KB.rev4
  have KF := KQ
  clear KQ KB
  obtain ⟨_, P0, P1, P2, _⟩ := KF.head.three
  have HR : Rs 11 _ (some ⟨w.heap.size + 1, 0, none⟩) 2 2 (smS.rules.map Rl.vals) := Rs.ofBlk (l := smS.rules.map Rl.vals) KF.tail.head (by intro x hx; obtain ⟨y, _, rfl⟩ := List.mem_map.1 hx; rfl) rfl (by unfold maxLen; decide)
  have HE : eraRows _ (smZ, ⟨some ⟨w.heap.size + 1 + 1, 0, none⟩, 2, 2⟩) := Rs.ofBlk (k := 13) (n := 2) (l := [smE, smF].map Er.vals) KF.tail.tail.head (by intro x hx; obtain ⟨y, _, rfl⟩ := List.mem_map.1 hx; rfl) rfl (by unfold maxLen; decide)
  have HZ : Rs 2 _ (some ⟨w.heap.size + 1 + 1 + 1, 0, none⟩) 1 1 ([(smZ, (⟨some ⟨w.heap.size + 1 + 1, 0, none⟩, 2, 2⟩ : Hd))].map Ze.vals) := Rs.ofBlk (l := [(smZ, (⟨some ⟨w.heap.size + 1 + 1, 0, none⟩, 2, 2⟩ : Hd))].map Ze.vals) KF.tail.tail.tail.head (by intro x hx; obtain ⟨y, _, rfl⟩ := List.mem_map.1 hx; rfl) rfl (by unfold maxLen; decide)
  exact bodyPost_ret (v := .agg #[.slice (some ⟨w.heap.size + 1, 0, none⟩) 2 2, .slice (some ⟨w.heap.size + 1 + 1 + 1, 0, none⟩) 1 1, .slice none 0 0]) (by simp [results, Tryz.results20, go_sem, P0, P1, P2]) rfl
    ⟨⟨some ⟨w.heap.size + 1, 0, none⟩, 2, 2⟩, ⟨some ⟨w.heap.size + 1 + 1 + 1, 0, none⟩, 1, 1⟩, [(smZ, ⟨some ⟨w.heap.size + 1 + 1, 0, none⟩, 2, 2⟩)], rfl, ⟨HR, HZ, Rs.nil 2 _, fun p hp => by obtain rfl : p = _ := List.mem_singleton.1 hp; exact HE, rfl⟩, KF.hb, rfl, rfl, fun p hp => by obtain rfl := Option.some.inj hp; rfl⟩
theorem sm_in64 : smS.in64 := by
  refine ⟨fun x hx => ?_, fun z hz => ?_, fun x hx => absurd hx (by simp [smS])⟩
  · have hx : x ∈ euL := hx
    simp only [euL, List.mem_cons, List.not_mem_nil, or_false] at hx
    rcases hx with rfl | rfl
    · exact ⟨by decide, by unfold In64; decide, by unfold In64; decide, by unfold Sp.in64 In64; decide, by unfold In64; decide, by decide⟩
    · exact ⟨by decide, by unfold In64; decide, by unfold In64; decide, by unfold Sp.in64 In64; decide, by unfold In64; decide, by decide⟩
  · have hz : z ∈ [smZ] := hz
    simp only [List.mem_cons, List.not_mem_nil, or_false] at hz
    subst hz
    refine ⟨by decide, by decide, fun x hx => ?_⟩
    have hx : x ∈ [smE, smF] := hx
    simp only [List.mem_cons, List.not_mem_nil, or_false] at hx
    rcases hx with rfl | rfl
    · exact ⟨by unfold In64; decide, by unfold In64; decide, by unfold In64; decide, by decide, by decide, by unfold In64; decide, by unfold Sp.in64 In64; decide⟩
    · exact ⟨by unfold In64; decide, by unfold In64; decide, by unfold In64; decide, by decide, by decide, by unfold In64; decide, by unfold Sp.in64 In64; decide⟩
theorem sm_zone {ze : List Ze} (h1 : ze.length = 1) (h2 : ∀ p, ze[0]? = some p → p.1 = smZ) : ∃ p : Ze, zoneAt smS ze 0 = some p ∧ p.1 = smZ := by
  obtain ⟨p, hp⟩ : ∃ p, ze[0]? = some p := ⟨_, List.getElem?_eq_getElem (by omega)⟩
  refine ⟨p, ?_, h2 p hp⟩
  unfold zoneAt
  rw [if_pos ⟨sm_okB, Int.le_refl 0⟩]
  exact hp
section
variable {Q : World → Prop}
theorem sm_A (C : ErasQ Q) : ∀ (a b : Hd) (ze : List Ze) (W : World), SrcV W smS a b ⟨none, 0, 0⟩ ze → ze.length = 1 → (∀ p, ze[0]? = some p → p.1 = smZ) → Q W → Calls Tryz.prog 18 #[.agg #[a.val, b.val, Hd.val ⟨none, 0, 0⟩], .int .i64 0, .int .i64 1625097600] W (fun e w' => e = .returned (.tuple #[.agg #[.int .i64 7200, .int .i64 3600, .string ⟨#[67, 83, 84]⟩], .bool true]) ∧ Below W.heap.size W w') := fun a b ze W hv h1 h2 q => by
  obtain ⟨p, hp, hz⟩ := sm_zone h1 h2
  have := C.at_ smS a b ⟨none, 0, 0⟩ ze 0 1625097600 (by unfold In64; decide) W hv sm_in64 q
  unfold atO at this
  rw [hp] at this
  simp only [hz] at this
  rw [show atE abbrB smS.rules smZ.eras 1625097600 = _ from sm_at1] at this
  exact this
theorem sm_B (C : ErasQ Q) : ∀ (a b : Hd) (ze : List Ze) (W : World), SrcV W smS a b ⟨none, 0, 0⟩ ze → ze.length = 1 → (∀ p, ze[0]? = some p → p.1 = smZ) → Q W → Calls Tryz.prog 18 #[.agg #[a.val, b.val, Hd.val ⟨none, 0, 0⟩], .int .i64 0, .int .i64 0] W (fun e w' => e = .returned (.tuple #[.agg #[.int .i64 1234, .int .i64 0, .string ⟨#[76, 77, 84]⟩], .bool true]) ∧ Below W.heap.size W w') := fun a b ze W hv h1 h2 q => by
  obtain ⟨p, hp, hz⟩ := sm_zone h1 h2
  have := C.at_ smS a b ⟨none, 0, 0⟩ ze 0 0 (by unfold In64; decide) W hv sm_in64 q
  unfold atO at this
  rw [hp] at this
  simp only [hz] at this
  rw [show atE abbrB smS.rules smZ.eras 0 = _ from sm_at0] at this
  exact this
theorem sm_N (C : ErasQ Q) : ∀ (a b : Hd) (ze : List Ze) (W : World), SrcV W smS a b ⟨none, 0, 0⟩ ze → ze.length = 1 → (∀ p, ze[0]? = some p → p.1 = smZ) → Q W → Calls Tryz.prog 13 #[.agg #[a.val, b.val, Hd.val ⟨none, 0, 0⟩], .int .i64 0, .int .i64 0] W (RetNumB W 788917166 true) := fun a b ze W hv h1 h2 q => by
  obtain ⟨p, hp, hz⟩ := sm_zone h1 h2
  have := C.end_ smS a b ⟨none, 0, 0⟩ ze 0 0 W hv sm_in64 q
  unfold eraAtP at this
  rw [hp] at this
  simp only [hz] at this
  rw [show endO smS.rules (if (0 : Int) ≤ 0 then smZ.eras[(0 : Int).toNat]? else none) = (788917166, true) from by rw [if_pos (Int.le_refl 0)]; show (if smE.til = true then (endE smS.rules smE, true) else ((0 : Int), false)) = _; rw [if_pos (show smE.til = true from rfl), sm_end]] at this
  exact this
theorem sm_S (C : ErasQ Q) : ∀ (a b : Hd) (ze : List Ze) (W : World), SrcV W smS a b ⟨none, 0, 0⟩ ze → a.n = 2 → Q W → Calls Tryz.prog 21 #[.agg #[a.val, b.val, Hd.val ⟨none, 0, 0⟩], .string ⟨#[69]⟩] W (fun e w' => ∃ A c, e = .returned (.slice A 2 c) ∧ 2 ≤ c ∧ c ≤ maxLen ∧ Below W.heap.size W w') := fun a b ze W hv h1 q => by
  have := C.set_ smS a b ⟨none, 0, 0⟩ ze ⟨#[69]⟩ W hv (by omega) (by
    intro x hx
    have hx : x ∈ euL := (setL_mem.1 hx).1
    simp only [euL, List.mem_cons, List.not_mem_nil, or_false] at hx
    rcases hx with rfl | rfl <;> exact ⟨by decide, by decide⟩) q
  rw [eu_set] at this
  exact this.mono fun e w' ⟨A, c, h, hv, hb⟩ => ⟨A, c, h, hv.cap, hv.max, hb⟩
theorem sm_T (C : ErasQ Q) (W : World) (q : Q W) : Calls Tryz.prog 10 #[.string ⟨#[37, 122]⟩, .string ⟨#[]⟩, .int .i64 (-12600), .int .i64 0] W (RetV W (.string ⟨#[45, 48, 51, 51, 48]⟩)) := by
  have := C.abbr ⟨#[37, 122]⟩ ⟨#[]⟩ (by decide) (by decide) (-12600) 0 (by unfold In64; decide) W q
  rw [told_m] at this
  exact this
theorem alive12 (C : ErasQ Q) (w : World) (LQ : Q w) : Calls Tryz.prog 9 #[] w (RetV w (.bool true)) := by
  have MO := Lib.hid C.mono
  have SM := Lib.hid (fun W => smallE W)
  have CA := Lib.hid (sm_A C)
  have CB := Lib.hid (sm_B C)
  have CN := Lib.hid (sm_N C)
  have CS := Lib.hid (sm_S C)
  have CT := Lib.hid (sm_T C)
  clear C
  have s1 : (⟨#[67, 83, 84]⟩ : ByteArray) == ⟨#[67, 83, 84]⟩ := by decide
  have s2 : (⟨#[76, 77, 84]⟩ : ByteArray) == ⟨#[76, 77, 84]⟩ := by decide
  have s3 : (ByteArray.toList ⟨#[45, 48, 51, 51, 48]⟩ == ByteArray.toList ⟨#[45, 48, 51, 51, 48]⟩) = true := by simp
  have KB := BK.nil w
  go_enter Tryz.func9, Tryz.ntmps9
  go_upto_region 2 with (first | (go_at_call 20; refine (SM.out _).mono ?_; rintro e w1 ⟨a1, b1, z1, rfl, h1, k1, n1, u1, v1⟩; replace KB := KB.below k1; have q1 := MO.out _ _ LQ KB.hb; clear k1) | (go_at_call 18; refine (CA.out _ _ _ _ h1 u1 v1 q1).mono ?_; clear CA h1 n1 u1 v1 q1; rintro e w2 ⟨rfl, hk⟩; replace KB := KB.below hk; clear hk))
  replace KB := KB.lit [.int .i64 7200, .int .i64 3600, .string ⟨#[67, 83, 84]⟩] 43
  rw [show ([.int .i64 7200, .int .i64 3600, .string ⟨#[67, 83, 84]⟩] : List Value).toArray = #[.int .i64 7200, .int .i64 3600, .string ⟨#[67, 83, 84]⟩] from rfl] at KB
  generalize w2.alloc (.cells #[.int .i64 7200, .int .i64 3600, .string ⟨#[67, 83, 84]⟩] 43) = W2 at *
  generalize w2.heap.size = p2 at *
  go_upto_region 3 with (first | (go_at_call 20; refine (SM.out _).mono ?_; rintro e w3 ⟨a3, b3, z3, rfl, h3, k3, n3, u3, v3⟩; replace KB := KB.below k3; have q3 := MO.out _ _ LQ KB.hb; clear k3) | (go_at_call 18; refine (CB.out _ _ _ _ h3 u3 v3 q3).mono ?_; clear CB h3 n3 u3 v3 q3; rintro e w4 ⟨rfl, hk⟩; replace KB := KB.below hk; clear hk))
  replace KB := KB.lit [.int .i64 1234, .int .i64 0, .string ⟨#[76, 77, 84]⟩] 43
  rw [show ([.int .i64 1234, .int .i64 0, .string ⟨#[76, 77, 84]⟩] : List Value).toArray = #[.int .i64 1234, .int .i64 0, .string ⟨#[76, 77, 84]⟩] from rfl] at KB
  generalize w4.alloc (.cells #[.int .i64 1234, .int .i64 0, .string ⟨#[76, 77, 84]⟩] 43) = W4 at *
  generalize w4.heap.size = p4 at *
  go_upto_region 4 with (first | (go_at_call 20; refine (SM.out _).mono ?_; rintro e w5 ⟨a5, b5, z5, rfl, h5, k5, n5, u5, v5⟩; replace KB := KB.below k5; have q5 := MO.out _ _ LQ KB.hb; clear k5) | (go_at_call 13; refine (CN.out _ _ _ _ h5 u5 v5 q5).mono ?_; clear CN h5 n5 u5 v5 q5; rintro e w6 ⟨rfl, hk⟩; replace KB := KB.below hk; clear hk))
  obtain ⟨_, x0, x1, x2, _⟩ := KB.tail.head.three
  obtain ⟨_, y0, y1, y2, _⟩ := KB.head.three
  go_wp2_with (first
    | (go_at_call 10; refine (CT.out _ (MO.out _ _ LQ KB.hb)).mono ?_; clear CT; rintro e w7 ⟨rfl, hk⟩; replace KB := KB.below hk; clear hk x0 x1 x2 y0 y1 y2)
    | (go_at_call 20; refine (SM.out _).mono ?_; rintro e w8 ⟨a8, b8, z8, rfl, h8, k8, n8, u8, v8⟩; replace KB := KB.below k8; have q8 := MO.out _ _ LQ KB.hb; clear k8)
    | (go_at_call 21; refine (CS.out _ _ _ _ h8 n8 q8).mono ?_; clear CS h8 n8 u8 v8 q8; rintro e w9 ⟨A9, c9, rfl, l9, m9, hk⟩; replace KB := KB.below hk; clear hk))
  go_ret
  exact ⟨rfl, KB.hb⟩
end
end Go.Proofs.YtallclimljiplaaGreatDoor
namespace Go.Proofs.YtallclimljiplaaGreatDoor
open Go.RowKit
def gSum (ze : List Ze) : Nat := (ze.map fun p => p.1.eras.length).sum
def gB (n m q : Nat) (ze : List Ze) : Bool := decide (40 < n) || (decide (20 < m) || (decide (200 < q) || (ze.any (fun p => decide (45 < p.1.eras.length)) || decide (100 < gSum ze))))
theorem gB_no {n m q : Nat} {ze : List Ze} (h : gB n m q ze = false) : n ≤ 40 := by
  unfold gB at h
  simp only [Bool.or_eq_false_iff, decide_eq_false_iff_not] at h
  omega
theorem gSum_take {ze : List Ze} {i : Nat} {p : Ze} (h : ze[i]? = some p) : gSum (ze.take (i + 1)) = gSum (ze.take i) + p.1.eras.length := by
  unfold gSum
  rw [List.take_add_one, h, List.map_append, List.sum_append]
  simp
theorem greatE (S : Sr) (A B C : Option Addr) (n c m d q e : Nat) (ze : List Ze) (w : World) (hv : SrcV w S ⟨A, n, c⟩ ⟨B, m, d⟩ ⟨C, q, e⟩ ze) : Calls Tryz.prog 12 #[.agg #[.slice A n c, .slice B m d, .slice C q e]] w (RetV w (.bool (gB n m q ze))) := by
  have n1 : n ≤ 9223372036854775807 := Nat.le_trans hv.rules.cap hv.rules.max
  have n2 : m ≤ 9223372036854775807 := Nat.le_trans hv.zones.cap hv.zones.max
  have n3 : q ≤ 9223372036854775807 := Nat.le_trans hv.links.cap hv.links.max
  have LZ := Lib.hid (show ze.length = m from by have := hv.zones.len; simpa using this)
  have HV := Lib.hid hv
  clear hv
  by_cases h1 : 40 < n
  · have d1 : decide ((n : Int) > 40) = true := decide_eq_true (by omega)
    go_enter Tryz.func12, Tryz.ntmps12
    go_upto_region 1 with (fail)
    have KB := (BK.nil w).lit [.slice A n c, .slice B m d, .slice C q e] 29
    rw [show ([.slice A n c, .slice B m d, .slice C q e] : List Value).toArray = #[.slice A n c, .slice B m d, .slice C q e] from rfl] at KB
    generalize w.alloc (.cells #[.slice A n c, .slice B m d, .slice C q e] 29) = W at *
    obtain ⟨_, x0, x1, x2, _⟩ := (KB.head).three
    go_wp2
    go_ret
    exact ⟨by unfold gB; rw [decide_eq_true h1]; rfl, KB.hb⟩
  have d1 : decide ((n : Int) > 40) = false := decide_eq_false (by omega)
  by_cases h2 : 20 < m
  · have d2 : decide ((m : Int) > 20) = true := decide_eq_true (by omega)
    go_enter Tryz.func12, Tryz.ntmps12
    go_upto_region 1 with (fail)
    have KB := (BK.nil w).lit [.slice A n c, .slice B m d, .slice C q e] 29
    rw [show ([.slice A n c, .slice B m d, .slice C q e] : List Value).toArray = #[.slice A n c, .slice B m d, .slice C q e] from rfl] at KB
    generalize w.alloc (.cells #[.slice A n c, .slice B m d, .slice C q e] 29) = W at *
    obtain ⟨_, x0, x1, x2, _⟩ := (KB.head).three
    go_wp2
    go_ret
    exact ⟨by unfold gB; rw [decide_eq_false h1, decide_eq_true h2]; rfl, KB.hb⟩
  have d2 : decide ((m : Int) > 20) = false := decide_eq_false (by omega)
  by_cases h3 : 200 < q
  · have d3 : decide ((q : Int) > 200) = true := decide_eq_true (by omega)
    go_enter Tryz.func12, Tryz.ntmps12
    go_upto_region 1 with (fail)
    have KB := (BK.nil w).lit [.slice A n c, .slice B m d, .slice C q e] 29
    rw [show ([.slice A n c, .slice B m d, .slice C q e] : List Value).toArray = #[.slice A n c, .slice B m d, .slice C q e] from rfl] at KB
    generalize w.alloc (.cells #[.slice A n c, .slice B m d, .slice C q e] 29) = W at *
    obtain ⟨_, x0, x1, x2, _⟩ := (KB.head).three
    go_wp2
    go_ret
    exact ⟨by unfold gB; rw [decide_eq_false h1, decide_eq_false h2, decide_eq_true h3]; rfl, KB.hb⟩
  have d3 : decide ((q : Int) > 200) = false := decide_eq_false (by omega)
  go_enter Tryz.func12, Tryz.ntmps12
  go_upto_region 1 with (fail)
  have KB := (BK.nil w).lit [.slice A n c, .slice B m d, .slice C q e] 29
  rw [show ([.slice A n c, .slice B m d, .slice C q e] : List Value).toArray = #[.slice A n c, .slice B m d, .slice C q e] from rfl] at KB
  generalize w.alloc (.cells #[.slice A n c, .slice B m d, .slice C q e] 29) = W at *
  obtain ⟨_, x0, x1, x2, _⟩ := (KB.head).three
  go_wp2_with fail
  go_loopw [3, 4] (fun v3 v4 wr => ∃ (i k : Nat), i ≤ m ∧ k ≤ 45 * i ∧ Hid (k = gSum (ze.take i) ∧ ∀ (t : Nat) (p : Ze), t < i → ze[t]? = some p → ¬ 45 < p.1.eras.length) ∧ v3 = .int .i64 k ∧ v4 = .int .i64 i ∧ BK w [(w.heap.size, [.slice A n c, .slice B m d, .slice C q e])] wr) (fun _ v _ => m - (intOf v).toNat)
  case atStart => exact ⟨0, 0, by omega, by omega, Lib.hid ⟨rfl, fun t p h => absurd h (by omega)⟩, rfl, rfl, KB⟩
  case round =>
    clear KB x0 x1 x2
    obtain ⟨i, k, hi, hk, HK, rfl, rfl, KB⟩ := hrel
    obtain ⟨_, x0, x1, x2, _⟩ := (KB.head).three
    by_cases h4 : i < m
    · obtain ⟨p, hp⟩ : ∃ p, ze[i]? = some p := ⟨_, List.getElem?_eq_getElem (by rw [LZ.out]; exact h4)⟩
      obtain ⟨g, o, eB, hg, ca⟩ := (HV.out.below KB.hb).zones.cells (by show 0 < m; omega)
      have eB : B = some ⟨g, o, none⟩ := eB
      subst eB
      have ra := row_at ca (show (ze.map Ze.vals)[i]? = some (Ze.vals p) by rw [List.getElem?_map, hp]; rfl)
      have er := HV.out.eras p (List.mem_of_getElem? hp)
      have HK2 := gSum_take hp
      have HP := Lib.hid hp
      obtain ⟨⟨nm, es⟩, ⟨Z, u, cu⟩⟩ := p
      have hu : es.length = u := by have := er.len; simpa using this
      have NX := Lib.hid (show k + u = gSum (ze.take (i + 1)) from by rw [HK2, HK.out.1]; show _ + u = _ + es.length; omega)
      have NU := Lib.hid hu
      clear HK2 hu
      have c1 : wr.cell? ⟨g, o + i * 2 + 1, none⟩ = some (.slice Z u cu) := ra 1 _ rfl
      have u1 : u ≤ 9223372036854775807 := Nat.le_trans er.cap er.max
      clear ca ra er hp hg
      by_cases h5 : 45 < u
      · have d5 : decide ((u : Int) > 45) = true := decide_eq_true (by omega)
        have NY := Lib.hid (show (ze.any (fun p => decide (45 < p.1.eras.length))) = true from List.any_eq_true.2 ⟨_, List.mem_of_getElem? HP.out, decide_eq_true (by show 45 < es.length; rw [NU.out]; exact h5)⟩)
        clear HK NX HP NU
        go_wp2
        go_ret
        exact ⟨by unfold gB; rw [decide_eq_false h1, decide_eq_false h2, decide_eq_false h3, NY.out]; rfl, KB.hb⟩
      · have d5 : decide ((u : Int) > 45) = false := decide_eq_false (by omega)
        have N2 : Hid (k + u = gSum (ze.take (i + 1)) ∧ ∀ (t : Nat) (p : Ze), t < i + 1 → ze[t]? = some p → ¬ 45 < p.1.eras.length) := Lib.hid ⟨NX.out, fun t p ht hp => by
          by_cases c : t = i
          · subst c
            rw [HP.out] at hp
            cases hp
            show ¬ 45 < es.length
            rw [NU.out]; exact h5
          · exact HK.out.2 t p (by omega) hp⟩
        clear HK NX HP NU
        go_wp2
        go_roundw
        case rel => exact ⟨i + 1, k + u, by omega, by omega, N2, int_eqS (by omega), int_eqS (by omega), KB⟩
        case measure => simp only [intOf]; omega
    · have NY := Lib.hid (show (ze.any (fun p => decide (45 < p.1.eras.length))) = false from List.any_eq_false.2 fun p hp => by
        obtain ⟨t, ht⟩ := List.getElem?_of_mem hp
        have := (List.getElem?_eq_some_iff.1 ht).1
        rw [LZ.out] at this
        simpa using HK.out.2 t p (by omega) ht)
      have NS := Lib.hid (show k = gSum ze from by have := HK.out.1; rw [List.take_of_length_le (by rw [LZ.out]; omega)] at this; exact this)
      have k45 : k ≤ 900 := by omega
      have D : Hid (decide ((k : Int) > 100) = decide (100 < gSum ze)) := Lib.hid (by rw [← NS.out]; exact decide_eq_decide.2 (by omega))
      clear HK NS
      go_wp2
      go_ret
      exact ⟨by unfold gB; rw [decide_eq_false h1, decide_eq_false h2, decide_eq_false h3, NY.out, ← D.out]; rfl, KB.hb⟩
theorem zoneAt_bad {S : Sr} {ze : List Ze} {z : Int} (h : okSr S = false) : zoneAt S ze z = none := by unfold zoneAt; rw [if_neg (by rw [h]; simp)]
theorem zoneAt_neg {S : Sr} {ze : List Ze} {z : Int} (h : z < 0) : zoneAt S ze z = none := by unfold zoneAt; rw [if_neg (by omega)]
theorem zoneAt_hit {S : Sr} {ze : List Ze} {z : Int} {p : Ze} (h : okSr S = true) (h0 : ¬ z < 0) (hp : ze[z.toNat]? = some p) : zoneAt S ze z = some p := by unfold zoneAt; rw [if_pos ⟨h, by omega⟩]; exact hp
theorem eraAtP_none {S : Sr} {ze : List Ze} {z i : Int} (h : zoneAt S ze z = none) : eraAtP S ze z i = none := by unfold eraAtP; rw [h]
theorem eraAtP_some {S : Sr} {ze : List Ze} {z i : Int} {p : Ze} (h : zoneAt S ze z = some p) : eraAtP S ze z i = if 0 ≤ i then p.1.eras[i.toNat]? else none := by unfold eraAtP; rw [h]
end Go.Proofs.YtallclimljiplaaGreatDoor
