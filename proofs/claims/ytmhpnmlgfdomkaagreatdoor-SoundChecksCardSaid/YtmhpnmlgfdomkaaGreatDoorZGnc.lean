import Derived.Test.YtmhpnmlgfdomkaaGreatDoorZGnb
import Derived.Test.YtmhpnmlgfdomkaaGreatDoorZGtd
import Derived.Laws.Alloc2
set_option maxRecDepth 100000
set_option maxHeartbeats 64000000
namespace Go.Proofs.YtmhpnmlgfdomkaaGreatDoor
open Go.RowKit Go.Maps
def zeroLk : List Value := [.slice none 0 0, .slice none 0 0, .slice none 0 0, .map none, .map none]
structure LkP (w : World) (L : List (Nat × List Value)) (ms bs : List Nat) (X : World) : Prop where
  kb : BK w L X
  maps : ∀ b ∈ ms, SM X b 0 (fun _ => none) ∧ w.heap.size ≤ b
  boxes : ∀ g ∈ bs, Blk X g zeroLk ∧ w.heap.size ≤ g
  lt : ∀ x ∈ L, x.1 < X.heap.size
  far : ∀ g ∈ bs, ∀ x ∈ L, g ≠ x.1
  apart : ∀ g ∈ bs, ∀ b ∈ ms, g ≠ b
theorem LkP.below {w X X' : World} {L : List (Nat × List Value)} {ms bs : List Nat} (h : LkP w L ms bs X) (k : Below X.heap.size X X') : LkP w L ms bs X' :=
  ⟨h.kb.below k, fun b hb => ⟨(h.maps b hb).1.below k, (h.maps b hb).2⟩, fun g hg => ⟨(h.boxes g hg).1.below k, (h.boxes g hg).2⟩, fun x hx => Nat.lt_of_lt_of_le (h.lt x hx) k.size, h.far, h.apart⟩
theorem LkP.drew {w X : World} {L : List (Nat × List Value)} {ms bs : List Nat} (h : LkP w L ms bs X) : LkP w L ms bs X.drew := h.below (Below.refl _ _).drew
theorem LkP.map {w X : World} {L : List (Nat × List Value)} {ms bs : List Nat} (h : LkP w L ms bs X) : LkP w L (X.heap.size :: ms) bs (X.alloc (.map #[] 0)) := by
  have k := h.below ((Below.refl X.heap.size X).alloc (Nat.le_refl _) (.map #[] 0))
  refine ⟨k.kb, fun b hb => ?_, k.boxes, k.lt, k.far, fun g hg b hb => ?_⟩
  · rcases List.mem_cons.1 hb with rfl | hb
    · exact ⟨SM.made X, h.kb.hb.size⟩
    · exact k.maps b hb
  · rcases List.mem_cons.1 hb with rfl | hb
    · exact Nat.ne_of_lt (h.boxes g hg).1.lt
    · exact h.apart g hg b hb
theorem LkP.box {w X : World} {L : List (Nat × List Value)} {ms bs : List Nat} (h : LkP w L ms bs X) : LkP w L ms (X.heap.size :: bs) (X.alloc (.cells #[.slice none 0 0, .slice none 0 0, .slice none 0 0, .map none, .map none] 52)) := by
  have k := h.below (below_box X (.cells #[.slice none 0 0, .slice none 0 0, .slice none 0 0, .map none, .map none] 52))
  refine ⟨k.kb, k.maps, fun g hg => ?_, k.lt, fun g hg x hx => ?_, fun g hg b hb => ?_⟩
  · rcases List.mem_cons.1 hg with rfl | hg
    · exact ⟨blk_lit X 52 zeroLk, h.kb.hb.size⟩
    · exact k.boxes g hg
  · rcases List.mem_cons.1 hg with rfl | hg
    · exact Nat.ne_of_gt (h.lt x hx)
    · exact h.far g hg x hx
  · rcases List.mem_cons.1 hg with rfl | hg
    · exact Nat.ne_of_gt (h.maps b hb).1.lt
    · exact h.apart g hg b hb
theorem Blk.fiveL {W : World} {b : Nat} {v0 v1 v2 v3 v4 : Value} (h : Blk W b [v0, v1, v2, v3, v4]) : b < W.heap.size ∧ W.cell? ⟨b, 0, none⟩ = some v0 ∧ W.cell? ⟨b, 1, none⟩ = some v1 ∧ W.cell? ⟨b, 2, none⟩ = some v2 ∧ W.cell? ⟨b, 3, none⟩ = some v3 ∧ W.cell? ⟨b, 4, none⟩ = some v4 ∧
    W.frozen? ⟨b, 0, none⟩ = false ∧ W.frozen? ⟨b, 1, none⟩ = false ∧ W.frozen? ⟨b, 2, none⟩ = false ∧ W.frozen? ⟨b, 3, none⟩ = false ∧ W.frozen? ⟨b, 4, none⟩ = false := by
  obtain ⟨l, c0, f0, c1, f1, c2, f2, c3, f3, c4, f4, _⟩ := h
  exact ⟨l, c0, c1, c2, c3, c4, f0, f1, f2, f3, f4⟩
theorem LkP.open5 {w X : World} {L : List (Nat × List Value)} {ms bs : List Nat} {g : Nat} (h : LkP w L ms (g :: bs) X) : g < X.heap.size ∧ X.cell? ⟨g, 0, none⟩ = some (.slice none 0 0) ∧ X.cell? ⟨g, 1, none⟩ = some (.slice none 0 0) ∧ X.cell? ⟨g, 2, none⟩ = some (.slice none 0 0) ∧ X.cell? ⟨g, 3, none⟩ = some (.map none) ∧ X.cell? ⟨g, 4, none⟩ = some (.map none) ∧
    X.frozen? ⟨g, 0, none⟩ = false ∧ X.frozen? ⟨g, 1, none⟩ = false ∧ X.frozen? ⟨g, 2, none⟩ = false ∧ X.frozen? ⟨g, 3, none⟩ = false ∧ X.frozen? ⟨g, 4, none⟩ = false := ((h.boxes _ (List.mem_cons_self ..)).1 : Blk X g _).fiveL
def LkC (w : World) (L : List (Nat × List Value)) (f : ByteArray → Option Value) (v0 v1 v2 : Value) (g b1 b2 n2 : Nat) (X : World) : Prop :=
  BK w ((g, [v0, v1, v2, .map (some b1), .map (some b2)]) :: L) X ∧ SM X b1 0 (fun _ => none) ∧ SM X b2 n2 f
section
variable {w X : World} {L : List (Nat × List Value)} {ms bs : List Nat} {f : ByteArray → Option Value} {v0 v1 v2 : Value} {g b1 b2 n2 : Nat}
theorem lk_box (HP : LkP w L (b1 :: ms) bs X) (HS : SM X b2 n2 f) : LkC w L f v0 v1 v2 X.heap.size b1 b2 n2 (X.alloc (.cells #[v0, v1, v2, .map (some b1), .map (some b2)] 52)) :=
  ⟨(HP.kb.below (below_box _ _)).cons (blk_lit X 52 [v0, v1, v2, .map (some b1), .map (some b2)]), (HP.maps _ (List.mem_cons_self ..)).1.alloc _, HS.alloc _⟩
theorem lk_set (HP : LkP w L (b1 :: ms) (g :: bs) X) (HS : SM X b2 n2 f) (ne : b2 ≠ g) : LkC w L f v0 v1 v2 g b1 b2 n2 (((((X.setCell ⟨g, 0, none⟩ v0).setCell ⟨g, 1, none⟩ v1).setCell ⟨g, 2, none⟩ v2).setCell ⟨g, 3, none⟩ (.map (some b1))).setCell ⟨g, 4, none⟩ (.map (some b2))) := by
  have h1 := (HP.maps b1 (List.mem_cons_self ..)).1
  have n1 : b1 ≠ g := Ne.symm (HP.apart g (List.mem_cons_self ..) b1 (List.mem_cons_self ..))
  have h2 := HP.boxes g (List.mem_cons_self ..)
  exact ⟨(HP.kb.cons h2.1).put h2.2 (HP.far g (List.mem_cons_self ..)) [v0, v1, v2, .map (some b1), .map (some b2)] rfl, (((((h1.far (a := ⟨_, 0, none⟩) n1 _).far (a := ⟨_, 1, none⟩) n1 _).far (a := ⟨_, 2, none⟩) n1 _).far (a := ⟨_, 3, none⟩) n1 _).far (a := ⟨_, 4, none⟩) n1 _), (((((HS.far (a := ⟨_, 0, none⟩) ne _).far (a := ⟨_, 1, none⟩) ne _).far (a := ⟨_, 2, none⟩) ne _).far (a := ⟨_, 3, none⟩) ne _).far (a := ⟨_, 4, none⟩) ne _)⟩
theorem lk_mapbox (HP : LkP w L ms bs X) (HS : SM X b2 n2 f) : LkC w L f v0 v1 v2 (X.heap.size + 1) X.heap.size b2 n2 ((X.alloc (.map #[] 0)).alloc (.cells #[v0, v1, v2, .map (some X.heap.size), .map (some b2)] 52)) := by
  have t := lk_box (v0 := v0) (v1 := v1) (v2 := v2) HP.map (HS.alloc (.map #[] 0))
  rw [World.size_alloc] at t
  exact t
theorem lk_boxmap (HP : LkP w L ms bs X) (HS : SM X b2 n2 f) : LkC w L f v0 v1 v2 X.heap.size (X.heap.size + 1) b2 n2 ((X.alloc (.cells #[v0, v1, v2, .map (some (X.heap.size + 1)), .map (some b2)] 52)).alloc (.map #[] 0)) := by
  have t := SM.made (X.alloc (.cells #[v0, v1, v2, .map (some (X.heap.size + 1)), .map (some b2)] 52))
  rw [World.size_alloc] at t
  exact ⟨((HP.kb.below (below_box _ _)).cons (blk_lit X 52 [v0, v1, v2, .map (some (X.heap.size + 1)), .map (some b2)])).below ((Below.refl _ _).alloc (Nat.le_refl _) _), t, (HS.alloc _).alloc _⟩
theorem lk_setmap (HP : LkP w L ms (g :: bs) X) (HS : SM X b2 n2 f) (ne : b2 ≠ g) : LkC w L f v0 v1 v2 g X.heap.size b2 n2 ((((((X.setCell ⟨g, 0, none⟩ v0).setCell ⟨g, 1, none⟩ v1).setCell ⟨g, 2, none⟩ v2).setCell ⟨g, 3, none⟩ (.map (some X.heap.size))).setCell ⟨g, 4, none⟩ (.map (some b2))).alloc (.map #[] 0)) := by
  have h2 := HP.boxes g (List.mem_cons_self ..)
  have t := SM.made (setAll X g 0 [v0, v1, v2, .map (some X.heap.size), .map (some b2)])
  rw [size_setAll] at t
  exact ⟨((HP.kb.cons h2.1).put h2.2 (HP.far g (List.mem_cons_self ..)) [v0, v1, v2, .map (some X.heap.size), .map (some b2)] rfl).below ((Below.refl _ _).alloc (Nat.le_refl _) _), t, (((((HS.far (a := ⟨_, 0, none⟩) ne _).far (a := ⟨_, 1, none⟩) ne _).far (a := ⟨_, 2, none⟩) ne _).far (a := ⟨_, 3, none⟩) ne _).far (a := ⟨_, 4, none⟩) ne _).alloc _⟩
end
def LkZ (w : World) (L : List (Nat × List Value)) (f : ByteArray → Option Value) (v0 v1 v2 : Value) (v : Value) (X : World) : Prop :=
  ∃ b1 g b2 n2 : Nat, v = .pointer (some ⟨g, 0, none⟩) ∧ LkC w L f v0 v1 v2 g b1 b2 n2 X ∧ b1 ≠ b2 ∧ w.heap.size + 2 ≤ g ∧ w.heap.size ≤ b1 ∧ w.heap.size ≤ b2
section
variable {w X : World} {L : List (Nat × List Value)} {ms bs : List Nat} {f : ByteArray → Option Value} {v0 v1 v2 : Value} {g b1 b2 n2 : Nat}
theorem lz_box (HP : LkP w L (b1 :: ms) bs X) (HS : SM X b2 n2 f) (c1 : w.heap.size + 2 ≤ X.heap.size) (c2 : w.heap.size ≤ b1) (c3 : w.heap.size ≤ b2) (c4 : b1 ≠ b2) : LkZ w L f v0 v1 v2 (.pointer (some ⟨X.heap.size, 0, none⟩)) (X.alloc (.cells #[v0, v1, v2, .map (some b1), .map (some b2)] 52)) := ⟨_, _, _, _, rfl, lk_box HP HS, c4, c1, c2, c3⟩
theorem lz_set (HP : LkP w L (b1 :: ms) (g :: bs) X) (HS : SM X b2 n2 f) (ne : b2 ≠ g) (c1 : w.heap.size + 2 ≤ g) (c2 : w.heap.size ≤ b1) (c3 : w.heap.size ≤ b2) (c4 : b1 ≠ b2) : LkZ w L f v0 v1 v2 (.pointer (some ⟨g, 0, none⟩)) (((((X.setCell ⟨g, 0, none⟩ v0).setCell ⟨g, 1, none⟩ v1).setCell ⟨g, 2, none⟩ v2).setCell ⟨g, 3, none⟩ (.map (some b1))).setCell ⟨g, 4, none⟩ (.map (some b2))) := ⟨_, _, _, _, rfl, lk_set HP HS ne, c4, c1, c2, c3⟩
theorem lz_mapbox (HP : LkP w L ms bs X) (HS : SM X b2 n2 f) (c1 : w.heap.size + 2 ≤ X.heap.size + 1) (c2 : w.heap.size ≤ X.heap.size) (c3 : w.heap.size ≤ b2) (c4 : X.heap.size ≠ b2) : LkZ w L f v0 v1 v2 (.pointer (some ⟨X.heap.size + 1, 0, none⟩)) ((X.alloc (.map #[] 0)).alloc (.cells #[v0, v1, v2, .map (some X.heap.size), .map (some b2)] 52)) := ⟨_, _, _, _, rfl, lk_mapbox HP HS, c4, c1, c2, c3⟩
theorem lz_boxmap (HP : LkP w L ms bs X) (HS : SM X b2 n2 f) (c1 : w.heap.size + 2 ≤ X.heap.size) (c2 : w.heap.size ≤ X.heap.size + 1) (c3 : w.heap.size ≤ b2) (c4 : X.heap.size + 1 ≠ b2) : LkZ w L f v0 v1 v2 (.pointer (some ⟨X.heap.size, 0, none⟩)) ((X.alloc (.cells #[v0, v1, v2, .map (some (X.heap.size + 1)), .map (some b2)] 52)).alloc (.map #[] 0)) := ⟨_, _, _, _, rfl, lk_boxmap HP HS, c4, c1, c2, c3⟩
theorem lz_setmap (HP : LkP w L ms (g :: bs) X) (HS : SM X b2 n2 f) (ne : b2 ≠ g) (c1 : w.heap.size + 2 ≤ g) (c2 : w.heap.size ≤ X.heap.size) (c3 : w.heap.size ≤ b2) (c4 : X.heap.size ≠ b2) : LkZ w L f v0 v1 v2 (.pointer (some ⟨g, 0, none⟩)) ((((((X.setCell ⟨g, 0, none⟩ v0).setCell ⟨g, 1, none⟩ v1).setCell ⟨g, 2, none⟩ v2).setCell ⟨g, 3, none⟩ (.map (some X.heap.size))).setCell ⟨g, 4, none⟩ (.map (some b2))).alloc (.map #[] 0)) := ⟨_, _, _, _, rfl, lk_setmap HP HS ne, c4, c1, c2, c3⟩
end
end Go.Proofs.YtmhpnmlgfdomkaaGreatDoor
namespace Go.Proofs.YtmhpnmlgfdomkaaGreatDoor
open Go.RowKit Go.Maps Go.WideShapes
theorem cell_map {w : World} {b : Nat} {es : Array MapEntry} {c : Nat} (h : w.heap[b]? = some (.map es c)) (o : Nat) : w.cell? ⟨b, o, none⟩ = none := by
  unfold World.cell?
  simp [h]
theorem SM.ne_cell {w : World} {b n : Nat} {f : ByteArray → Option Value} (h : SM w b n f) {g o : Nat} {v : Value} (k : w.cell? ⟨g, o, none⟩ = some v) : g ≠ b := by
  obtain ⟨D, ⟨es, clock, hb, _⟩, _⟩ := h.own
  intro e
  subst e
  rw [cell_map hb] at k
  cases k
theorem SM.ne_blk {w : World} {b n : Nat} {f : ByteArray → Option Value} (h : SM w b n f) {g : Nat} {v : Value} {vs : List Value} (k : Blk w g (v :: vs)) : g ≠ b := h.ne_cell k.cs.1
theorem Rs.past {k : Nat} {w w' : World} {A : Option Addr} {n c b m : Nat} {l : List (List Value)} {f : ByteArray → Option Value} (h : Rs k w A n c l) (hs : SM w b m f) (hg : w.grownBy w' (some b)) : Rs k w' A n c l :=
  ⟨h.len, h.cap, h.max, fun hn => by
    obtain ⟨g, o, e, hl, hc⟩ := h.cells hn
    exact ⟨g, o, e, Nat.lt_of_lt_of_le hl hg.size, fun i hi j u hu => by
      have h1 := hc i hi j u hu
      exact hg.cell h1 (fun e1 => hs.ne_cell h1 (Option.some.inj e1))⟩⟩
def stV (p : Nat × Hd) : Value := .agg #[.int .i64 p.1, .slice p.2.a p.2.n p.2.c]
def stF (f : ByteArray → Option (Nat × Hd)) (s : ByteArray) : Option Value := (f s).map stV
def stI (f : ByteArray → Option (Nat × Hd)) (s : ByteArray) : Nat := ((f s).map (·.1)).getD 0
def stH (f : ByteArray → Option (Nat × Hd)) (s : ByteArray) : Hd := ((f s).map (·.2)).getD ⟨none, 0, 0⟩
def fiL (L : List Rl) (s : ByteArray) : Option Nat := L.findIdx? (fun x => decide (x.name = s))
structure StM (w : World) (b n : Nat) (L : List Rl) (i : Nat) (f : ByteArray → Option (Nat × Hd)) : Prop where
  sm : SM w b n (stF f)
  fst : ∀ s, (f s).map (·.1) = fiL (L.take i) s
  rows : ∀ s p, f s = some p → RulV w p.2.a p.2.n p.2.c (setL L s)
theorem StM.below {w w' : World} {b n i : Nat} {L : List Rl} {f : ByteArray → Option (Nat × Hd)} (h : StM w b n L i f) (k : Below w.heap.size w w') : StM w' b n L i f :=
  ⟨h.sm.below k, h.fst, fun s p e => (h.rows s p e).below k⟩
theorem look_st {w : World} {b n i : Nat} {L : List Rl} {f : ByteArray → Option (Nat × Hd)} (h : StM w b n L i f) (s : ByteArray) (hs : s.size ≤ maxLen) :
    (Instr.lookup 48 (.map (some b)) (.string s) true).run Tryz.prog w = .ok (.tuple #[.agg #[.int .i64 (stI f s), .slice (stH f s).a (stH f s).n (stH f s).c], .bool (f s).isSome]) w := by
  have := h.sm.look_ok Tryz.underlying48 (Tryz.zeroValue71 w) s hs
  rw [this]
  unfold stF stI stH
  cases f s <;> rfl
theorem look_st0 {w : World} {b n i : Nat} {L : List Rl} {f : ByteArray → Option (Nat × Hd)} (h : StM w b n L i f) (s : ByteArray) (hs : s.size ≤ maxLen) :
    (Instr.lookup 48 (.map (some b)) (.string s) false).run Tryz.prog w = .ok (.agg #[.int .i64 (stI f s), .slice (stH f s).a (stH f s).n (stH f s).c]) w := by
  have := h.sm.look Tryz.underlying48 (Tryz.zeroValue71 w) s hs
  rw [this]
  unfold stF stI stH
  cases f s <;> rfl
theorem fiL_next {L : List Rl} {i : Nat} {x : Rl} (h : L[i]? = some x) (s : ByteArray) : fiL (L.take (i + 1)) s = (fiL (L.take i) s).or (if x.name = s then some i else none) := by
  unfold fiL
  rw [fi_snoc h]
  by_cases c : x.name = s <;> simp [c]
theorem StM.old {w : World} {b n i : Nat} {L : List Rl} {f : ByteArray → Option (Nat × Hd)} {x : Rl} (h : StM w b n L i f) (hx : L[i]? = some x) (k : (f x.name).isSome = true) : StM w b n L (i + 1) f :=
  ⟨h.sm, fun s => by
    rw [fiL_next hx, h.fst s]
    by_cases c : x.name = s
    · subst c
      have := h.fst x.name
      obtain ⟨p, hp⟩ := Option.isSome_iff_exists.1 k
      rw [hp] at this
      rw [← this]; rfl
    · rw [if_neg c, Option.or_none], h.rows⟩
def stPut (f : ByteArray → Option (Nat × Hd)) (s : ByteArray) (p : Nat × Hd) : ByteArray → Option (Nat × Hd) := fun t => if t = s then some p else f t
theorem stPut_F (f : ByteArray → Option (Nat × Hd)) (s : ByteArray) (p : Nat × Hd) : putF (stF f) s (stV p) = stF (stPut f s p) := by
  funext t
  unfold putF stF stPut
  split <;> rfl
theorem StM.new {w : World} {b n i : Nat} {L : List Rl} {f : ByteArray → Option (Nat × Hd)} {x : Rl} (h : StM w b n L i f) (hx : L[i]? = some x) (k : (f x.name).isSome = false) {a : Option Addr} {m c : Nat} (hr : RulV w a m c (setL L x.name)) (hn : n < maxLen) (hs : x.name.size ≤ maxLen) :
    ∃ w', (Instr.mapUpdate 48 (.map (some b)) (.string x.name) (.agg #[.int .i64 i, .slice a m c])).run Tryz.prog w = .ok () w' ∧ StM w' b (n + 1) L (i + 1) (stPut f x.name (i, ⟨a, m, c⟩)) ∧ w.grownBy w' (some b) ∧ w'.heap.size = w.heap.size := by
  obtain ⟨w', h1, h2, h3, h4⟩ := h.sm.put Tryz.underlying48 hn x.name hs (stV (i, ⟨a, m, c⟩))
  refine ⟨w', h1, ⟨by rw [stPut_F] at h2; exact h2, fun s => ?_, fun s p e => ?_⟩, h3, h4⟩
  · rw [fiL_next hx]
    unfold stPut
    by_cases c : s = x.name
    · subst c
      rw [if_pos rfl, if_pos rfl]
      have := h.fst x.name
      rw [Option.isSome_eq_false_iff, Option.isNone_iff_eq_none] at k
      rw [k] at this
      rw [← this]; rfl
    · rw [if_neg c, if_neg (fun e => c e.symm), Option.or_none]
      exact h.fst s
  · unfold stPut at e
    by_cases c : s = x.name
    · subst c
      rw [if_pos rfl] at e
      obtain rfl := Option.some.inj e
      exact Rs.past hr h.sm h3
    · rw [if_neg c] at e
      exact Rs.past (h.rows s p e) h.sm h3
def FreshF (lo : Nat) (f : ByteArray → Option (Nat × Hd)) : Prop := ∀ s p, f s = some p → FreshS lo p.2.a
theorem FreshF.put {lo : Nat} {f : ByteArray → Option (Nat × Hd)} (h : FreshF lo f) {s : ByteArray} {p : Nat × Hd} (k : FreshS lo p.2.a) : FreshF lo (stPut f s p) := fun t q e => by
  unfold stPut at e
  by_cases c : t = s
  · rw [if_pos c] at e
    obtain rfl := Option.some.inj e
    exact k
  · rw [if_neg c] at e
    exact h t q e
theorem FreshS.less {a b : Nat} {X : Option Addr} (h : FreshS b X) (le : a ≤ b) : FreshS a X := fun p e => by
  obtain ⟨g, e1, l⟩ := h p e
  exact ⟨g, e1, Nat.le_trans le l⟩
theorem SM.farAll {b n g : Nat} {f : ByteArray → Option Value} (ne : b ≠ g) : ∀ (vs : List Value) (w : World) (i : Nat), SM w b n f → SM (setAll w g i vs) b n f
  | [], _, _, h => h
  | v :: vs, _, i, h => SM.farAll ne vs _ (i + 1) (h.far (a := ⟨g, i, none⟩) ne v)
theorem StM.farAll {w : World} {b n i lo g : Nat} {L : List Rl} {f : ByteArray → Option (Nat × Hd)} (h : StM w b n L i f) (fr : FreshF lo f) (hg : g < lo) (ne : b ≠ g) (vs : List Value) : StM (setAll w g 0 vs) b n L i f :=
  ⟨h.sm.farAll ne vs w 0, h.fst, fun s p e => Rs.farF (h.rows s p e) (fr s p e) hg vs⟩
structure LkV (w : World) (S : Sr) (a b c : Hd) (ze : List Ze) (b1 n1 b2 n2 : Nat) (f : ByteArray → Option (Nat × Hd)) : Prop where
  src : SrcV w S a b c ze
  st : StM w b1 n1 S.rules S.rules.length f
  nm : SM w b2 n2 (brF (nmA S))
theorem LkV.below {w w' : World} {S : Sr} {a b c : Hd} {ze : List Ze} {b1 n1 b2 n2 : Nat} {f : ByteArray → Option (Nat × Hd)} (h : LkV w S a b c ze b1 n1 b2 n2 f) (k : Below w.heap.size w w') : LkV w' S a b c ze b1 n1 b2 n2 f :=
  ⟨h.src.below k, h.st.below k, h.nm.below k⟩
def RetLk (w : World) (S : Sr) (a b c : Hd) (ze : List Ze) (e : Ending) (w' : World) : Prop := ∃ (b1 n1 b2 n2 : Nat) (f : ByteArray → Option (Nat × Hd)), e = .returned (.agg #[.slice a.a a.n a.c, .slice b.a b.n b.c, .slice c.a c.n c.c, .map (some b1), .map (some b2)]) ∧ LkV w' S a b c ze b1 n1 b2 n2 f ∧ Below w.heap.size w w'
theorem lk_one (S : Sr) (A B C : Option Addr) (n k m d q e : Nat) (w : World) (a b c : Hd) (ze : List Ze) (ea : a = ⟨A, n, k⟩) (eb : b = ⟨B, m, d⟩) (ec : c = ⟨C, q, e⟩) (hv : SrcV w S a b c ze) (hx : S.in64) (small : n ≤ 900) (hnl : namesLe S.rules) (BC : Hid (∀ W, Below w.heap.size w W → Calls Tryz.prog 20 #[.agg #[.slice A n k, .slice B m d, .slice C q e]] W (RetBr W S))) : Calls Tryz.prog 11 #[.agg #[.slice A n k, .slice B m d, .slice C q e]] w (RetLk w S a b c ze) := by
  have HR := Lib.hid (show RulV w A n k S.rules from by have := hv.rules; rw [ea] at this; exact this)
  have LN := Lib.hid (show S.rules.length = n from by have := HR.out.len; simpa using this)
  have XN := Lib.hid (fun (i : Nat) (x : Rl) (h : S.rules[i]? = some x) => (hx.1 x (List.mem_of_getElem? h)).1)
  have SE := Lib.hid (fun nm W (h : Below w.heap.size w W) => setAE S.rules nm A B C n k m d q e W (HR.out.below h) small (fun x hx => hnl x (setL_mem.1 hx).1))
  have SV := Lib.hid hv
  have EA := Lib.hid ea
  have EB := Lib.hid eb
  have EC := Lib.hid ec
  clear hv hx hnl ea eb ec
  go_enter Tryz.func11, Tryz.ntmps11
  go_upto_region 1 with (fail)
  have KB := ((BK.nil w).lit [.slice A n k, .slice B m d, .slice C q e] 26).lit [.slice none 0 0, .slice none 0 0, .slice none 0 0, .map none, .map none] 52
  simp only [World.size_alloc] at *
  generalize (w.alloc (.cells #[.slice A n k, .slice B m d, .slice C q e] 26)).alloc (.cells #[.slice none 0 0, .slice none 0 0, .slice none 0 0, .map none, .map none] 52) = W at *
  have HP : LkP w [(w.heap.size + 1, [.slice none 0 0, .slice none 0 0, .slice none 0 0, .map none, .map none]), (w.heap.size, [.slice A n k, .slice B m d, .slice C q e])] [] [] W := ⟨KB, fun _ h => absurd h (by simp), fun _ h => absurd h (by simp), fun x hx => (KB.al x hx).lt, by simp, by simp⟩
  obtain ⟨_, x0, x1, x2, _⟩ := KB.tail.head.three
  have hb0 := KB.hb
  clear KB
  go_cut [3] (fun v3 wx => LkZ w [(w.heap.size + 1, [.slice none 0 0, .slice none 0 0, .slice none 0 0, .map none, .map none]), (w.heap.size, [.slice A n k, .slice B m d, .slice C q e])] (brF (nmA S)) (.slice A n k) (.slice B m d) (.slice C q e) v3 wx)
  case first =>
    have q0 : W.heap.size ≠ w.heap.size := Nat.ne_of_gt (HP.lt _ (List.mem_cons_of_mem _ (List.mem_cons_self ..)))
    have q9 : w.heap.size + 2 ≤ W.heap.size := HP.lt _ (List.mem_cons_self ..)
    have q1 : W.heap.size + 1 ≠ w.heap.size := by omega
    have hmm := @run_makeMap Tryz.prog
    go_region_held3 (fun w' => w'.cell? ⟨w.heap.size, 0, none⟩ = some (.slice A n k) ∧ w'.cell? ⟨w.heap.size, 1, none⟩ = some (.slice B m d) ∧ w'.cell? ⟨w.heap.size, 2, none⟩ = some (.slice C q e)) (first | (with_reducible exact ⟨x0, x1, x2⟩) | go_keep)
      (first
        | (go_at_call 20; (with_reducible refine (BC.out _ (by with_reducible exact (HP).kb.hb)).mono ?_); (rintro e9 W9 ⟨b2, n2, rfl, HS, hb2, _, hk⟩); (have hb3 : W.heap.size + 0 ≤ b2 := by first | exact hb2 | (simp only [show ∀ X : World, X.drew.heap.size = X.heap.size from fun _ => rfl, World.size_alloc] at hb2; exact hb2)); (clear hb2); (with_reducible replace HP := (HP).below hk); (clear hk x0 x1 x2); (obtain ⟨lx, x0, x1, x2, _⟩ := HP.kb.tail.head.three); (have q2 : W9.heap.size ≠ w.heap.size := Nat.ne_of_gt lx); (have q3 : W9.heap.size + 1 ≠ w.heap.size := by omega))
        | (go_at_call 20; (with_reducible refine (BC.out _ (by with_reducible exact (HP.drew).kb.hb)).mono ?_); (rintro e9 W9 ⟨b2, n2, rfl, HS, hb2, _, hk⟩); (have hb3 : W.heap.size + 0 ≤ b2 := by first | exact hb2 | (simp only [show ∀ X : World, X.drew.heap.size = X.heap.size from fun _ => rfl, World.size_alloc] at hb2; exact hb2)); (clear hb2); (with_reducible replace HP := (HP.drew).below hk); (clear hk x0 x1 x2); (obtain ⟨lx, x0, x1, x2, _⟩ := HP.kb.tail.head.three); (have q2 : W9.heap.size ≠ w.heap.size := Nat.ne_of_gt lx); (have q3 : W9.heap.size + 1 ≠ w.heap.size := by omega))
        | (go_at_call 20; (with_reducible refine (BC.out _ (by with_reducible exact (HP.map.drew).kb.hb)).mono ?_); (rintro e9 W9 ⟨b2, n2, rfl, HS, hb2, _, hk⟩); (have hb3 : W.heap.size + 1 ≤ b2 := by first | exact hb2 | (simp only [show ∀ X : World, X.drew.heap.size = X.heap.size from fun _ => rfl, World.size_alloc] at hb2; exact hb2)); (clear hb2); (with_reducible replace HP := (HP.map.drew).below hk); (clear hk x0 x1 x2); (obtain ⟨lx, x0, x1, x2, _⟩ := HP.kb.tail.head.three); (have q2 : W9.heap.size ≠ w.heap.size := Nat.ne_of_gt lx); (have q3 : W9.heap.size + 1 ≠ w.heap.size := by omega))
        | (go_at_call 20; (with_reducible refine (BC.out _ (by with_reducible exact (HP.box.drew).kb.hb)).mono ?_); (rintro e9 W9 ⟨b2, n2, rfl, HS, hb2, _, hk⟩); (have hb3 : W.heap.size + 1 ≤ b2 := by first | exact hb2 | (simp only [show ∀ X : World, X.drew.heap.size = X.heap.size from fun _ => rfl, World.size_alloc] at hb2; exact hb2)); (clear hb2); (with_reducible replace HP := (HP.box.drew).below hk); (clear hk x0 x1 x2); (obtain ⟨lx, x0, x1, x2, _⟩ := HP.kb.tail.head.three); (have q2 : W9.heap.size ≠ w.heap.size := Nat.ne_of_gt lx); (have q3 : W9.heap.size + 1 ≠ w.heap.size := by omega); (obtain ⟨lg, y0, y1, y2, y3, y4, m0, m1, m2, m3, m4⟩ := HP.open5); (have lh := Nat.ne_of_lt lg); (have li := Nat.ne_of_gt lg))
        | (go_at_call 20; (with_reducible refine (BC.out _ (by with_reducible exact (HP.map.box.drew).kb.hb)).mono ?_); (rintro e9 W9 ⟨b2, n2, rfl, HS, hb2, _, hk⟩); (have hb3 : W.heap.size + 2 ≤ b2 := by first | exact hb2 | (simp only [show ∀ X : World, X.drew.heap.size = X.heap.size from fun _ => rfl, World.size_alloc] at hb2; exact hb2)); (clear hb2); (with_reducible replace HP := (HP.map.box.drew).below hk); (clear hk x0 x1 x2); (obtain ⟨lx, x0, x1, x2, _⟩ := HP.kb.tail.head.three); (have q2 : W9.heap.size ≠ w.heap.size := Nat.ne_of_gt lx); (have q3 : W9.heap.size + 1 ≠ w.heap.size := by omega); (obtain ⟨lg, y0, y1, y2, y3, y4, m0, m1, m2, m3, m4⟩ := HP.open5); (have lh := Nat.ne_of_lt lg); (have li := Nat.ne_of_gt lg); (simp only [World.size_alloc] at HP lg y0 y1 y2 y3 y4 m0 m1 m2 m3 m4 lh li))
        | (go_at_call 20; (with_reducible refine (BC.out _ (by with_reducible exact (HP.box.map.drew).kb.hb)).mono ?_); (rintro e9 W9 ⟨b2, n2, rfl, HS, hb2, _, hk⟩); (have hb3 : W.heap.size + 2 ≤ b2 := by first | exact hb2 | (simp only [show ∀ X : World, X.drew.heap.size = X.heap.size from fun _ => rfl, World.size_alloc] at hb2; exact hb2)); (clear hb2); (with_reducible replace HP := (HP.box.map.drew).below hk); (clear hk x0 x1 x2); (obtain ⟨lx, x0, x1, x2, _⟩ := HP.kb.tail.head.three); (have q2 : W9.heap.size ≠ w.heap.size := Nat.ne_of_gt lx); (have q3 : W9.heap.size + 1 ≠ w.heap.size := by omega); (obtain ⟨lg, y0, y1, y2, y3, y4, m0, m1, m2, m3, m4⟩ := HP.open5); (have lh := Nat.ne_of_lt lg); (have li := Nat.ne_of_gt lg); (simp only [World.size_alloc] at HP))
        | (go_at_call 20; (with_reducible refine (BC.out _ (by with_reducible exact (HP.map).kb.hb)).mono ?_); (rintro e9 W9 ⟨b2, n2, rfl, HS, hb2, _, hk⟩); (have hb3 : W.heap.size + 1 ≤ b2 := by first | exact hb2 | (simp only [show ∀ X : World, X.drew.heap.size = X.heap.size from fun _ => rfl, World.size_alloc] at hb2; exact hb2)); (clear hb2); (with_reducible replace HP := (HP.map).below hk); (clear hk x0 x1 x2); (obtain ⟨lx, x0, x1, x2, _⟩ := HP.kb.tail.head.three); (have q2 : W9.heap.size ≠ w.heap.size := Nat.ne_of_gt lx); (have q3 : W9.heap.size + 1 ≠ w.heap.size := by omega))
        | (go_at_call 20; (with_reducible refine (BC.out _ (by with_reducible exact (HP.box).kb.hb)).mono ?_); (rintro e9 W9 ⟨b2, n2, rfl, HS, hb2, _, hk⟩); (have hb3 : W.heap.size + 1 ≤ b2 := by first | exact hb2 | (simp only [show ∀ X : World, X.drew.heap.size = X.heap.size from fun _ => rfl, World.size_alloc] at hb2; exact hb2)); (clear hb2); (with_reducible replace HP := (HP.box).below hk); (clear hk x0 x1 x2); (obtain ⟨lx, x0, x1, x2, _⟩ := HP.kb.tail.head.three); (have q2 : W9.heap.size ≠ w.heap.size := Nat.ne_of_gt lx); (have q3 : W9.heap.size + 1 ≠ w.heap.size := by omega); (obtain ⟨lg, y0, y1, y2, y3, y4, m0, m1, m2, m3, m4⟩ := HP.open5); (have lh := Nat.ne_of_lt lg); (have li := Nat.ne_of_gt lg))
        | (go_at_call 20; (with_reducible refine (BC.out _ (by with_reducible exact (HP.map.box).kb.hb)).mono ?_); (rintro e9 W9 ⟨b2, n2, rfl, HS, hb2, _, hk⟩); (have hb3 : W.heap.size + 2 ≤ b2 := by first | exact hb2 | (simp only [show ∀ X : World, X.drew.heap.size = X.heap.size from fun _ => rfl, World.size_alloc] at hb2; exact hb2)); (clear hb2); (with_reducible replace HP := (HP.map.box).below hk); (clear hk x0 x1 x2); (obtain ⟨lx, x0, x1, x2, _⟩ := HP.kb.tail.head.three); (have q2 : W9.heap.size ≠ w.heap.size := Nat.ne_of_gt lx); (have q3 : W9.heap.size + 1 ≠ w.heap.size := by omega); (obtain ⟨lg, y0, y1, y2, y3, y4, m0, m1, m2, m3, m4⟩ := HP.open5); (have lh := Nat.ne_of_lt lg); (have li := Nat.ne_of_gt lg); (simp only [World.size_alloc] at HP lg y0 y1 y2 y3 y4 m0 m1 m2 m3 m4 lh li))
        | (go_at_call 20; (with_reducible refine (BC.out _ (by with_reducible exact (HP.box.map).kb.hb)).mono ?_); (rintro e9 W9 ⟨b2, n2, rfl, HS, hb2, _, hk⟩); (have hb3 : W.heap.size + 2 ≤ b2 := by first | exact hb2 | (simp only [show ∀ X : World, X.drew.heap.size = X.heap.size from fun _ => rfl, World.size_alloc] at hb2; exact hb2)); (clear hb2); (with_reducible replace HP := (HP.box.map).below hk); (clear hk x0 x1 x2); (obtain ⟨lx, x0, x1, x2, _⟩ := HP.kb.tail.head.three); (have q2 : W9.heap.size ≠ w.heap.size := Nat.ne_of_gt lx); (have q3 : W9.heap.size + 1 ≠ w.heap.size := by omega); (obtain ⟨lg, y0, y1, y2, y3, y4, m0, m1, m2, m3, m4⟩ := HP.open5); (have lh := Nat.ne_of_lt lg); (have li := Nat.ne_of_gt lg); (simp only [World.size_alloc] at HP)))
    all_goals
      go_wp2_with fail
      go_meet
      have hlt := HS.lt
      have hw9 : w.heap.size + 2 ≤ W9.heap.size := HP.lt _ (List.mem_cons_self ..)
      with_reducible first
        | exact lz_box HP HS (by omega) (by omega) (by omega) (by omega)
        | exact lz_mapbox HP HS (by omega) (by omega) (by omega) (by omega)
        | exact lz_boxmap HP HS (by omega) (by omega) (by omega) (by omega)
        | exact lz_set HP HS (by omega) (by omega) (by omega) (by omega) (by omega)
        | exact lz_setmap HP HS (by omega) (by omega) (by omega) (by omega) (by omega)
  case rest =>
    obtain ⟨b1, g, b2, n2, rfl, ⟨KB, S1, S2⟩, ne, lg, l1, l2⟩ := hcut
    clear HP hb0 x0 x1 x2
    have ST : StM wc b1 0 S.rules 0 (fun _ => none) := ⟨S1, fun s => rfl, fun s p e => by cases e⟩
    clear S1
    have g1 : g ≠ b1 := ST.sm.ne_blk KB.head
    have g2 : w.heap.size ≠ b1 := ST.sm.ne_blk KB.tail.tail.head
    have g3 : w.heap.size + 1 ≠ b1 := ST.sm.ne_blk KB.tail.head
    obtain ⟨_, x0, x1, x2, _⟩ := KB.tail.tail.head.three
    go_wp2_with fail
    clear x0 x1 x2
    go_loopw [16] (fun v16 wr => ∃ (i m1 : Nat) (f : ByteArray → Option (Nat × Hd)), i ≤ n ∧ v16 = .int .i64 i ∧ m1 ≤ i ∧ FreshF (w.heap.size + 2) f ∧ StM wr b1 m1 S.rules i f ∧ SM wr b2 n2 (brF (nmA S)) ∧ BK w [(g, [.slice A n k, .slice B m d, .slice C q e, .map (some b1), .map (some b2)]), (w.heap.size + 1, [.slice none 0 0, .slice none 0 0, .slice none 0 0, .map none, .map none]), (w.heap.size, [.slice A n k, .slice B m d, .slice C q e])] wr) (fun v _ => n - (intOf v).toNat)
    case atStart => exact ⟨0, 0, _, by omega, rfl, by omega, (fun s p e => by cases e), ST, S2, KB⟩
    case round =>
      clear ST S2 KB
      obtain ⟨i, m1, f, hi, rfl, hm1, FR, ST, S2, KB⟩ := hrel
      have lw : w.heap.size + 2 ≤ wr.heap.size := KB.tail.head.lt
      by_cases h4 : i < n
      · obtain ⟨x, hxx⟩ : ∃ x, S.rules[i]? = some x := ⟨_, List.getElem?_eq_getElem (by rw [LN.out]; exact h4)⟩
        obtain ⟨gr, o, ea0, hg, ca⟩ := (HR.out.below KB.hb).cells (by omega)
        subst ea0
        have ra := row_at ca (show (S.rules.map Rl.vals)[i]? = some (Rl.vals x) by rw [List.getElem?_map, hxx]; rfl)
        have zn := XN.out i x hxx
        have OLD := Lib.hid (fun W (h : StM W b1 m1 S.rules i f) (k : (f x.name).isSome = true) => h.old hxx k)
        have NEW := Lib.hid (fun W (h : StM W b1 m1 S.rules i f) (k : (f x.name).isSome = false) (a : Option Addr) (m9 c9 : Nat) (hr : RulV W a m9 c9 (setL S.rules x.name)) => h.new hxx k hr (by unfold maxLen; omega) zn)
        have LK := Lib.hid (fun W (h : StM W b1 m1 S.rules i f) => look_st h x.name zn)
        have SX := Lib.hid (SE.out x.name)
        clear ca hxx zn
        obtain ⟨nm, fr, last, ⟨mo, ki, wd, da, ti, re⟩, save, le⟩ := x
        have x0 : wr.cell? ⟨gr, o + i * 11, none⟩ = some (.string nm) := ra 0 _ rfl
        have x1 : wr.cell? ⟨gr, o + i * 11 + 1, none⟩ = some (.int .i64 fr) := ra 1 _ rfl
        have x2 : wr.cell? ⟨gr, o + i * 11 + 2, none⟩ = some (.int .i64 last) := ra 2 _ rfl
        have x3 : wr.cell? ⟨gr, o + i * 11 + 3, none⟩ = some (.int .i64 mo) := ra 3 _ rfl
        have x4 : wr.cell? ⟨gr, o + i * 11 + 4, none⟩ = some (.int .i64 ki) := ra 4 _ rfl
        have x5 : wr.cell? ⟨gr, o + i * 11 + 5, none⟩ = some (.int .i64 wd) := ra 5 _ rfl
        have x6 : wr.cell? ⟨gr, o + i * 11 + 6, none⟩ = some (.int .i64 da) := ra 6 _ rfl
        have x7 : wr.cell? ⟨gr, o + i * 11 + 7, none⟩ = some (.int .i64 ti) := ra 7 _ rfl
        have x8 : wr.cell? ⟨gr, o + i * 11 + 8, none⟩ = some (.int .i64 re) := ra 8 _ rfl
        have x9 : wr.cell? ⟨gr, o + i * 11 + 9, none⟩ = some (.int .i64 save) := ra 9 _ rfl
        have x10 : wr.cell? ⟨gr, o + i * 11 + 10, none⟩ = some (.string le) := ra 10 _ rfl
        clear ra
        simp only at OLD NEW LK SX
        go_upto_region 5 with (fail)
        have KC := KB.lit [.string nm, .int .i64 fr, .int .i64 last, .int .i64 mo, .int .i64 ki, .int .i64 wd, .int .i64 da, .int .i64 ti, .int .i64 re, .int .i64 save, .string le] 36
        replace ST := ST.below (below_box wr (.cells #[.string nm, .int .i64 fr, .int .i64 last, .int .i64 mo, .int .i64 ki, .int .i64 wd, .int .i64 da, .int .i64 ti, .int .i64 re, .int .i64 save, .string le] 36))
        replace S2 := S2.alloc (.cells #[.string nm, .int .i64 fr, .int .i64 last, .int .i64 mo, .int .i64 ki, .int .i64 wd, .int .i64 da, .int .i64 ti, .int .i64 re, .int .i64 save, .string le] 36)
        have r1 : wr.heap.size ≠ b1 := ST.sm.ne_blk KC.head
        generalize wr.alloc (.cells #[.string nm, .int .i64 fr, .int .i64 last, .int .i64 mo, .int .i64 ki, .int .i64 wd, .int .i64 da, .int .i64 ti, .int .i64 re, .int .i64 save, .string le] 36) = V at *
        generalize wr.heap.size = rb at *
        clear x0 x1 x2 x3 x4 x5 x6 x7 x8 x9 x10 KB hg
        have y0 := KC.head.cs.1
        have y3 := KC.tail.head.cs.2.2.2.2.2.2.1
        have lk := LK.out V ST
        clear LK
        generalize stI f nm = fi at *
        generalize stH f nm = hh at *
        obtain ⟨ha, hn, hc⟩ := hh
        cases hf : (f nm).isSome with
        | true =>
          rw [hf] at lk
          have STX := Lib.hid ((OLD.out V ST hf).below (below_box V (.cells #[.int .i64 fi, (.slice ha hn hc)] 71)))
          have KX := Lib.hid (KC.tail.below (below_box V (.cells #[.int .i64 fi, (.slice ha hn hc)] 71)))
          have S2X := Lib.hid (S2.alloc (.cells #[.int .i64 fi, (.slice ha hn hc)] 71))
          clear OLD NEW SX ST S2 KC hf
          go_wp2
          go_roundw
          case rel => exact ⟨i + 1, m1, f, by omega, int_eqS (by omega), by omega, FR, STX.out, S2X.out, KX.out⟩
          case measure => simp only [intOf]; omega
        | false =>
          rw [hf] at lk
          go_upto_region 7 with (fail)
          have KD := KC.lit [.int .i64 fi, (.slice ha hn hc)] 71
          replace ST := ST.below (below_box V (.cells #[.int .i64 fi, (.slice ha hn hc)] 71))
          replace S2 := S2.alloc (.cells #[.int .i64 fi, (.slice ha hn hc)] 71)
          clear lk y0 y3 KC
          generalize V.alloc (.cells #[.int .i64 fi, (.slice ha hn hc)] 71) = U at *
          have KE := KD.tail
          clear KD
          have y0 := KE.head.cs.1
          have y3 := KE.tail.head.cs.2.2.2.2.2.2.1
          obtain ⟨_, x0, x1, x2, _⟩ := KE.tail.tail.tail.head.three
          have lu : w.heap.size + 2 ≤ U.heap.size := KE.tail.tail.head.lt
          go_region_held3 (fun w' => w'.cell? ⟨rb, 0, none⟩ = some (.string nm) ∧ w'.cell? ⟨g, 3, none⟩ = some (.map (some b1)) ∧ w'.cell? ⟨w.heap.size, 0, none⟩ = some (.slice (some ⟨gr, o, none⟩) n k) ∧ w'.cell? ⟨w.heap.size, 1, none⟩ = some (.slice B m d) ∧ w'.cell? ⟨w.heap.size, 2, none⟩ = some (.slice C q e)) (first | (with_reducible exact ⟨y0, y3, x0, x1, x2⟩) | (with_reducible exact ⟨z0, z1, z2, z3, z4⟩) | go_keep)
            (first
              | (go_at_call 30; (with_reducible refine (SX.out _ (by with_reducible first | exact KE.hb | exact KE.drew.hb)).mono ?_); (rintro e9 W9 ⟨A9, c9, rfl, hr, hfr, hk⟩); (have FR2 := FR.put (s := nm) (p := (i, ⟨A9, (setL S.rules nm).length, c9⟩)) (FreshS.less hfr lu)); (with_reducible first | (replace KE := KE.below hk; replace ST := ST.below hk; replace S2 := S2.below hk) | (replace KE := KE.drew.below hk; replace ST := (ST.below (Below.refl _ _).drew).below hk; replace S2 := S2.drew.below hk)); (clear hk x0 x1 x2 y0 y3); (have y0 := KE.head.cs.1); (have y3 := KE.tail.head.cs.2.2.2.2.2.2.1); (obtain ⟨_, x0, x1, x2, _⟩ := KE.tail.tail.tail.head.three); (obtain ⟨W10, hput, ST2, hgw, hsz⟩ := NEW.out W9 ST hf A9 _ c9 hr); (have z0 := hgw.cell y0 (by simpa using r1)); (have z1 := hgw.cell y3 (by simpa using g1)); (have z2 := hgw.cell x0 (by simpa using g2)); (have z3 := hgw.cell x1 (by simpa using g2)); (have z4 := hgw.cell x2 (by simpa using g2)); (clear hsz hr)))
          all_goals
            have K2 := KE.tail.grown hgw (by simp; exact ⟨g1, g3, g2⟩) (fun j hj => by cases hj; exact l1)
            have S3 := S2.grown hgw (by simpa using fun e => ne e.symm)
            go_wp2_with fail
            go_roundw
            case rel => first | exact ⟨i + 1, m1 + 1, _, by omega, int_eqS (by omega), by omega, FR2, ST2, S3, K2⟩ | exact ⟨i + 1, m1 + 1, _, by omega, int_eqS (by omega), by omega, FR2, ST2.below (Below.refl _ _).drew, S3.drew, K2.drew⟩
            case measure => simp only [intOf]; omega
      · obtain rfl : i = n := by omega
        have KZ := (KB.tail.put (by omega) (by simp) [.slice A i k, .slice B m d, .slice C q e, .map (some b1), .map (some b2)] rfl)
        have LV := Lib.hid (⟨SV.out.below KZ.hb, by have := ST.farAll FR (Nat.lt_succ_self _) g3.symm [.slice A i k, .slice B m d, .slice C q e, .map (some b1), .map (some b2)]; rw [LN.out]; exact this, S2.farAll (S2.ne_blk KB.tail.head).symm [.slice A i k, .slice B m d, .slice C q e, .map (some b1), .map (some b2)] wr 0⟩ : LkV (setAll wr (w.heap.size + 1) 0 [.slice A i k, .slice B m d, .slice C q e, .map (some b1), .map (some b2)]) S a b c ze b1 m1 b2 n2 f)
        obtain ⟨_, p0, p1, p2, p3, p4, _⟩ := KB.head.fiveL
        obtain ⟨_, q0, q1, q2, q3, q4, f0, f1, f2, f3, f4⟩ := KB.tail.head.fiveL
        obtain ⟨_, r0, r1, r2, r3, r4, _⟩ := KZ.head.fiveL
        have HB := KZ.hb
        simp only [setAll] at LV r0 r1 r2 r3 r4 HB
        clear KZ KB ST S2 FR
        go_wp2
        exact bodyPost_ret (v := .agg #[.slice A i k, .slice B m d, .slice C q e, .map (some b1), .map (some b2)]) (by simp [results, Tryz.results11, go_sem, r0, r1, r2, r3, r4]) rfl ⟨b1, m1, b2, n2, f, by rw [EA.out, EB.out, EC.out], LV.out, HB⟩
theorem lookE (S : Sr) (a b c : Hd) (ze : List Ze) (w : World) (hv : SrcV w S a b c ze) (hx : S.in64) (small : a.n ≤ 900) (hnl : namesLe S.rules) (sm2 : S.zones.length + S.links.length ≤ 1000) : Calls Tryz.prog 11 #[.agg #[a.val, b.val, c.val]] w (RetLk w S a b c ze) :=
  lk_one S a.a b.a c.a a.n a.c b.n b.c c.n c.c w a b c ze rfl rfl rfl hv hx small hnl (Lib.hid fun W h => bearersE S a b c ze W (hv.below h) hx sm2)
end Go.Proofs.YtmhpnmlgfdomkaaGreatDoor
