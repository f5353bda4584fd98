import Derived.Test.YtmhpnmlgfdomkaaGreatDoorZJcut
import Derived.Maps.RangeWalk
import Derived.Sort.KeysCollected
import Derived.Test.YtmhpnmlgfdomkaaGreatDoorZGna
import Derived.Test.YtmhpnmlgfdomkaaGreatDoorZGf
import Derived.Test.YtmhpnmlgfdomkaaGreatDoorZGtb
import Derived.Test.YtmhpnmlgfdomkaaGreatDoorZGhs
set_option maxRecDepth 100000
set_option maxHeartbeats 64000000
namespace Go.Proofs.YtmhpnmlgfdomkaaGreatDoor
open Go.RowKit Go.Maps
theorem str_keyed : Keyed Tryz.prog 9 := string_keyed Tryz.underlying9
def kS (s : ByteArray) : Lit := .string s.data.toList
theorem kS_inj {s t : ByteArray} (h : kS s = kS t) : s = t := by
  unfold kS at h
  injection h with h
  rcases s with ⟨⟨s⟩⟩
  rcases t with ⟨⟨t⟩⟩
  simp only at h
  rw [h]
theorem kS_key (s : ByteArray) : WideAt.IsKeyLit (kS s) := trivial
def rawV (v : Value) : Option (DataW Value × List MemPlace) := some (.held v, [])
theorem held_inj {a b : Value} (h : (DataW.held a : DataW Value) = .held b) : a = b := by injection h
def Holds13 (D : DataW Value) (f : ByteArray → Option Value) : Prop := ∀ s, match f s with
  | none => has D (kS s) = false
  | some v => has D (kS s) = true ∧ ∀ z, D.atKey (kS s) z = .held v
structure SM (w : World) (b n : Nat) (f : ByteArray → Option Value) : Prop where
  own : ∃ D, w.ownsMap Tryz.prog 9 rawV b n D ∧ Holds13 D f
theorem SM.lt {w : World} {b n : Nat} {f : ByteArray → Option Value} (h : SM w b n f) : b < w.heap.size := by
  obtain ⟨D, h, _⟩ := h.own
  exact h.lt
theorem SM.more {w : World} {b n : Nat} {f : ByteArray → Option Value} (h : SM w b n f) {m : Nat} (k : n ≤ m) : SM w b m f := by
  obtain ⟨D, h, e⟩ := h.own
  exact ⟨D, h.mono k, e⟩
theorem SM.block {w w' : World} {b n : Nat} {f : ByteArray → Option Value} (h : SM w b n f) (k : w'.heap[b]? = w.heap[b]?) : SM w' b n f := by
  obtain ⟨D, ⟨es, clock, hb, r⟩, e⟩ := h.own
  exact ⟨D, ⟨es, clock, k.trans hb, r⟩, e⟩
theorem SM.below {w w' : World} {b n : Nat} {f : ByteArray → Option Value} (h : SM w b n f) (k : Below w.heap.size w w') : SM w' b n f := h.block (k.block b h.lt)
theorem SM.drew {w : World} {b n : Nat} {f : ByteArray → Option Value} (h : SM w b n f) : SM w.drew b n f := h.block rfl
theorem SM.alloc {w : World} {b n : Nat} {f : ByteArray → Option Value} (h : SM w b n f) (o : Obj) : SM (w.alloc o) b n f := h.block (Below.heap_alloc _ _ _ h.lt)
theorem SM.far {w : World} {b n : Nat} {f : ByteArray → Option Value} (h : SM w b n f) {a : Addr} (ne : b ≠ a.block) (u : Value) : SM (w.setCell a u) b n f := h.block (Below.heap_setCell _ _ _ _ ne)
theorem SM.grown {w w' : World} {b n : Nat} {f : ByteArray → Option Value} {row : Option Nat} (h : SM w b n f) (g : w.grownBy w' row) (ne : some b ≠ row) : SM w' b n f := h.block (g.block b h.lt ne)
theorem SM.made (w : World) : SM (w.alloc (.map #[] 0)) w.heap.size 0 (fun _ => none) :=
  ⟨.map [], World.ownsMap_made w _ _ _, fun _ => rfl⟩
def putF (f : ByteArray → Option Value) (s : ByteArray) (v : Value) : ByteArray → Option Value := fun t => if t = s then some v else f t
theorem holds_put {D : DataW Value} {f : ByteArray → Option Value} (hD : IsMap D) (h : Holds13 D f) (s : ByteArray) (v : Value) : Holds13 (D.put (kS s) (.held v)) (putF f s v) := by
  intro t
  by_cases c : t = s
  · subst c
    simp only [putF, if_true]
    exact ⟨has_put_same hD (kS_key t) _, fun z => atKey_put_same hD (kS_key t) _ z⟩
  · have hne : kS t ≠ kS s := fun e => c (kS_inj e)
    have := h t
    simp only [putF, if_neg c]
    cases hf : f t with
    | none =>
      rw [hf] at this
      exact (has_put_other hne _).trans this
    | some u =>
      rw [hf] at this
      exact ⟨(has_put_other hne _).trans this.1, fun z => (atKey_put_other hne _ z).trans (this.2 z)⟩
section
variable {w : World} {b n : Nat} {f : ByteArray → Option Value} {T e : TypeId}
theorem SM.look (h : SM w b n f) (ht : Tryz.prog.underlying T = some (.map 9 e)) {z : Value} (hz : (zeroValue e).run Tryz.prog w = .ok z w) (s : ByteArray) (hs : s.size ≤ maxLen) :
    (Instr.lookup T (.map (some b)) (.string s) false).run Tryz.prog w = .ok ((f s).getD z) w := by
  obtain ⟨D, ho, hh⟩ := h.own
  obtain ⟨v, ps, hr, hv⟩ := ho.lookup str_keyed ht hz (zd := .held z) (zp := []) rfl (WideMaps.keyOf_string_mk Tryz.underlying9 hs)
  have := hh s
  cases hf : f s with
  | none =>
    replace this : has D (kS s) = false := by simpa [hf] using this
    have e1 := atKey_of_not_has this (.held z)
    have e2 : DataW.held v = D.atKey (kS s) (.held z) := (Prod.mk.inj (Option.some.inj hv)).1
    rw [e1] at e2
    replace e2 := held_inj e2
    rw [hr, e2]; rfl
  | some u =>
    rw [hf] at this
    have e2 : DataW.held v = D.atKey (kS s) (.held z) := (Prod.mk.inj (Option.some.inj hv)).1
    rw [this.2] at e2
    replace e2 := held_inj e2
    rw [hr, e2]; rfl
theorem SM.look_ok (h : SM w b n f) (ht : Tryz.prog.underlying T = some (.map 9 e)) {z : Value} (hz : (zeroValue e).run Tryz.prog w = .ok z w) (s : ByteArray) (hs : s.size ≤ maxLen) :
    (Instr.lookup T (.map (some b)) (.string s) true).run Tryz.prog w = .ok (.tuple #[(f s).getD z, .bool (f s).isSome]) w := by
  obtain ⟨D, ho, hh⟩ := h.own
  obtain ⟨v, ps, hr, hv⟩ := ho.look_ok str_keyed ht hz (zd := .held z) (zp := []) rfl (WideMaps.keyOf_string_mk Tryz.underlying9 hs)
  have := hh s
  have e2 : DataW.held v = D.atKey (kS s) (.held z) := (Prod.mk.inj (Option.some.inj hv)).1
  cases hf : f s with
  | none =>
    rw [hf] at this
    rw [atKey_of_not_has this (.held z)] at e2
    replace e2 := held_inj e2
    rw [hr, e2]
    show Result.ok (Value.tuple #[z, .bool (has D (kS s))]) w = _
    rw [this]; rfl
  | some u =>
    rw [hf] at this
    rw [this.2] at e2
    replace e2 := held_inj e2
    rw [hr, e2]
    show Result.ok (Value.tuple #[u, .bool (has D (kS s))]) w = _
    rw [this.1]; rfl
theorem SM.put (h : SM w b n f) (ht : Tryz.prog.underlying T = some (.map 9 e)) (hn : n < maxLen) (s : ByteArray) (hs : s.size ≤ maxLen) (v : Value) :
    ∃ w', (Instr.mapUpdate T (.map (some b)) (.string s) v).run Tryz.prog w = .ok () w' ∧ SM w' b (n + 1) (putF f s v) ∧ w.grownBy w' (some b) ∧ w'.heap.size = w.heap.size := by
  obtain ⟨D, ho, hh⟩ := h.own
  obtain ⟨w', hr, ho', hg⟩ := ho.store str_keyed ht hn (d := .held v) (ps := []) (WideMaps.keyOf_string_mk Tryz.underlying9 hs) rfl
  exact ⟨w', hr, ⟨_, ho', holds_put ho.isMap hh s v⟩, hg.grown, by
    obtain ⟨es, clock, es', clock', _, rfl⟩ := hg
    simp [ChangeMaps.setBlock]⟩
end
end Go.Proofs.YtmhpnmlgfdomkaaGreatDoor
namespace Go.Proofs.YtmhpnmlgfdomkaaGreatDoor
open Go.RowKit Go.Maps
theorem belGrown {w w' : World} (h : Below w.heap.size w w') (row : Option Nat) : w.grownBy w' row := ⟨h.os, h.tape, h.output, h.size, fun k hk _ => h.block k hk⟩
def brV (x : Nat × Nat) : Value := .agg #[.int .i64 x.1, .int .i64 x.2]
def brF (g : ByteArray → Option (Nat × Nat)) (s : ByteArray) : Option Value := (g s).map brV
def addG (g : ByteArray → Option (Nat × Nat)) (s : ByteArray) (x : Nat × Nat) : ByteArray → Option (Nat × Nat) := fun t => if t = s then some ((g s).getD x) else g t
theorem addG_old {g : ByteArray → Option (Nat × Nat)} {s : ByteArray} {x : Nat × Nat} (h : (g s).isSome = true) : addG g s x = g := by
  obtain ⟨y, hy⟩ := Option.isSome_iff_exists.1 h
  funext t
  unfold addG
  split
  · rename_i e
    subst e
    rw [hy]; rfl
  · rfl
theorem addG_new {g : ByteArray → Option (Nat × Nat)} {s : ByteArray} {x : Nat × Nat} (h : (g s).isSome = false) : putF (brF g) s (brV x) = brF (addG g s x) := by
  funext t
  unfold putF brF addG
  split
  · rename_i e
    rw [Option.isSome_eq_false_iff, Option.isNone_iff_eq_none] at h
    rw [h]; rfl
  · rfl
theorem look_br (T : TypeId) (ht : Tryz.prog.underlying T = some (.map 9 80)) {w : World} {b n : Nat} {g : ByteArray → Option (Nat × Nat)} (h : SM w b n (brF g)) (s : ByteArray) (hs : s.size ≤ maxLen) :
    (Instr.lookup T (.map (some b)) (.string s) true).run Tryz.prog w = .ok (.tuple #[.agg #[.int .i64 ((g s).getD (0, 0)).1, .int .i64 ((g s).getD (0, 0)).2], .bool (g s).isSome]) w := by
  have := h.look_ok ht (Tryz.zeroValue80 w) s hs
  rw [this]
  unfold brF
  cases g s <;> rfl
theorem look_br0 (T : TypeId) (ht : Tryz.prog.underlying T = some (.map 9 80)) {w : World} {b n : Nat} {g : ByteArray → Option (Nat × Nat)} (h : SM w b n (brF g)) (s : ByteArray) (hs : s.size ≤ maxLen) :
    (Instr.lookup T (.map (some b)) (.string s) false).run Tryz.prog w = .ok (.agg #[.int .i64 ((g s).getD (0, 0)).1, .int .i64 ((g s).getD (0, 0)).2]) w := by
  have := h.look ht (Tryz.zeroValue80 w) s hs
  rw [this]
  unfold brF
  cases g s <;> rfl
theorem hasE {b n : Nat} {g : ByteArray → Option (Nat × Nat)} (s : ByteArray) (hs : s.size ≤ maxLen) (w : World) (h : SM w b n (brF g)) : Calls Tryz.prog 60 #[.map (some b), .string s] w (RetV w (.bool (g s).isSome)) := by
  have LK := look_br 50 Tryz.underlying50 h s hs
  clear h
  generalize ((g s).getD (0, 0)).1 = k at *
  generalize ((g s).getD (0, 0)).2 = a at *
  generalize (g s).isSome = c at *
  go_enter Tryz.func60, Tryz.ntmps60
  go_wp2
  go_ret
  exact ⟨rfl, below_box _ _⟩
def RetAdd (w : World) (b n : Nat) (g : ByteArray → Option (Nat × Nat)) (e : Ending) (w' : World) : Prop := e = .returned (.tuple #[]) ∧ SM w' b n (brF g) ∧ w.grownBy w' (some b)
theorem addE {b n : Nat} {g : ByteArray → Option (Nat × Nat)} (s : ByteArray) (hs : s.size ≤ maxLen) (x : Nat × Nat) (w : World) (h : SM w b n (brF g)) (hn : n < maxLen) : Calls Tryz.prog 45 #[.map (some b), .string s, .agg #[.int .i64 x.1, .int .i64 x.2]] w (RetAdd w b (n + 1) (addG g s x)) := by
  have HC := Lib.hid (fun W (k : SM W b n (brF g)) => hasE s hs W k)
  cases hc : (g s).isSome with
  | true =>
    rw [hc] at HC
    have EQ := Lib.hid (addG_old (x := x) hc)
    clear hc
    have h2 := Lib.hid h
    clear h
    go_enter Tryz.func45, Tryz.ntmps45
    go_wp2_with (go_at_call 60; refine (HC.out _ (h2.out.alloc _)).mono ?_; rintro e w' ⟨rfl, hk⟩)
    go_end0
    exact ⟨rfl, by rw [EQ.out]; exact ((h2.out.alloc _).below hk).more (by omega), belGrown ((below_box w _).trans (hk.mono (by simp))) _⟩
  | false =>
    rw [hc] at HC
    have EQ := Lib.hid (addG_new (x := x) hc)
    clear hc
    have h2 := Lib.hid h
    clear h
    go_enter Tryz.func45, Tryz.ntmps45
    go_upto_region 1 with (fail)
    have KB := (BK.nil w).lit [.int .i64 x.1, .int .i64 x.2] 80
    have h3 := h2.out.alloc (.cells #[.int .i64 x.1, .int .i64 x.2] 80)
    generalize w.alloc (.cells #[.int .i64 x.1, .int .i64 x.2] 80) = W at *
    replace h3 := Lib.hid h3
    go_upto_region 2 with (go_at_call 60; refine (HC.out _ h3.out).mono ?_; rintro e W2 ⟨rfl, hk⟩)
    replace KB := KB.below hk
    have h4 := h3.out.below hk
    clear h3 hk
    obtain ⟨_, x0, x1, _⟩ := KB.head.two
    obtain ⟨W3, hr, hs3, hg3, _⟩ := h4.put Tryz.underlying50 hn s hs (.agg #[.int .i64 x.1, .int .i64 x.2])
    clear h4
    replace hs3 := Lib.hid hs3
    go_wp2
    go_end0
    exact ⟨rfl, by have := hs3.out; rw [show (Value.agg #[.int .i64 x.1, .int .i64 x.2]) = brV x from rfl, EQ.out] at this; exact this, (belGrown KB.hb _).trans hg3⟩
end Go.Proofs.YtmhpnmlgfdomkaaGreatDoor
namespace Go.Proofs.YtmhpnmlgfdomkaaGreatDoor
theorem fi_snoc {α : Type} {l : List α} {p : α → Bool} {i : Nat} {x : α} (h : l[i]? = some x) : (l.take (i + 1)).findIdx? p = ((l.take i).findIdx? p).or (if p x = true then some i else none) := by
  have hi : i < l.length := (List.getElem?_eq_some_iff.1 h).1
  have hl : (l.take i).length = i := by rw [List.length_take]; omega
  rw [List.take_add_one, h, List.findIdx?_append]
  generalize l.take i = m at *
  subst hl
  cases hp : p x <;> simp [List.findIdx?_cons, hp]
def nmG (S : Sr) (i j : Nat) (nm : ByteArray) : Option (Nat × Nat) := match (S.zones.take i).findIdx? (fun z => decide (z.name = nm)) with
  | some z => some (2, z)
  | none => ((S.links.take j).findIdx? (fun z => decide (z.name = nm))).map (fun l => (3, l))
def nmA (S : Sr) (nm : ByteArray) : Option (Nat × Nat) := match zoneI S nm with
  | some z => some (2, z)
  | none => (linkI S nm).map (fun l => (3, l))
theorem nmG_zone {S : Sr} {i : Nat} {z : Zn} (h : S.zones[i]? = some z) : addG (nmG S i 0) z.name (2, i) = nmG S (i + 1) 0 := by
  funext t
  unfold addG nmG
  rw [fi_snoc h]
  by_cases c : t = z.name
  · subst c
    rw [if_pos rfl]
    cases (S.zones.take i).findIdx? (fun y => decide (y.name = z.name)) <;> simp
  · rw [if_neg c, if_neg (by simpa using fun e => c e.symm), Option.or_none]
theorem nmG_link {S : Sr} {n j : Nat} {l : Lk} (h : S.links[j]? = some l) : addG (nmG S n j) l.name (3, j) = nmG S n (j + 1) := by
  funext t
  unfold addG nmG
  rw [fi_snoc h]
  by_cases c : t = l.name
  · subst c
    rw [if_pos rfl]
    cases (S.zones.take n).findIdx? (fun y => decide (y.name = l.name)) with
    | some z => rfl
    | none => cases (S.links.take j).findIdx? (fun y => decide (y.name = l.name)) <;> simp
  · rw [if_neg c, if_neg (by simpa using fun e => c e.symm), Option.or_none]
theorem nmG_all (S : Sr) : nmG S S.zones.length S.links.length = nmA S := by
  funext t
  unfold nmG nmA zoneI linkI
  rw [List.take_length, List.take_length]
theorem nmA_zone {S : Sr} {nm : ByteArray} {z : Nat} (h : zoneI S nm = some z) : nmA S nm = some (2, z) := by unfold nmA; rw [h]
theorem nmA_link {S : Sr} {nm : ByteArray} {l : Nat} (h : zoneI S nm = none) (k : linkI S nm = some l) : nmA S nm = some (3, l) := by unfold nmA; rw [h, k]; rfl
theorem nmA_none {S : Sr} {nm : ByteArray} (h : zoneI S nm = none) (k : linkI S nm = none) : nmA S nm = none := by unfold nmA; rw [h, k]; rfl
theorem nmA_some {S : Sr} {nm : ByteArray} : (nmA S nm).isSome = true ↔ nm ∈ allN S := by
  have e : nm ∈ allN S ↔ ¬ ((∀ z ∈ S.zones, z.name ≠ nm) ∧ ∀ l ∈ S.links, l.name ≠ nm) := by
    unfold allN
    rw [List.mem_append, List.mem_map, List.mem_map]
    constructor
    · rintro (⟨z, h, e⟩ | ⟨z, h, e⟩) ⟨a, b⟩
      · exact a z h e
      · exact b z h e
    · intro h
      by_cases c : ∃ z ∈ S.zones, z.name = nm
      · obtain ⟨z, h, e⟩ := c; exact .inl ⟨z, h, e⟩
      · by_cases d : ∃ z ∈ S.links, z.name = nm
        · obtain ⟨z, h, e⟩ := d; exact .inr ⟨z, h, e⟩
        · exact absurd ⟨fun z hz e => c ⟨z, hz, e⟩, fun z hz e => d ⟨z, hz, e⟩⟩ h
  rw [e, ← zoneI_none, ← linkI_none]
  unfold nmA
  cases zoneI S nm with
  | some z => simp
  | none => cases linkI S nm <;> simp
end Go.Proofs.YtmhpnmlgfdomkaaGreatDoor
namespace Go.Proofs.YtmhpnmlgfdomkaaGreatDoor
open Go.RowKit Go.Maps Go.WideShapes
def RetBr (w : World) (S : Sr) (e : Ending) (w' : World) : Prop := ∃ b n : Nat, e = .returned (.map (some b)) ∧ SM w' b n (brF (nmA S)) ∧ w.heap.size ≤ b ∧ n ≤ S.zones.length + S.links.length ∧ Below w.heap.size w w'
theorem bearersE (S : Sr) (a b c : Hd) (ze : List Ze) (w : World) (hv : SrcV w S a b c ze) (hx : S.in64) (small : S.zones.length + S.links.length ≤ 1000) : Calls Tryz.prog 20 #[.agg #[a.val, b.val, c.val]] w (RetBr w S) := by
  obtain ⟨A, n, k⟩ := a
  obtain ⟨B, m, d⟩ := b
  obtain ⟨C, q, e⟩ := c
  have lz : ze.length = m := by have := hv.zones.len; simpa using this
  have lz2 : S.zones.length = m := by rw [← hv.all]; simpa using lz
  have ll : S.links.length = q := by have := hv.links.len; simpa using this
  have sm : m + q ≤ 1000 := by omega
  have HZ := Lib.hid (show Rs 2 w B m d (ze.map Ze.vals) from hv.zones)
  have HL := Lib.hid (show Rs 2 w C q e (S.links.map Lk.vals) from hv.links)
  have ZN := Lib.hid (fun (i : Nat) (x : Ze) (h : ze[i]? = some x) => (show S.zones[i]? = some x.1 ∧ x.1.name.size ≤ maxLen from by
    have h1 : S.zones[i]? = some x.1 := by rw [← hv.all, List.getElem?_map, h]; rfl
    exact ⟨h1, (hx.2.1 _ (List.mem_of_getElem? h1)).1⟩))
  have LN := Lib.hid (fun (i : Nat) (x : Lk) (h : S.links[i]? = some x) => (hx.2.2 _ (List.mem_of_getElem? h)).2)
  have AL := Lib.hid (show nmG S m q = nmA S from by rw [← lz2, ← ll]; exact nmG_all S)
  have SMA := Lib.hid (show ∀ n : Nat, n ≤ m + q → n ≤ S.zones.length + S.links.length from fun n h => by omega)
  have LL := Lib.hid ll
  clear hv hx lz2 small ll
  simp only [Hd.val]
  go_enter Tryz.func20, Tryz.ntmps20
  go_upto_region 1 with (fail)
  have KB := (BK.nil w).lit [.slice A n k, .slice B m d, .slice C q e] 26
  generalize w.alloc (.cells #[.slice A n k, .slice B m d, .slice C q e] 26) = W at *
  have hmm := @run_makeMap Tryz.prog
  have S0 := SM.made W
  have KM := KB.below (W' := W.alloc (.map #[] 0)) ((Below.refl _ _).alloc (Nat.le_refl _) _)
  have lb : w.heap.size + 1 ≤ W.heap.size := KB.head.lt
  go_upto_region 2 with (fail)
  clear hmm
  generalize W.alloc (.map #[] 0) = W1 at *
  generalize W.heap.size = mb at *
  clear KB
  have S1 : SM W1 mb 0 (brF (nmG S 0 0)) := S0
  clear S0
  obtain ⟨_, x0, x1, x2, _⟩ := (KM.head).three
  go_wp2_with fail
  clear x0 x1 x2
  go_loopw [12] (fun v12 wr => ∃ i : Nat, i ≤ m ∧ v12 = .int .i64 i ∧ SM wr mb i (brF (nmG S i 0)) ∧ BK w [(w.heap.size, [.slice A n k, .slice B m d, .slice C q e])] wr) (fun v _ => m - (intOf v).toNat)
  case atStart => exact ⟨0, by omega, rfl, S1, KM⟩
  case round =>
    clear S1 KM
    obtain ⟨i, hi, rfl, HS, KB⟩ := hrel
    by_cases h4 : i < m
    · obtain ⟨x, hxx⟩ : ∃ x, ze[i]? = some x := ⟨_, List.getElem?_eq_getElem (by omega)⟩
      obtain ⟨g, o, ea0, hg, ca⟩ := (HZ.out.below KB.hb).cells (by omega)
      subst ea0
      obtain ⟨z1, z2⟩ := ZN.out i x hxx
      have ra := row_at ca (show (ze.map Ze.vals)[i]? = some (Ze.vals x) by rw [List.getElem?_map, hxx]; rfl)
      have EQ := Lib.hid (nmG_zone z1)
      clear z1 ca hxx
      obtain ⟨⟨nm, es⟩, ⟨ea, en, ec⟩⟩ := x
      have x0 : wr.cell? ⟨g, o + i * 2, none⟩ = some (.string nm) := ra 0 _ rfl
      have x1 : wr.cell? ⟨g, o + i * 2 + 1, none⟩ = some (.slice ea en ec) := ra 1 _ rfl
      clear ra
      have z3 : nm.size ≤ maxLen := z2
      clear z2
      have AD := Lib.hid (fun W (h : SM W mb i (brF (nmG S i 0))) => addE nm z3 (2, i) W h (by unfold maxLen; omega))
      clear z3
      go_upto_region 5 with (fail)
      have KC := KB.lit [.string nm, .slice ea en ec] 39
      have HS2 := HS.alloc (.cells #[.string nm, .slice ea en ec] 39)
      generalize wr.alloc (.cells #[.string nm, .slice ea en ec] 39) = V at *
      clear x0 x1 HS KB hg
      obtain ⟨_, y0, y1, _⟩ := KC.head.two
      have KD := KC.tail
      clear KC
      replace AD := Lib.hid (AD.out V HS2)
      clear HS2
      go_wp2_with (go_at_call 45; refine AD.out.mono ?_; clear AD; rintro e W2 ⟨rfl, HS3, hg3⟩)
      replace EQ : addG (nmG S i 0) nm (2, i) = nmG S (i + 1) 0 := EQ.out
      rw [EQ] at HS3
      clear EQ
      have KE := KD.grown hg3 (by simp; omega) (by simp; omega)
      go_roundw
      case rel => exact ⟨i + 1, by omega, int_eqS (by omega), HS3, KE⟩
      case measure => simp only [intOf]; omega
    · obtain rfl : i = m := by omega
      clear h4 hi
      obtain ⟨_, x0, x1, x2, _⟩ := (KB.head).three
      go_wp2_with fail
      clear x0 x1 x2
      go_loopw [27] (fun v27 wr => ∃ j : Nat, j ≤ q ∧ v27 = .int .i64 j ∧ SM wr mb (i + j) (brF (nmG S i j)) ∧ BK w [(w.heap.size, [.slice A n k, .slice B i d, .slice C q e])] wr) (fun v _ => q - (intOf v).toNat)
      case atStart => exact ⟨0, by omega, rfl, HS, KB⟩
      case round =>
        clear HS KB
        obtain ⟨j, hj, rfl, HS, KB⟩ := hrel
        by_cases h4 : j < q
        · obtain ⟨x, hxx⟩ : ∃ x, S.links[j]? = some x := ⟨_, List.getElem?_eq_getElem (by rw [LL.out]; exact h4)⟩
          obtain ⟨g, o, ea0, hg, ca⟩ := (HL.out.below KB.hb).cells (by omega)
          subst ea0
          have z2 := LN.out j x hxx
          have ra := row_at ca (show (S.links.map Lk.vals)[j]? = some (Lk.vals x) by rw [List.getElem?_map, hxx]; rfl)
          have EQ := Lib.hid (nmG_link (n := i) hxx)
          clear ca hxx
          obtain ⟨tg, nm⟩ := x
          have x0 : wr.cell? ⟨g, o + j * 2, none⟩ = some (.string tg) := ra 0 _ rfl
          have x1 : wr.cell? ⟨g, o + j * 2 + 1, none⟩ = some (.string nm) := ra 1 _ rfl
          clear ra
          have z3 : nm.size ≤ maxLen := z2
          clear z2
          have AD := Lib.hid (fun W (h : SM W mb (i + j) (brF (nmG S i j))) => addE nm z3 (3, j) W h (by unfold maxLen; omega))
          clear z3
          go_upto_region 10 with (fail)
          have KC := KB.lit [.string tg, .string nm] 43
          have HS2 := HS.alloc (.cells #[.string tg, .string nm] 43)
          generalize wr.alloc (.cells #[.string tg, .string nm] 43) = V at *
          clear x0 x1 HS KB hg
          obtain ⟨_, y0, y1, _⟩ := KC.head.two
          have KD := KC.tail
          clear KC
          replace AD := Lib.hid (AD.out V HS2)
          clear HS2
          go_wp2_with (go_at_call 45; refine AD.out.mono ?_; clear AD; rintro e W2 ⟨rfl, HS3, hg3⟩)
          replace EQ : addG (nmG S i j) nm (3, j) = nmG S i (j + 1) := EQ.out
          rw [EQ] at HS3
          clear EQ
          have KE := KD.grown hg3 (by simp; omega) (by simp; omega)
          go_roundw
          case rel => exact ⟨j + 1, by omega, int_eqS (by omega), HS3, KE⟩
          case measure => simp only [intOf]; omega
        · obtain rfl : j = q := by omega
          rw [AL.out] at HS
          go_wp2
          go_ret
          exact ⟨mb, i + j, rfl, HS, by omega, SMA.out _ (Nat.le_refl _), KB.hb⟩
theorem linkI_row {S : Sr} {nm : ByteArray} {l : Nat} (h : linkI S nm = some l) : ∃ x, S.links[l]? = some x ∧ l < S.links.length := by
  obtain ⟨x, hx⟩ := linkI_at h
  exact ⟨x, hx, (List.getElem?_eq_some_iff.1 hx).1⟩
theorem zoneI_lt {S : Sr} {nm : ByteArray} {z : Nat} (h : zoneI S nm = some z) : z < S.zones.length := by
  obtain ⟨y, hy, _⟩ := zoneI_some h
  exact (List.getElem?_eq_some_iff.1 hy).1
def RetZI (w : World) (r : Option Nat) (e : Ending) (w' : World) : Prop := e = .returned (.tuple #[.int .i64 (r.getD 0), .bool r.isSome]) ∧ Below w.heap.size w w'
theorem zoneOfE (S : Sr) (C : Option Addr) (q e mb n : Nat) (nm : ByteArray) (hn : nm.size ≤ maxLen) (w : World) (hl : Rs 2 w C q e (S.links.map Lk.vals)) (hx : ∀ x ∈ S.links, x.in64) (small : S.zones.length ≤ 1000) (small2 : q ≤ 1000) (hm : SM w mb n (brF (nmA S))) : Calls Tryz.prog 21 #[.map (some mb), .slice C q e, .string nm] w (RetZI w (resR S nm)) := by
  have ll : S.links.length = q := by have := hl.len; simpa using this
  have HL := Lib.hid hl
  have LN := Lib.hid (fun (i : Nat) (x : Lk) (h : S.links[i]? = some x) => (hx _ (List.mem_of_getElem? h)).1)
  have R0 := Lib.hid (show resGo S (q + 1) nm = resR S nm from by unfold resR; rw [ll])
  have LL := Lib.hid ll
  have SZ := Lib.hid (fun (t : ByteArray) (z : Nat) (h : zoneI S t = some z) => Nat.lt_of_lt_of_le (zoneI_lt h) small)
  clear hl hx ll small
  generalize resR S nm = r at *
  go_enter Tryz.func21, Tryz.ntmps21
  go_wp2_with fail
  go_loopw [2, 13] (fun v2 v13 wr => ∃ (k : Nat) (cu : ByteArray), k ≤ q + 1 ∧ v13 = .int .i64 k ∧ v2 = .string cu ∧ cu.size ≤ maxLen ∧ Hid (resGo S (q + 1 - k) cu = r) ∧ SM wr mb n (brF (nmA S)) ∧ Below w.heap.size w wr) (fun _ v _ => q + 1 - (intOf v).toNat)
  case atStart => exact ⟨0, nm, by omega, rfl, rfl, hn, Lib.hid R0.out, hm, Below.refl _ _⟩
  case round =>
    clear hm R0
    obtain ⟨k, cu, hk, rfl, rfl, zc, HR, HS, hb⟩ := hrel
    by_cases h4 : k < q + 1
    · have e1 : q + 1 - k = (q - k) + 1 := by omega
      cases hz : zoneI S cu with
      | some z =>
        have LK := look_br 50 Tryz.underlying50 HS cu zc
        rw [nmA_zone hz] at LK
        have EQ := Lib.hid (show r = some z from by rw [← HR.out, e1]; exact resGo_zone hz _)
        have zs := SZ.out cu z hz
        clear hz HR e1 HS
        simp only [Option.getD, Option.isSome] at LK
        go_wp2
        go_ret2
        exact ⟨by rw [EQ.out]; rfl, by with_reducible first | exact hb.alloc hb.size _ | exact below_thru hb (below_box _ _)⟩
      | none =>
        cases hl : linkI S cu with
        | none =>
          have LK := look_br 50 Tryz.underlying50 HS cu zc
          rw [nmA_none hz hl] at LK
          have EQ := Lib.hid (show r = none from by rw [← HR.out, e1]; exact resGo_none hz hl _)
          clear hz hl HR e1 HS
          simp only [Option.getD, Option.isSome] at LK
          go_wp2
          go_ret2
          exact ⟨by rw [EQ.out]; rfl, below_thru hb (below_box _ _)⟩
        | some l =>
          have LK := look_br 50 Tryz.underlying50 HS cu zc
          rw [nmA_link hz hl] at LK
          obtain ⟨x, hxx, hlt⟩ := linkI_row hl
          have EQ := Lib.hid (show resGo S (q - k) x.target = r from by rw [← HR.out, e1]; exact (resGo_link hz hl hxx _).symm)
          rw [LL.out] at hlt
          have z2 := LN.out l x hxx
          clear hz hl HR
          obtain ⟨g, o, ea0, hg, ca⟩ := (HL.out.below hb).cells (by omega)
          subst ea0
          have ra := row_at ca (show (S.links.map Lk.vals)[l]? = some (Lk.vals x) by rw [List.getElem?_map, hxx]; rfl)
          clear ca hxx
          obtain ⟨tg, ln⟩ := x
          have x0 : wr.cell? ⟨g, o + l * 2, none⟩ = some (.string tg) := ra 0 _ rfl
          have z3 : tg.size ≤ maxLen := z2
          clear ra z2
          simp only [Option.getD, Option.isSome] at LK
          have HB := Lib.hid (below_thru hb (below_box wr (.cells #[.int .i64 3, .int .i64 l] 80)))
          have HM := Lib.hid (HS.alloc (.cells #[.int .i64 3, .int .i64 l] 80))
          have e2 : q + 1 - (k + 1) = q - k := by omega
          clear HS
          go_wp2
          go_roundw
          case rel => exact ⟨k + 1, tg, by omega, int_eqS (by omega), rfl, z3, Lib.hid (by rw [e2]; exact EQ.out), HM.out, HB.out⟩
          case measure => simp only [intOf]; omega
    · obtain rfl : k = q + 1 := by omega
      have EQ := Lib.hid (show r = none from by rw [← HR.out, Nat.sub_self]; rfl)
      clear HR
      go_wp2
      go_ret2
      exact ⟨by rw [EQ.out]; rfl, hb⟩
theorem resolveE (S : Sr) (a b c : Hd) (ze : List Ze) (nm : ByteArray) (hn : nm.size ≤ maxLen) (w : World) (hv : SrcV w S a b c ze) (hx : S.in64) (small : S.zones.length + S.links.length ≤ 1000) : Calls Tryz.prog 8 #[.agg #[a.val, b.val, c.val], .string nm] w (RetZI w (resR S nm)) := by
  have BC := Lib.hid (fun W (h : Below w.heap.size w W) => bearersE S a b c ze W (hv.below h) hx small)
  have ll : S.links.length = c.n := by have := hv.links.len; simpa using this
  have ZC := Lib.hid (fun W (h : Below w.heap.size w W) (mb n : Nat) (hm : SM W mb n (brF (nmA S))) => zoneOfE S c.a c.n c.c mb n nm hn W (hv.links.below h) hx.2.2 (by omega) (by omega) hm)
  clear hv hx small ll
  generalize resR S nm = r at *
  obtain ⟨A, n, k⟩ := a
  obtain ⟨B, m, d⟩ := b
  obtain ⟨C, q, e⟩ := c
  simp only [Hd.val] at *
  go_enter Tryz.func8, Tryz.ntmps8
  go_upto_region 1 with (fail)
  have KB := (BK.nil w).lit [.slice A n k, .slice B m d, .slice C q e] 26
  generalize w.alloc (.cells #[.slice A n k, .slice B m d, .slice C q e] 26) = W at *
  obtain ⟨_, x0, x1, x2, _⟩ := KB.head.three
  have hb0 := KB.hb
  go_region_held3 (fun w' => w'.cell? ⟨w.heap.size, 0, none⟩ = some (.slice A n k) ∧ w'.cell? ⟨w.heap.size, 1, none⟩ = some (.slice B m d) ∧ w'.cell? ⟨w.heap.size, 2, none⟩ = some (.slice C q e)) (first | (with_reducible exact ⟨x0, x1, x2⟩) | go_keep)
    (first
      | (go_at_call 20; (with_reducible refine (BC.out _ (by with_reducible first | exact hb0 | exact hb0.drew)).mono ?_); rintro e9 W9 ⟨mb, nn, rfl, HS, _, _, hk⟩; (with_reducible first | replace KB := KB.below hk | replace KB := KB.drew.below hk); (have hb1 := KB.hb); clear hk x0 x1 x2; obtain ⟨_, x0, x1, x2, _⟩ := KB.head.three)
      | (go_at_call 21; (with_reducible refine (ZC.out _ (by with_reducible first | exact hb1 | exact hb1.drew) mb nn (by with_reducible first | exact HS | exact HS.drew)).mono ?_); rintro e9 W10 ⟨rfl, hk⟩; (with_reducible first | replace KB := KB.below hk | replace KB := KB.drew.below hk); (have hb2 := KB.hb); clear hk x0 x1 x2; obtain ⟨_, x0, x1, x2, _⟩ := KB.head.three))
  all_goals
    go_wp2
    go_ret2
    exact ⟨rfl, by with_reducible first | exact hb2 | exact hb2.drew⟩
end Go.Proofs.YtmhpnmlgfdomkaaGreatDoor
