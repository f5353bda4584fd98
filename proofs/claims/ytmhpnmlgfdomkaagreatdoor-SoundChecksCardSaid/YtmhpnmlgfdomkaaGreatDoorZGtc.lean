import Derived.Test.YtmhpnmlgfdomkaaGreatDoorZGta
import Derived.Test.YtmhpnmlgfdomkaaGreatDoorZGyp
import Derived.Test.YtmhpnmlgfdomkaaGreatDoorZGf
import Derived.Test.YtmhpnmlgfdomkaaGreatDoorZGy
import Derived.Test.YtmhpnmlgfdomkaaGreatDoorZGe
import Derived.Lib.CutLaws
import Derived.Lib.IndexBytes
import Derived.Test.YtmhpnmlgfdomkaaGreatDoorZGtb
import Derived.Test.YtmhpnmlgfdomkaaGreatDoorZGec
import Derived.BigQuiet
import Derived.Deep.RegionHeld3
import Derived.Test.YtmhpnmlgfdomkaaGreatDoorZYon
set_option maxRecDepth 100000
set_option maxHeartbeats 64000000
namespace Go.Proofs.YtmhpnmlgfdomkaaGreatDoor
open Go.RowKit
structure ErasM (w : World) : Prop where
  lens : Lens w
  mlt : 0 < w.heap.size
  ml : ∃ m, w.cell? ⟨0, 0, none⟩ = some (.int .i64 m)
theorem ErasM.mono {w W : World} (T : ErasM w) (h : Below w.heap.size w W) : ErasM W := by
  constructor
  all_goals first
    | exact T.lens.mono h
    | exact T.pow.mono h
    | exact Nat.lt_of_lt_of_le T.mlt h.size
    | exact T.ml.imp fun _ e => (h.cell (p := ⟨0, 0, none⟩) T.mlt).trans e
theorem namedE (L : List Rl) (nm : ByteArray) (A B C : Option Addr) (n c m d q e : Nat) (w : World) (hm : RulV w A n c L) (small : n ≤ 900) : Calls Tryz.prog 57 #[.agg #[.slice A n c, .slice B m d, .slice C q e], .string nm] w (RetOwn w (setL L nm)) := by
  have LN := Lib.hid (show L.length = n by have := hm.len; simpa using this)
  have HA := Lib.hid hm
  clear hm
  go_enter Tryz.func57, Tryz.ntmps57
  go_upto_region 1 with (fail)
  have KB := blk_lit w 26 [.slice A n c, .slice B m d, .slice C q e]
  have hb0 := below_box w (.cells #[.slice A n c, .slice B m d, .slice C q e] 26)
  have ws : w.heap.size < (w.alloc (.cells #[.slice A n c, .slice B m d, .slice C q e] 26)).heap.size := by simp
  generalize w.alloc (.cells #[.slice A n c, .slice B m d, .slice C q e] 26) = W0 at *
  obtain ⟨_, x0, x1, x2, _⟩ := KB.three
  go_wp2_with fail
  clear x0 x1 x2 KB
  go_loopw [5, 11] (fun v5 v6 wr => ∃ (k : Nat) (v : Value) (l : List Rl), k ≤ n ∧ v5 = v ∧ v6 = .int .i64 k ∧ Hid (l = setL (L.take k) nm) ∧ l.length ≤ k ∧ OwnR wr W0.heap.size v l ∧ Below W0.heap.size W0 wr) (fun _ v _ => n - (intOf v).toNat)
  case atStart => exact ⟨0, _, [], by omega, rfl, rfl, Lib.hid rfl, Nat.le_refl _, OwnR.nil _ _, Below.refl _ _⟩
  case round =>
    obtain ⟨k, v, l, hk, hv, rfl, HR, hl, HO, hbel0⟩ := hrel
    replace hv := hv.symm
    subst hv
    have hbel := hb0.trans (hbel0.mono (Nat.le_of_lt ws))
    by_cases h4 : k < n
    · obtain ⟨x, hxx⟩ : ∃ x, L[k]? = some x := ⟨_, List.getElem?_eq_getElem (by rw [LN.out]; exact h4)⟩
      obtain ⟨g, o, ea0, hg, ca⟩ := (HA.out.below hbel).cells (by omega)
      subst ea0
      have ra := row_at ca (show (L.map Rl.vals)[k]? = some (Rl.vals x) by rw [List.getElem?_map, hxx]; rfl)
      have HN := setL_take (n := nm) hxx
      rw [← HR.out] at HN
      obtain ⟨X, hX⟩ : ∃ X, X = x := ⟨_, rfl⟩
      rw [← hX] at HN
      have HX := Lib.hid hX
      clear hX HR
      have HN := Lib.hid HN
      have q6 : (x.name.toList == nm.toList) = decide (X.name = nm) := by rw [toList_beqT, ← HX.out]
      obtain ⟨nn, fr, last, ⟨rmo, rki, rwd, rda, rti, rre⟩, save, le⟩ := x
      have y0 : wr.cell? ⟨g, o + k * 11, none⟩ = some (.string nn) := ra 0 _ rfl
      have y1 : wr.cell? ⟨g, o + k * 11 + 1, none⟩ = some (.int .i64 fr) := ra 1 _ rfl
      have y2 : wr.cell? ⟨g, o + k * 11 + 2, none⟩ = some (.int .i64 last) := ra 2 _ rfl
      have y3 : wr.cell? ⟨g, o + k * 11 + 3, none⟩ = some (.int .i64 rmo) := ra 3 _ rfl
      have y4 : wr.cell? ⟨g, o + k * 11 + 4, none⟩ = some (.int .i64 rki) := ra 4 _ rfl
      have y5 : wr.cell? ⟨g, o + k * 11 + 5, none⟩ = some (.int .i64 rwd) := ra 5 _ rfl
      have y6 : wr.cell? ⟨g, o + k * 11 + 6, none⟩ = some (.int .i64 rda) := ra 6 _ rfl
      have y7 : wr.cell? ⟨g, o + k * 11 + 7, none⟩ = some (.int .i64 rti) := ra 7 _ rfl
      have y8 : wr.cell? ⟨g, o + k * 11 + 8, none⟩ = some (.int .i64 rre) := ra 8 _ rfl
      have y9 : wr.cell? ⟨g, o + k * 11 + 9, none⟩ = some (.int .i64 save) := ra 9 _ rfl
      have y10 : wr.cell? ⟨g, o + k * 11 + 10, none⟩ = some (.string le) := ra 10 _ rfl
      replace q6 : (nn.toList == nm.toList) = decide (X.name = nm) := q6
      clear ca ra hxx
      go_upto_region 5 with (fail)
      have KR := blk_lit wr 36 [.string nn, .int .i64 fr, .int .i64 last, .int .i64 rmo, .int .i64 rki, .int .i64 rwd, .int .i64 rda, .int .i64 rti, .int .i64 rre, .int .i64 save, .string le]
      have hk0 := below_box wr (.cells #[.string nn, .int .i64 fr, .int .i64 last, .int .i64 rmo, .int .i64 rki, .int .i64 rwd, .int .i64 rda, .int .i64 rti, .int .i64 rre, .int .i64 save, .string le] 36)
      have hb1 := below_thru hbel0 hk0
      replace HO := OwnR.kept HO hk0
      have sz := hbel0.size
      clear hk0 y0 y1 y2 y3 y4 y5 y6 y7 y8 y9 y10 hg
      generalize wr.alloc (.cells #[.string nn, .int .i64 fr, .int .i64 last, .int .i64 rmo, .int .i64 rki, .int .i64 rwd, .int .i64 rda, .int .i64 rti, .int .i64 rre, .int .i64 save, .string le] 36) = W1 at *
      generalize wr.heap.size = bb at *
      obtain ⟨y0, y1, y2, y3, y4, y5, y6, y7, y8, y9, y10⟩ := KR.elevenC
      by_cases h6 : X.name = nm
      · have N2 := Lib.hid (show l ++ [X] = setL (L.take (k + 1)) nm from by have := HN.out; rw [if_pos h6] at this; exact this.symm)
        replace q6 : (nn.toList == nm.toList) = true := by rw [q6, decide_eq_true h6]
        clear HN h6
        have KN := blk_news (blk_lit W1 36 [.string nn, .int .i64 fr, .int .i64 last, .int .i64 rmo, .int .i64 rki, .int .i64 rwd, .int .i64 rda, .int .i64 rti, .int .i64 rre, .int .i64 save, .string le])
        have bx := below_box W1 (.cells #[.string nn, .int .i64 fr, .int .i64 last, .int .i64 rmo, .int .i64 rki, .int .i64 rwd, .int .i64 rda, .int .i64 rti, .int .i64 rre, .int .i64 save, .string le] 36)
        have HO2 := OwnR.kept HO bx
        have hb2 := below_thru hb1 bx
        have lt1 := fun r e => (World.ownsRow.lt HO r e).1
        go_upto_region 7 with (at_builtin; refine wpList_app11 _ rfl (.tmp 19) (.tmp 21) rfl W0.heap.size v l [X] rfl HO2 ⟨W1.heap.size, 0, none⟩ 1 1 rfl rfl (fun j u hu => KN j u (by rw [HX.out] at hu; exact hu)) (by show l.length + 1 ≤ 1000; omega) hb2.size ?_; intro v2 W2 O2 G2)
        have hb3 := hb2.grown G2 hb2.size lt1
        go_wp2
        go_roundw
        case rel => exact ⟨k + 1, v2, l ++ [X], by omega, rfl, int_eqS (by omega), N2, by rw [List.length_append, List.length_singleton]; omega, O2, hb3⟩
        case measure => simp only [intOf]; omega
      · have N2 := Lib.hid (show l = setL (L.take (k + 1)) nm from by have := HN.out; rw [if_neg h6] at this; exact this.symm)
        replace q6 : (nn.toList == nm.toList) = false := by rw [q6, decide_eq_false h6]
        clear HN h6
        go_wp2
        go_roundw
        case rel => exact ⟨k + 1, v, l, by omega, rfl, int_eqS (by omega), N2, by omega, HO, hb1⟩
        case measure => simp only [intOf]; omega
    · have Y := setL_end (nm := nm) LN.out h4
      rw [← HR.out] at Y
      replace Y := Lib.hid Y
      clear HR
      go_wp2
      go_ret
      exact ⟨_, rfl, by rw [← Y.out]; exact HO.low (Nat.le_of_lt ws), hbel⟩
def Er.xval (x : Er) (v : Value) : Value := .agg (x.vals ++ [v]).toArray
def FreshS (n : Nat) (X : Option Addr) : Prop := ∀ a, X = some a → ∃ g, a = ⟨g, 0, none⟩ ∧ n ≤ g
def RetX (w : World) (x : Er) (l : List Rl) (e : Ending) (w' : World) : Prop := ∃ X y, e = .returned (x.xval (.slice X l.length y)) ∧ RulV w' X l.length y l ∧ FreshS w.heap.size X ∧ Below w.heap.size w w'
theorem BK.open14 {w W : World} {L : List (Nat × List Value)} {b : Nat} {v0 v1 v2 v3 v4 v5 v6 v7 v8 v9 v10 v11 v12 v13 : Value} (h : BK w ((b, [v0, v1, v2, v3, v4, v5, v6, v7, v8, v9, v10, v11, v12, v13]) :: L) W) : W.cell? ⟨b, 0, none⟩ = some v0 ∧ W.cell? ⟨b, 1, none⟩ = some v1 ∧ W.cell? ⟨b, 2, none⟩ = some v2 ∧ W.cell? ⟨b, 3, none⟩ = some v3 ∧ W.cell? ⟨b, 4, none⟩ = some v4 ∧ W.cell? ⟨b, 5, none⟩ = some v5 ∧ W.cell? ⟨b, 6, none⟩ = some v6 ∧ W.cell? ⟨b, 7, none⟩ = some v7 ∧ W.cell? ⟨b, 8, none⟩ = some v8 ∧ W.cell? ⟨b, 9, none⟩ = some v9 ∧ W.cell? ⟨b, 10, none⟩ = some v10 ∧ W.cell? ⟨b, 11, none⟩ = some v11 ∧ W.cell? ⟨b, 12, none⟩ = some v12 ∧ W.cell? ⟨b, 13, none⟩ = some v13 := by
  obtain ⟨_, a0, a1, a2, a3, a4, a5, a6, a7, a8, a9, a10, a11, a12, a13, _⟩ := h.head.fourteen
  exact ⟨a0, a1, a2, a3, a4, a5, a6, a7, a8, a9, a10, a11, a12, a13⟩
theorem heap_setAll {b j : Nat} (h : j ≠ b) : ∀ (vs : List Value) (W : World) (i : Nat), (setAll W b i vs).heap[j]? = W.heap[j]?
  | [], _, _ => rfl
  | v :: vs, W, i => by
    unfold setAll
    rw [heap_setAll h vs]
    exact Below.heap_setCell W ⟨b, i, none⟩ v j h
theorem Rs.far {k : Nat} {W : World} {A : Option Addr} {n c : Nat} {l : List (List Value)} (h : Rs k W A n c l) {b : Nat} (ne : ∀ g, A = some ⟨g, 0, none⟩ → g ≠ b) (z : ∀ a, A = some a → ∃ g, a = ⟨g, 0, none⟩) (vs : List Value) : Rs k (setAll W b 0 vs) A n c l :=
  ⟨h.len, h.cap, h.max, fun hn => by
    obtain ⟨g, o, e, hg, ca⟩ := h.cells hn
    obtain ⟨g', e'⟩ := z _ e
    obtain ⟨rfl, rfl⟩ : g = g' ∧ o = 0 := by
      have := congrArg Addr.block e'
      have := congrArg Addr.off e'
      exact ⟨by assumption, by assumption⟩
    refine ⟨g, 0, e, by rw [size_setAll]; exact hg, fun i hi j u hu => ?_⟩
    exact (World.cell?_of_block (w := W) (a := ⟨g, 0 + i * k + j, none⟩) (heap_setAll (ne g e) vs W 0)).trans (ca i hi j u hu)⟩
theorem OwnR.zero {w : World} {base : Nat} {A : Option Addr} {n c : Nat} {l : List Rl} (h : OwnR w base (.slice A n c) l) : ∀ a, A = some a → ∃ g, a = ⟨g, 0, none⟩ := by
  intro a e
  subst e
  rcases h.2 with ⟨e, _⟩ | ⟨g, cap, cur, e, _⟩
  · cases e
  · cases e
    exact ⟨g, rfl⟩
theorem OwnR.block {w : World} {base : Nat} {A : Option Addr} {n c : Nat} {l : List Rl} (h : OwnR w base (.slice A n c) l) {g : Nat} (e : A = some ⟨g, 0, none⟩) : base ≤ g := by
  subst e
  exact (World.ownsRow.lt h g rfl).1
theorem OwnR.fresh {w : World} {base lo : Nat} {A : Option Addr} {n c : Nat} {l : List Rl} (h : OwnR w base (.slice A n c) l) (le : lo ≤ base) : FreshS lo A := fun a e => by
  obtain ⟨g, rfl⟩ := h.zero a e
  exact ⟨g, rfl, Nat.le_trans le (h.block e)⟩
theorem ws_core (A B C : Option Addr) (n c m d q e : Nat) (off kind sav : Int) (rs fmt : ByteArray) (til : Bool) (yr mo ki wd da ti re : Int) (l : List Rl) (w : World) (NM : Hid (∀ W, Below w.heap.size w W → Calls Tryz.prog 57 #[.agg #[.slice A n c, .slice B m d, .slice C q e], .string rs] W (RetOwn W l))) : Calls Tryz.prog 134 #[.agg #[.slice A n c, .slice B m d, .slice C q e], .agg #[.int .i64 off, .int .i64 kind, .int .i64 sav, .string rs, .string fmt, .bool til, .int .i64 yr, .int .i64 mo, .int .i64 ki, .int .i64 wd, .int .i64 da, .int .i64 ti, .int .i64 re]] w (fun e w' => ∃ X y, e = .returned (.agg #[.int .i64 off, .int .i64 kind, .int .i64 sav, .string rs, .string fmt, .bool til, .int .i64 yr, .int .i64 mo, .int .i64 ki, .int .i64 wd, .int .i64 da, .int .i64 ti, .int .i64 re, .slice X l.length y]) ∧ RulV w' X l.length y l ∧ FreshS w.heap.size X ∧ Below w.heap.size w w') := by
  go_enter Tryz.func134, Tryz.ntmps134
  go_upto_region 1 with (fail)
  have KB := (BK.nil w).lit [.slice A n c, .slice B m d, .slice C q e] 26
  replace KB := KB.lit [.int .i64 off, .int .i64 kind, .int .i64 sav, .string rs, .string fmt, .bool til, .int .i64 yr, .int .i64 mo, .int .i64 ki, .int .i64 wd, .int .i64 da, .int .i64 ti, .int .i64 re] 41
  replace KB := KB.lit [.int .i64 0, .int .i64 0, .int .i64 0, .string ⟨#[]⟩, .string ⟨#[]⟩, .bool false, .int .i64 0, .int .i64 0, .int .i64 0, .int .i64 0, .int .i64 0, .int .i64 0, .int .i64 0, .slice none 0 0] 138
  rw [show ([.int .i64 0, .int .i64 0, .int .i64 0, .string ⟨#[]⟩, .string ⟨#[]⟩, .bool false, .int .i64 0, .int .i64 0, .int .i64 0, .int .i64 0, .int .i64 0, .int .i64 0, .int .i64 0, .slice none 0 0] : List Value).toArray = #[.int .i64 0, .int .i64 0, .int .i64 0, .string ⟨#[]⟩, .string ⟨#[]⟩, .bool false, .int .i64 0, .int .i64 0, .int .i64 0, .int .i64 0, .int .i64 0, .int .i64 0, .int .i64 0, .slice none 0 0] from rfl] at KB
  generalize ((w.alloc (.cells #[.slice A n c, .slice B m d, .slice C q e] 26)).alloc (.cells #[.int .i64 off, .int .i64 kind, .int .i64 sav, .string rs, .string fmt, .bool til, .int .i64 yr, .int .i64 mo, .int .i64 ki, .int .i64 wd, .int .i64 da, .int .i64 ti, .int .i64 re] 41)).alloc (.cells #[.int .i64 0, .int .i64 0, .int .i64 0, .string ⟨#[]⟩, .string ⟨#[]⟩, .bool false, .int .i64 0, .int .i64 0, .int .i64 0, .int .i64 0, .int .i64 0, .int .i64 0, .int .i64 0, .slice none 0 0] 138) = W at *
  simp only [World.size_alloc] at *
  obtain ⟨y0, y1, y2, y3, y4, y5, y6, y7, y8, y9, y10, y11, y12⟩ := (KB.tail.head).thirteenC
  obtain ⟨_, x0, x1, x2, _⟩ := (KB.tail.tail.head).three
  have ne0 : w.heap.size + 1 + 1 ≠ w.heap.size := by omega
  have ne1 : w.heap.size ≠ w.heap.size + 1 + 1 := by omega
  go_region_held3 (fun w' => w'.cell? ⟨w.heap.size + 1, 0, none⟩ = some (.int .i64 off) ∧ w'.cell? ⟨w.heap.size + 1, 1, none⟩ = some (.int .i64 kind) ∧ w'.cell? ⟨w.heap.size + 1, 2, none⟩ = some (.int .i64 sav) ∧ w'.cell? ⟨w.heap.size + 1, 3, none⟩ = some (.string rs) ∧ w'.cell? ⟨w.heap.size + 1, 4, none⟩ = some (.string fmt) ∧ w'.cell? ⟨w.heap.size + 1, 5, none⟩ = some (.bool til) ∧ w'.cell? ⟨w.heap.size + 1, 6, none⟩ = some (.int .i64 yr) ∧ w'.cell? ⟨w.heap.size + 1, 7, none⟩ = some (.int .i64 mo) ∧ w'.cell? ⟨w.heap.size + 1, 8, none⟩ = some (.int .i64 ki) ∧ w'.cell? ⟨w.heap.size + 1, 9, none⟩ = some (.int .i64 wd) ∧ w'.cell? ⟨w.heap.size + 1, 10, none⟩ = some (.int .i64 da) ∧ w'.cell? ⟨w.heap.size + 1, 11, none⟩ = some (.int .i64 ti) ∧ w'.cell? ⟨w.heap.size + 1, 12, none⟩ = some (.int .i64 re) ∧ w'.cell? ⟨w.heap.size, 0, none⟩ = some (.slice A n c) ∧ w'.cell? ⟨w.heap.size, 1, none⟩ = some (.slice B m d) ∧ w'.cell? ⟨w.heap.size, 2, none⟩ = some (.slice C q e)) (first | (with_reducible exact ⟨(KB.tail.head).thirteenC.1, (KB.tail.head).thirteenC.2.1, (KB.tail.head).thirteenC.2.2.1, (KB.tail.head).thirteenC.2.2.2.1, (KB.tail.head).thirteenC.2.2.2.2.1, (KB.tail.head).thirteenC.2.2.2.2.2.1, (KB.tail.head).thirteenC.2.2.2.2.2.2.1, (KB.tail.head).thirteenC.2.2.2.2.2.2.2.1, (KB.tail.head).thirteenC.2.2.2.2.2.2.2.2.1, (KB.tail.head).thirteenC.2.2.2.2.2.2.2.2.2.1, (KB.tail.head).thirteenC.2.2.2.2.2.2.2.2.2.2.1, (KB.tail.head).thirteenC.2.2.2.2.2.2.2.2.2.2.2.1, (KB.tail.head).thirteenC.2.2.2.2.2.2.2.2.2.2.2.2, (KB.tail.tail.head).three.2.1, (KB.tail.tail.head).three.2.2.1, (KB.tail.tail.head).three.2.2.2.1⟩) | (with_reducible exact ⟨(KB.drew.tail.head).thirteenC.1, (KB.drew.tail.head).thirteenC.2.1, (KB.drew.tail.head).thirteenC.2.2.1, (KB.drew.tail.head).thirteenC.2.2.2.1, (KB.drew.tail.head).thirteenC.2.2.2.2.1, (KB.drew.tail.head).thirteenC.2.2.2.2.2.1, (KB.drew.tail.head).thirteenC.2.2.2.2.2.2.1, (KB.drew.tail.head).thirteenC.2.2.2.2.2.2.2.1, (KB.drew.tail.head).thirteenC.2.2.2.2.2.2.2.2.1, (KB.drew.tail.head).thirteenC.2.2.2.2.2.2.2.2.2.1, (KB.drew.tail.head).thirteenC.2.2.2.2.2.2.2.2.2.2.1, (KB.drew.tail.head).thirteenC.2.2.2.2.2.2.2.2.2.2.2.1, (KB.drew.tail.head).thirteenC.2.2.2.2.2.2.2.2.2.2.2.2, (KB.drew.tail.tail.head).three.2.1, (KB.drew.tail.tail.head).three.2.2.1, (KB.drew.tail.tail.head).three.2.2.2.1⟩) | go_keep)
    ((go_at_call 57; have lw := KB.head.lt; have hb0 := KB.hb; (with_reducible first | refine (NM.out _ KB.hb).mono ?_ | refine (NM.out _ KB.drew.hb).mono ?_); rintro e9 W9 ⟨v9, rfl, hw9, hk⟩; (with_reducible first | replace KB := KB.below hk | replace KB := KB.drew.below hk); clear hk; obtain ⟨A9, c9, rfl, hv9⟩ := hw9.rulv; have f9 := fun vs => Rs.far hv9 (fun g e => Nat.ne_of_gt (Nat.lt_of_lt_of_le lw (hw9.block e))) hw9.zero vs; have fr9 : FreshS w.heap.size A9 := hw9.fresh hb0.size; clear hw9 lw hb0; obtain ⟨lt, z0, z1, z2, z3, z4, z5, z6, z7, z8, z9, z10, z11, z12, z13, g0, g1, g2, g3, g4, g5, g6, g7, g8, g9, g10, g11, g12, g13⟩ := KB.head.fourteen))
  all_goals
    go_wp2
    have KF := KB.put14 (.int .i64 off) (.int .i64 kind) (.int .i64 sav) (.string rs) (.string fmt) (.bool til) (.int .i64 yr) (.int .i64 mo) (.int .i64 ki) (.int .i64 wd) (.int .i64 da) (.int .i64 ti) (.int .i64 re) (.slice A9 l.length c9) (by omega) (by intro y hy; simp only [List.mem_cons, List.not_mem_nil, or_false] at hy; rcases hy with rfl | rfl <;> (show ¬ _ = _; first | omega | (simp only []; omega)))
    obtain ⟨_, P0, P1, P2, P3, P4, P5, P6, P7, P8, P9, P10, P11, P12, P13, _⟩ := KF.head.fourteen
    exact bodyPost_ret (v := .agg #[.int .i64 off, .int .i64 kind, .int .i64 sav, .string rs, .string fmt, .bool til, .int .i64 yr, .int .i64 mo, .int .i64 ki, .int .i64 wd, .int .i64 da, .int .i64 ti, .int .i64 re, .slice A9 l.length c9]) (by simp [results, Tryz.results134, go_sem, P0, P1, P2, P3, P4, P5, P6, P7, P8, P9, P10, P11, P12, P13]) rfl ⟨A9, c9, rfl, f9 [.int .i64 off, .int .i64 kind, .int .i64 sav, .string rs, .string fmt, .bool til, .int .i64 yr, .int .i64 mo, .int .i64 ki, .int .i64 wd, .int .i64 da, .int .i64 ti, .int .i64 re, .slice A9 l.length c9], fr9, KF.hb⟩
theorem withSetE (L : List Rl) (x : Er) (A B C : Option Addr) (n c m d q e : Nat) (w : World) (hm : RulV w A n c L) (small : n ≤ 900) : Calls Tryz.prog 134 #[.agg #[.slice A n c, .slice B m d, .slice C q e], x.val] w (RetX w x (setL L x.rules)) := by
  obtain ⟨off, kind, sav, rs, fmt, til, yr, ⟨mo, ki, wd, da, ti, re⟩⟩ := x
  exact ws_core A B C n c m d q e off kind sav rs fmt til yr mo ki wd da ti re (setL L rs) w (Lib.hid fun W h => namedE L rs A B C n c m d q e W (hm.below h) small)
theorem noneE (off kind sav : Int) (rs fmt : ByteArray) (til : Bool) (yr mo ki wd da ti re : Int) (X : Option Addr) (h y : Nat) (fv : Value) (w : World) : Calls Tryz.prog 146 #[.agg #[.int .i64 off, .int .i64 kind, .int .i64 sav, .string rs, .string fmt, .bool til, .int .i64 yr, .int .i64 mo, .int .i64 ki, .int .i64 wd, .int .i64 da, .int .i64 ti, .int .i64 re, .slice X h y], fv] w (RetIS w (0, ⟨#[]⟩)) := by
  go_enter Tryz.func146, Tryz.ntmps146
  go_upto_region 1 with (fail)
  have KB := (BK.nil w).lit [.int .i64 off, .int .i64 kind, .int .i64 sav, .string rs, .string fmt, .bool til, .int .i64 yr, .int .i64 mo, .int .i64 ki, .int .i64 wd, .int .i64 da, .int .i64 ti, .int .i64 re, .slice X h y] 138
  generalize w.alloc (.cells #[.int .i64 off, .int .i64 kind, .int .i64 sav, .string rs, .string fmt, .bool til, .int .i64 yr, .int .i64 mo, .int .i64 ki, .int .i64 wd, .int .i64 da, .int .i64 ti, .int .i64 re, .slice X h y] 138) = W at *
  obtain ⟨x0, x1, x2, x3, x4, x5, x6, x7, x8, x9, x10, x11, x12, x13⟩ := KB.open14
  go_wp2
  exact bodyPost_ret (v := .tuple #[.int .i64 0, .string ⟨#[]⟩]) (by simp [results, Tryz.results146, go_sem]) rfl ⟨rfl, KB.hb⟩
theorem fixedE (off kind sav : Int) (rs fmt : ByteArray) (til : Bool) (yr mo ki wd da ti re : Int) (X : Option Addr) (h y : Nat) (fv : Value) (w : World) : Calls Tryz.prog 147 #[.agg #[.int .i64 off, .int .i64 kind, .int .i64 sav, .string rs, .string fmt, .bool til, .int .i64 yr, .int .i64 mo, .int .i64 ki, .int .i64 wd, .int .i64 da, .int .i64 ti, .int .i64 re, .slice X h y], fv] w (RetIS w (sav, ⟨#[]⟩)) := by
  go_enter Tryz.func147, Tryz.ntmps147
  go_upto_region 1 with (fail)
  have KB := (BK.nil w).lit [.int .i64 off, .int .i64 kind, .int .i64 sav, .string rs, .string fmt, .bool til, .int .i64 yr, .int .i64 mo, .int .i64 ki, .int .i64 wd, .int .i64 da, .int .i64 ti, .int .i64 re, .slice X h y] 138
  generalize w.alloc (.cells #[.int .i64 off, .int .i64 kind, .int .i64 sav, .string rs, .string fmt, .bool til, .int .i64 yr, .int .i64 mo, .int .i64 ki, .int .i64 wd, .int .i64 da, .int .i64 ti, .int .i64 re, .slice X h y] 138) = W at *
  obtain ⟨x0, x1, x2, x3, x4, x5, x6, x7, x8, x9, x10, x11, x12, x13⟩ := KB.open14
  go_wp2
  exact bodyPost_ret (v := .tuple #[.int .i64 sav, .string ⟨#[]⟩]) (by simp [results, Tryz.results147, go_sem]) rfl ⟨rfl, KB.hb⟩
theorem askEndE (X : Option Addr) (h y : Nat) (l : List Rl) (hf : fitL l) (a : Int) (ha : In64 a) (B : Nat) (w : World) (hl : RulV w X h y l) (L : Lens w) (hc : w.cell? ⟨B, 0, none⟩ = some (.int .i64 a)) : Calls Tryz.prog 136 #[.slice X h y, .pointer (some ⟨B, 0, none⟩)] w (RetIS w (((aheadO l a).getD Tn.zero).save, ((aheadO l a).getD Tn.zero).letter)) := by
  have AH := aheadAE l a ha X h y w hl L
  unfold aheadR at AH
  rw [if_pos (fit_yes.2 hf)] at AH
  replace AH := AH.mono fun _ _ r => tb_open r
  generalize (aheadO l a).isSome = tb at *
  generalize (aheadO l a).getD Tn.zero = t at *
  obtain ⟨ta, tr, ts, tl⟩ := t
  replace AH := Lib.hid AH
  clear hl L hf ha
  go_enter Tryz.func136, Tryz.ntmps136
  go_upto_region 2 with (go_at_call 137; refine AH.out.mono ?_; clear AH; rintro e9 W9 ⟨rfl, hk⟩)
  have KT := Blk.new4 W9 (.int .i64 ta) (.int .i64 tr) (.int .i64 ts) (.string tl) 95
  have hb := below_thru hk (below_box W9 (.cells #[.int .i64 ta, .int .i64 tr, .int .i64 ts, .string tl] 95))
  generalize W9.alloc (.cells #[.int .i64 ta, .int .i64 tr, .int .i64 ts, .string tl] 95) = W1 at *
  generalize W9.heap.size = q at *
  obtain ⟨_, z0, z1, z2, z3, _⟩ := KT.four
  clear hk
  go_wp2_with fail
  go_quiet (fail)
  rename_i nq
  go_wp2
  exact bodyPost_ret (v := .tuple #[.int .i64 ts, .string tl]) (by simp [results, Tryz.results136, go_sem]) rfl ⟨rfl, below_drewN hb _⟩
theorem brEndE (off kind sav : Int) (rs fmt : ByteArray) (til : Bool) (yr mo ki wd da ti re : Int) (X : Option Addr) (h y : Nat) (B : Nat) (p : Int × ByteArray) (w : World) (AK : Hid (∀ W, Below w.heap.size w W → Calls Tryz.prog 136 #[.slice X h y, .pointer (some ⟨B, 0, none⟩)] W (RetIS W p))) : Calls Tryz.prog 148 #[.agg #[.int .i64 off, .int .i64 kind, .int .i64 sav, .string rs, .string fmt, .bool til, .int .i64 yr, .int .i64 mo, .int .i64 ki, .int .i64 wd, .int .i64 da, .int .i64 ti, .int .i64 re, .slice X h y], .func (.func 136) #[] #[.pointer (some ⟨B, 0, none⟩)]] w (RetIS w p) := by
  obtain ⟨sv, le⟩ := p
  go_enter Tryz.func148, Tryz.ntmps148
  go_upto_region 1 with (fail)
  have KB := (BK.nil w).lit [.int .i64 off, .int .i64 kind, .int .i64 sav, .string rs, .string fmt, .bool til, .int .i64 yr, .int .i64 mo, .int .i64 ki, .int .i64 wd, .int .i64 da, .int .i64 ti, .int .i64 re, .slice X h y] 138
  generalize w.alloc (.cells #[.int .i64 off, .int .i64 kind, .int .i64 sav, .string rs, .string fmt, .bool til, .int .i64 yr, .int .i64 mo, .int .i64 ki, .int .i64 wd, .int .i64 da, .int .i64 ti, .int .i64 re, .slice X h y] 138) = W at *
  obtain ⟨x0, x1, x2, x3, x4, x5, x6, x7, x8, x9, x10, x11, x12, x13⟩ := KB.open14
  go_wp2_with (go_at_call 136; refine (AK.out _ KB.hb).mono ?_; clear AK; rintro e9 W9 ⟨rfl, hk⟩; replace KB := KB.below hk; clear hk)
  exact bodyPost_ret (v := .tuple #[.int .i64 sv, .string le]) (by simp [results, Tryz.results148, go_sem]) rfl ⟨rfl, KB.hb⟩
theorem svEnd0 (off sav : Int) (rs fmt : ByteArray) (til : Bool) (yr mo ki wd da ti re : Int) (X : Option Addr) (h y : Nat) (B : Nat) (p : Int × ByteArray) (w : World) (AK : Hid (∀ W, Below w.heap.size w W → Calls Tryz.prog 146 #[.agg #[.int .i64 off, .int .i64 0, .int .i64 sav, .string rs, .string fmt, .bool til, .int .i64 yr, .int .i64 mo, .int .i64 ki, .int .i64 wd, .int .i64 da, .int .i64 ti, .int .i64 re, .slice X h y], .func (.func 136) #[] #[.pointer (some ⟨B, 0, none⟩)]] W (RetIS W p))) : Calls Tryz.prog 135 #[.agg #[.int .i64 off, .int .i64 0, .int .i64 sav, .string rs, .string fmt, .bool til, .int .i64 yr, .int .i64 mo, .int .i64 ki, .int .i64 wd, .int .i64 da, .int .i64 ti, .int .i64 re, .slice X h y], .func (.func 136) #[] #[.pointer (some ⟨B, 0, none⟩)]] w (RetIS w p) := by
  obtain ⟨sv, le⟩ := p
  go_enter Tryz.func135, Tryz.ntmps135
  go_upto_region 2 with (fail)
  have KB := (BK.nil w).lit [.int .i64 off, .int .i64 0, .int .i64 sav, .string rs, .string fmt, .bool til, .int .i64 yr, .int .i64 mo, .int .i64 ki, .int .i64 wd, .int .i64 da, .int .i64 ti, .int .i64 re, .slice X h y] 138
  replace KB := KB.lit [.func (.func 146) #[] #[], .func (.func 147) #[] #[], .func (.func 148) #[] #[]] 163
  rw [show ([.func (.func 146) #[] #[], .func (.func 147) #[] #[], .func (.func 148) #[] #[]] : List Value).toArray = #[.func (.func 146) #[] #[], .func (.func 147) #[] #[], .func (.func 148) #[] #[]] from rfl] at KB
  simp only [World.size_alloc] at KB
  generalize (w.alloc (.cells #[.int .i64 off, .int .i64 0, .int .i64 sav, .string rs, .string fmt, .bool til, .int .i64 yr, .int .i64 mo, .int .i64 ki, .int .i64 wd, .int .i64 da, .int .i64 ti, .int .i64 re, .slice X h y] 138)).alloc (.cells #[.func (.func 146) #[] #[], .func (.func 147) #[] #[], .func (.func 148) #[] #[]] 163) = W at *
  obtain ⟨x0, x1, x2, x3, x4, x5, x6, x7, x8, x9, x10, x11, x12, x13⟩ := KB.tail.open14
  obtain ⟨_, z0, z1, z2, _⟩ := KB.head.three
  go_region_held3 (fun w' => w'.cell? ⟨w.heap.size + 1, 0, none⟩ = some (.func (.func 146) #[] #[]) ∧ w'.cell? ⟨w.heap.size, 0, none⟩ = some (.int .i64 off) ∧ w'.cell? ⟨w.heap.size, 1, none⟩ = some (.int .i64 0) ∧ w'.cell? ⟨w.heap.size, 2, none⟩ = some (.int .i64 sav) ∧ w'.cell? ⟨w.heap.size, 3, none⟩ = some (.string rs) ∧ w'.cell? ⟨w.heap.size, 4, none⟩ = some (.string fmt) ∧ w'.cell? ⟨w.heap.size, 5, none⟩ = some (.bool til) ∧ w'.cell? ⟨w.heap.size, 6, none⟩ = some (.int .i64 yr) ∧ w'.cell? ⟨w.heap.size, 7, none⟩ = some (.int .i64 mo) ∧ w'.cell? ⟨w.heap.size, 8, none⟩ = some (.int .i64 ki) ∧ w'.cell? ⟨w.heap.size, 9, none⟩ = some (.int .i64 wd) ∧ w'.cell? ⟨w.heap.size, 10, none⟩ = some (.int .i64 da) ∧ w'.cell? ⟨w.heap.size, 11, none⟩ = some (.int .i64 ti) ∧ w'.cell? ⟨w.heap.size, 12, none⟩ = some (.int .i64 re) ∧ w'.cell? ⟨w.heap.size, 13, none⟩ = some (.slice X h y)) (first | (with_reducible exact ⟨(KB.head).three.2.1, (KB.tail).open14.1, (KB.tail).open14.2.1, (KB.tail).open14.2.2.1, (KB.tail).open14.2.2.2.1, (KB.tail).open14.2.2.2.2.1, (KB.tail).open14.2.2.2.2.2.1, (KB.tail).open14.2.2.2.2.2.2.1, (KB.tail).open14.2.2.2.2.2.2.2.1, (KB.tail).open14.2.2.2.2.2.2.2.2.1, (KB.tail).open14.2.2.2.2.2.2.2.2.2.1, (KB.tail).open14.2.2.2.2.2.2.2.2.2.2.1, (KB.tail).open14.2.2.2.2.2.2.2.2.2.2.2.1, (KB.tail).open14.2.2.2.2.2.2.2.2.2.2.2.2.1, (KB.tail).open14.2.2.2.2.2.2.2.2.2.2.2.2.2⟩) | (with_reducible exact ⟨(KB.drew.head).three.2.1, (KB.drew.tail).open14.1, (KB.drew.tail).open14.2.1, (KB.drew.tail).open14.2.2.1, (KB.drew.tail).open14.2.2.2.1, (KB.drew.tail).open14.2.2.2.2.1, (KB.drew.tail).open14.2.2.2.2.2.1, (KB.drew.tail).open14.2.2.2.2.2.2.1, (KB.drew.tail).open14.2.2.2.2.2.2.2.1, (KB.drew.tail).open14.2.2.2.2.2.2.2.2.1, (KB.drew.tail).open14.2.2.2.2.2.2.2.2.2.1, (KB.drew.tail).open14.2.2.2.2.2.2.2.2.2.2.1, (KB.drew.tail).open14.2.2.2.2.2.2.2.2.2.2.2.1, (KB.drew.tail).open14.2.2.2.2.2.2.2.2.2.2.2.2.1, (KB.drew.tail).open14.2.2.2.2.2.2.2.2.2.2.2.2.2⟩) | go_keep)
    ((go_at_call 146; (with_reducible first | refine (AK.out _ KB.hb).mono ?_ | refine (AK.out _ KB.drew.hb).mono ?_); rintro e9 W9 ⟨rfl, hk⟩; (with_reducible first | replace KB := KB.below hk | replace KB := KB.drew.below hk); clear hk))
  all_goals
    go_wp2
    exact bodyPost_ret (v := .tuple #[.int .i64 sv, .string le]) (by simp [results, Tryz.results135, go_sem]) rfl ⟨rfl, by first | exact KB.hb | exact KB.drew.hb⟩
theorem svEnd1 (off sav : Int) (rs fmt : ByteArray) (til : Bool) (yr mo ki wd da ti re : Int) (X : Option Addr) (h y : Nat) (B : Nat) (p : Int × ByteArray) (w : World) (AK : Hid (∀ W, Below w.heap.size w W → Calls Tryz.prog 147 #[.agg #[.int .i64 off, .int .i64 1, .int .i64 sav, .string rs, .string fmt, .bool til, .int .i64 yr, .int .i64 mo, .int .i64 ki, .int .i64 wd, .int .i64 da, .int .i64 ti, .int .i64 re, .slice X h y], .func (.func 136) #[] #[.pointer (some ⟨B, 0, none⟩)]] W (RetIS W p))) : Calls Tryz.prog 135 #[.agg #[.int .i64 off, .int .i64 1, .int .i64 sav, .string rs, .string fmt, .bool til, .int .i64 yr, .int .i64 mo, .int .i64 ki, .int .i64 wd, .int .i64 da, .int .i64 ti, .int .i64 re, .slice X h y], .func (.func 136) #[] #[.pointer (some ⟨B, 0, none⟩)]] w (RetIS w p) := by
  obtain ⟨sv, le⟩ := p
  go_enter Tryz.func135, Tryz.ntmps135
  go_upto_region 2 with (fail)
  have KB := (BK.nil w).lit [.int .i64 off, .int .i64 1, .int .i64 sav, .string rs, .string fmt, .bool til, .int .i64 yr, .int .i64 mo, .int .i64 ki, .int .i64 wd, .int .i64 da, .int .i64 ti, .int .i64 re, .slice X h y] 138
  replace KB := KB.lit [.func (.func 146) #[] #[], .func (.func 147) #[] #[], .func (.func 148) #[] #[]] 163
  rw [show ([.func (.func 146) #[] #[], .func (.func 147) #[] #[], .func (.func 148) #[] #[]] : List Value).toArray = #[.func (.func 146) #[] #[], .func (.func 147) #[] #[], .func (.func 148) #[] #[]] from rfl] at KB
  simp only [World.size_alloc] at KB
  generalize (w.alloc (.cells #[.int .i64 off, .int .i64 1, .int .i64 sav, .string rs, .string fmt, .bool til, .int .i64 yr, .int .i64 mo, .int .i64 ki, .int .i64 wd, .int .i64 da, .int .i64 ti, .int .i64 re, .slice X h y] 138)).alloc (.cells #[.func (.func 146) #[] #[], .func (.func 147) #[] #[], .func (.func 148) #[] #[]] 163) = W at *
  obtain ⟨x0, x1, x2, x3, x4, x5, x6, x7, x8, x9, x10, x11, x12, x13⟩ := KB.tail.open14
  obtain ⟨_, z0, z1, z2, _⟩ := KB.head.three
  go_region_held3 (fun w' => w'.cell? ⟨w.heap.size + 1, 1, none⟩ = some (.func (.func 147) #[] #[]) ∧ w'.cell? ⟨w.heap.size, 0, none⟩ = some (.int .i64 off) ∧ w'.cell? ⟨w.heap.size, 1, none⟩ = some (.int .i64 1) ∧ w'.cell? ⟨w.heap.size, 2, none⟩ = some (.int .i64 sav) ∧ w'.cell? ⟨w.heap.size, 3, none⟩ = some (.string rs) ∧ w'.cell? ⟨w.heap.size, 4, none⟩ = some (.string fmt) ∧ w'.cell? ⟨w.heap.size, 5, none⟩ = some (.bool til) ∧ w'.cell? ⟨w.heap.size, 6, none⟩ = some (.int .i64 yr) ∧ w'.cell? ⟨w.heap.size, 7, none⟩ = some (.int .i64 mo) ∧ w'.cell? ⟨w.heap.size, 8, none⟩ = some (.int .i64 ki) ∧ w'.cell? ⟨w.heap.size, 9, none⟩ = some (.int .i64 wd) ∧ w'.cell? ⟨w.heap.size, 10, none⟩ = some (.int .i64 da) ∧ w'.cell? ⟨w.heap.size, 11, none⟩ = some (.int .i64 ti) ∧ w'.cell? ⟨w.heap.size, 12, none⟩ = some (.int .i64 re) ∧ w'.cell? ⟨w.heap.size, 13, none⟩ = some (.slice X h y)) (first | (with_reducible exact ⟨(KB.head).three.2.2.1, (KB.tail).open14.1, (KB.tail).open14.2.1, (KB.tail).open14.2.2.1, (KB.tail).open14.2.2.2.1, (KB.tail).open14.2.2.2.2.1, (KB.tail).open14.2.2.2.2.2.1, (KB.tail).open14.2.2.2.2.2.2.1, (KB.tail).open14.2.2.2.2.2.2.2.1, (KB.tail).open14.2.2.2.2.2.2.2.2.1, (KB.tail).open14.2.2.2.2.2.2.2.2.2.1, (KB.tail).open14.2.2.2.2.2.2.2.2.2.2.1, (KB.tail).open14.2.2.2.2.2.2.2.2.2.2.2.1, (KB.tail).open14.2.2.2.2.2.2.2.2.2.2.2.2.1, (KB.tail).open14.2.2.2.2.2.2.2.2.2.2.2.2.2⟩) | (with_reducible exact ⟨(KB.drew.head).three.2.2.1, (KB.drew.tail).open14.1, (KB.drew.tail).open14.2.1, (KB.drew.tail).open14.2.2.1, (KB.drew.tail).open14.2.2.2.1, (KB.drew.tail).open14.2.2.2.2.1, (KB.drew.tail).open14.2.2.2.2.2.1, (KB.drew.tail).open14.2.2.2.2.2.2.1, (KB.drew.tail).open14.2.2.2.2.2.2.2.1, (KB.drew.tail).open14.2.2.2.2.2.2.2.2.1, (KB.drew.tail).open14.2.2.2.2.2.2.2.2.2.1, (KB.drew.tail).open14.2.2.2.2.2.2.2.2.2.2.1, (KB.drew.tail).open14.2.2.2.2.2.2.2.2.2.2.2.1, (KB.drew.tail).open14.2.2.2.2.2.2.2.2.2.2.2.2.1, (KB.drew.tail).open14.2.2.2.2.2.2.2.2.2.2.2.2.2⟩) | go_keep)
    ((go_at_call 147; (with_reducible first | refine (AK.out _ KB.hb).mono ?_ | refine (AK.out _ KB.drew.hb).mono ?_); rintro e9 W9 ⟨rfl, hk⟩; (with_reducible first | replace KB := KB.below hk | replace KB := KB.drew.below hk); clear hk))
  all_goals
    go_wp2
    exact bodyPost_ret (v := .tuple #[.int .i64 sv, .string le]) (by simp [results, Tryz.results135, go_sem]) rfl ⟨rfl, by first | exact KB.hb | exact KB.drew.hb⟩
theorem svEnd2 (off sav : Int) (rs fmt : ByteArray) (til : Bool) (yr mo ki wd da ti re : Int) (X : Option Addr) (h y : Nat) (B : Nat) (p : Int × ByteArray) (w : World) (AK : Hid (∀ W, Below w.heap.size w W → Calls Tryz.prog 148 #[.agg #[.int .i64 off, .int .i64 2, .int .i64 sav, .string rs, .string fmt, .bool til, .int .i64 yr, .int .i64 mo, .int .i64 ki, .int .i64 wd, .int .i64 da, .int .i64 ti, .int .i64 re, .slice X h y], .func (.func 136) #[] #[.pointer (some ⟨B, 0, none⟩)]] W (RetIS W p))) : Calls Tryz.prog 135 #[.agg #[.int .i64 off, .int .i64 2, .int .i64 sav, .string rs, .string fmt, .bool til, .int .i64 yr, .int .i64 mo, .int .i64 ki, .int .i64 wd, .int .i64 da, .int .i64 ti, .int .i64 re, .slice X h y], .func (.func 136) #[] #[.pointer (some ⟨B, 0, none⟩)]] w (RetIS w p) := by
  obtain ⟨sv, le⟩ := p
  go_enter Tryz.func135, Tryz.ntmps135
  go_upto_region 2 with (fail)
  have KB := (BK.nil w).lit [.int .i64 off, .int .i64 2, .int .i64 sav, .string rs, .string fmt, .bool til, .int .i64 yr, .int .i64 mo, .int .i64 ki, .int .i64 wd, .int .i64 da, .int .i64 ti, .int .i64 re, .slice X h y] 138
  replace KB := KB.lit [.func (.func 146) #[] #[], .func (.func 147) #[] #[], .func (.func 148) #[] #[]] 163
  rw [show ([.func (.func 146) #[] #[], .func (.func 147) #[] #[], .func (.func 148) #[] #[]] : List Value).toArray = #[.func (.func 146) #[] #[], .func (.func 147) #[] #[], .func (.func 148) #[] #[]] from rfl] at KB
  simp only [World.size_alloc] at KB
  generalize (w.alloc (.cells #[.int .i64 off, .int .i64 2, .int .i64 sav, .string rs, .string fmt, .bool til, .int .i64 yr, .int .i64 mo, .int .i64 ki, .int .i64 wd, .int .i64 da, .int .i64 ti, .int .i64 re, .slice X h y] 138)).alloc (.cells #[.func (.func 146) #[] #[], .func (.func 147) #[] #[], .func (.func 148) #[] #[]] 163) = W at *
  obtain ⟨x0, x1, x2, x3, x4, x5, x6, x7, x8, x9, x10, x11, x12, x13⟩ := KB.tail.open14
  obtain ⟨_, z0, z1, z2, _⟩ := KB.head.three
  go_region_held3 (fun w' => w'.cell? ⟨w.heap.size + 1, 2, none⟩ = some (.func (.func 148) #[] #[]) ∧ w'.cell? ⟨w.heap.size, 0, none⟩ = some (.int .i64 off) ∧ w'.cell? ⟨w.heap.size, 1, none⟩ = some (.int .i64 2) ∧ w'.cell? ⟨w.heap.size, 2, none⟩ = some (.int .i64 sav) ∧ w'.cell? ⟨w.heap.size, 3, none⟩ = some (.string rs) ∧ w'.cell? ⟨w.heap.size, 4, none⟩ = some (.string fmt) ∧ w'.cell? ⟨w.heap.size, 5, none⟩ = some (.bool til) ∧ w'.cell? ⟨w.heap.size, 6, none⟩ = some (.int .i64 yr) ∧ w'.cell? ⟨w.heap.size, 7, none⟩ = some (.int .i64 mo) ∧ w'.cell? ⟨w.heap.size, 8, none⟩ = some (.int .i64 ki) ∧ w'.cell? ⟨w.heap.size, 9, none⟩ = some (.int .i64 wd) ∧ w'.cell? ⟨w.heap.size, 10, none⟩ = some (.int .i64 da) ∧ w'.cell? ⟨w.heap.size, 11, none⟩ = some (.int .i64 ti) ∧ w'.cell? ⟨w.heap.size, 12, none⟩ = some (.int .i64 re) ∧ w'.cell? ⟨w.heap.size, 13, none⟩ = some (.slice X h y)) (first | (with_reducible exact ⟨(KB.head).three.2.2.2.1, (KB.tail).open14.1, (KB.tail).open14.2.1, (KB.tail).open14.2.2.1, (KB.tail).open14.2.2.2.1, (KB.tail).open14.2.2.2.2.1, (KB.tail).open14.2.2.2.2.2.1, (KB.tail).open14.2.2.2.2.2.2.1, (KB.tail).open14.2.2.2.2.2.2.2.1, (KB.tail).open14.2.2.2.2.2.2.2.2.1, (KB.tail).open14.2.2.2.2.2.2.2.2.2.1, (KB.tail).open14.2.2.2.2.2.2.2.2.2.2.1, (KB.tail).open14.2.2.2.2.2.2.2.2.2.2.2.1, (KB.tail).open14.2.2.2.2.2.2.2.2.2.2.2.2.1, (KB.tail).open14.2.2.2.2.2.2.2.2.2.2.2.2.2⟩) | (with_reducible exact ⟨(KB.drew.head).three.2.2.2.1, (KB.drew.tail).open14.1, (KB.drew.tail).open14.2.1, (KB.drew.tail).open14.2.2.1, (KB.drew.tail).open14.2.2.2.1, (KB.drew.tail).open14.2.2.2.2.1, (KB.drew.tail).open14.2.2.2.2.2.1, (KB.drew.tail).open14.2.2.2.2.2.2.1, (KB.drew.tail).open14.2.2.2.2.2.2.2.1, (KB.drew.tail).open14.2.2.2.2.2.2.2.2.1, (KB.drew.tail).open14.2.2.2.2.2.2.2.2.2.1, (KB.drew.tail).open14.2.2.2.2.2.2.2.2.2.2.1, (KB.drew.tail).open14.2.2.2.2.2.2.2.2.2.2.2.1, (KB.drew.tail).open14.2.2.2.2.2.2.2.2.2.2.2.2.1, (KB.drew.tail).open14.2.2.2.2.2.2.2.2.2.2.2.2.2⟩) | go_keep)
    ((go_at_call 148; (with_reducible first | refine (AK.out _ KB.hb).mono ?_ | refine (AK.out _ KB.drew.hb).mono ?_); rintro e9 W9 ⟨rfl, hk⟩; (with_reducible first | replace KB := KB.below hk | replace KB := KB.drew.below hk); clear hk))
  all_goals
    go_wp2
    exact bodyPost_ret (v := .tuple #[.int .i64 sv, .string le]) (by simp [results, Tryz.results135, go_sem]) rfl ⟨rfl, by first | exact KB.hb | exact KB.drew.hb⟩
theorem pe_u (off kind sav : Int) (rs fmt : ByteArray) (til : Bool) (yr mo ki wd da ti re : Int) (X : Option Addr) (h y : Nat) (a : Int) (ob : Bool) (_l1 : -10000000000000 ≤ a) (_l2 : a ≤ 10000000000000) (_o1 : -86400 < off) (_o2 : off < 86400) (h2 : (re == 2) = true) (w : World) (LQ : ErasM w) (MO : Hid (∀ w W : World, ErasM w → Below w.heap.size w W → ErasM W)) (LO : Hid (∀ W, ErasM W → Calls Tryz.prog 132 #[.agg #[.int .i64 mo, .int .i64 ki, .int .i64 wd, .int .i64 da, .int .i64 ti, .int .i64 re], .int .i64 yr] W (RetNumB W a ob)))  : Calls Tryz.prog 117 #[.agg #[.int .i64 off, .int .i64 kind, .int .i64 sav, .string rs, .string fmt, .bool til, .int .i64 yr, .int .i64 mo, .int .i64 ki, .int .i64 wd, .int .i64 da, .int .i64 ti, .int .i64 re, .slice X h y]] w (RetV w (.int .i64 (a))) := by
  go_enter Tryz.func117, Tryz.ntmps117
  go_upto_region 1 with (fail)
  have KB := (BK.nil w).lit [.int .i64 off, .int .i64 kind, .int .i64 sav, .string rs, .string fmt, .bool til, .int .i64 yr, .int .i64 mo, .int .i64 ki, .int .i64 wd, .int .i64 da, .int .i64 ti, .int .i64 re, .slice X h y] 138
  generalize w.alloc (.cells #[.int .i64 off, .int .i64 kind, .int .i64 sav, .string rs, .string fmt, .bool til, .int .i64 yr, .int .i64 mo, .int .i64 ki, .int .i64 wd, .int .i64 da, .int .i64 ti, .int .i64 re, .slice X h y] 138) = W at *
  obtain ⟨x0, x1, x2, x3, x4, x5, x6, x7, x8, x9, x10, x11, x12, x13⟩ := KB.open14
  go_upto_region 2 with (go_at_call 132; refine (LO.out _ (MO.out _ _ LQ KB.hb)).mono ?_; clear LO; rintro e9 W9 ⟨rfl, hk⟩; replace KB := KB.below hk; clear hk; clear x0 x1 x2 x3 x4 x5 x6 x7 x8 x9 x10 x11 x12 x13; obtain ⟨x0, x1, x2, x3, x4, x5, x6, x7, x8, x9, x10, x11, x12, x13⟩ := KB.open14)
  replace KB := KB.lit [.int .i64 a] 2
  clear x0 x1 x2 x3 x4 x5 x6 x7 x8 x9 x10 x11 x12 x13
  generalize W9.alloc (.cells #[.int .i64 a] 2) = W1 at *
  generalize W9.heap.size = q at *
  obtain ⟨x0, x1, x2, x3, x4, x5, x6, x7, x8, x9, x10, x11, x12, x13⟩ := KB.tail.open14
  obtain ⟨_, z0, _⟩ := KB.head.one
  go_wp2
  go_ret
  exact ⟨rfl, KB.hb⟩
theorem pe_s (off kind sav : Int) (rs fmt : ByteArray) (til : Bool) (yr mo ki wd da ti re : Int) (X : Option Addr) (h y : Nat) (a : Int) (ob : Bool) (_l1 : -10000000000000 ≤ a) (_l2 : a ≤ 10000000000000) (_o1 : -86400 < off) (_o2 : off < 86400) (h2 : (re == 2) = false) (h1 : (re == 1) = true) (w : World) (LQ : ErasM w) (MO : Hid (∀ w W : World, ErasM w → Below w.heap.size w W → ErasM W)) (LO : Hid (∀ W, ErasM W → Calls Tryz.prog 132 #[.agg #[.int .i64 mo, .int .i64 ki, .int .i64 wd, .int .i64 da, .int .i64 ti, .int .i64 re], .int .i64 yr] W (RetNumB W a ob)))  : Calls Tryz.prog 117 #[.agg #[.int .i64 off, .int .i64 kind, .int .i64 sav, .string rs, .string fmt, .bool til, .int .i64 yr, .int .i64 mo, .int .i64 ki, .int .i64 wd, .int .i64 da, .int .i64 ti, .int .i64 re, .slice X h y]] w (RetV w (.int .i64 (a - off))) := by
  go_enter Tryz.func117, Tryz.ntmps117
  go_upto_region 1 with (fail)
  have KB := (BK.nil w).lit [.int .i64 off, .int .i64 kind, .int .i64 sav, .string rs, .string fmt, .bool til, .int .i64 yr, .int .i64 mo, .int .i64 ki, .int .i64 wd, .int .i64 da, .int .i64 ti, .int .i64 re, .slice X h y] 138
  generalize w.alloc (.cells #[.int .i64 off, .int .i64 kind, .int .i64 sav, .string rs, .string fmt, .bool til, .int .i64 yr, .int .i64 mo, .int .i64 ki, .int .i64 wd, .int .i64 da, .int .i64 ti, .int .i64 re, .slice X h y] 138) = W at *
  obtain ⟨x0, x1, x2, x3, x4, x5, x6, x7, x8, x9, x10, x11, x12, x13⟩ := KB.open14
  go_upto_region 2 with (go_at_call 132; refine (LO.out _ (MO.out _ _ LQ KB.hb)).mono ?_; clear LO; rintro e9 W9 ⟨rfl, hk⟩; replace KB := KB.below hk; clear hk; clear x0 x1 x2 x3 x4 x5 x6 x7 x8 x9 x10 x11 x12 x13; obtain ⟨x0, x1, x2, x3, x4, x5, x6, x7, x8, x9, x10, x11, x12, x13⟩ := KB.open14)
  replace KB := KB.lit [.int .i64 a] 2
  clear x0 x1 x2 x3 x4 x5 x6 x7 x8 x9 x10 x11 x12 x13
  generalize W9.alloc (.cells #[.int .i64 a] 2) = W1 at *
  generalize W9.heap.size = q at *
  obtain ⟨x0, x1, x2, x3, x4, x5, x6, x7, x8, x9, x10, x11, x12, x13⟩ := KB.tail.open14
  obtain ⟨_, z0, _⟩ := KB.head.one
  go_wp2
  go_ret
  exact ⟨rfl, KB.hb⟩
theorem pe_w (off kind sav : Int) (rs fmt : ByteArray) (til : Bool) (yr mo ki wd da ti re : Int) (X : Option Addr) (h y : Nat) (a : Int) (ob : Bool) (_l1 : -10000000000000 ≤ a) (_l2 : a ≤ 10000000000000) (_o1 : -86400 < off) (_o2 : off < 86400) (h2 : (re == 2) = false) (h1 : (re == 1) = false) (s : Int) (le : ByteArray) (_s1 : -43200 ≤ s) (_s2 : s ≤ 43200) (w : World) (LQ : ErasM w) (MO : Hid (∀ w W : World, ErasM w → Below w.heap.size w W → ErasM W)) (LO : Hid (∀ W, ErasM W → Calls Tryz.prog 132 #[.agg #[.int .i64 mo, .int .i64 ki, .int .i64 wd, .int .i64 da, .int .i64 ti, .int .i64 re], .int .i64 yr] W (RetNumB W a ob))) (SC : Hid (∀ B W, Below w.heap.size w W → W.cell? ⟨B, 0, none⟩ = some (.int .i64 a) → Calls Tryz.prog 135 #[.agg #[.int .i64 off, .int .i64 kind, .int .i64 sav, .string rs, .string fmt, .bool til, .int .i64 yr, .int .i64 mo, .int .i64 ki, .int .i64 wd, .int .i64 da, .int .i64 ti, .int .i64 re, .slice X h y], .func (.func 136) #[] #[.pointer (some ⟨B, 0, none⟩)]] W (RetIS W (s, le)))) : Calls Tryz.prog 117 #[.agg #[.int .i64 off, .int .i64 kind, .int .i64 sav, .string rs, .string fmt, .bool til, .int .i64 yr, .int .i64 mo, .int .i64 ki, .int .i64 wd, .int .i64 da, .int .i64 ti, .int .i64 re, .slice X h y]] w (RetV w (.int .i64 (a - off - s))) := by
  go_enter Tryz.func117, Tryz.ntmps117
  go_upto_region 1 with (fail)
  have KB := (BK.nil w).lit [.int .i64 off, .int .i64 kind, .int .i64 sav, .string rs, .string fmt, .bool til, .int .i64 yr, .int .i64 mo, .int .i64 ki, .int .i64 wd, .int .i64 da, .int .i64 ti, .int .i64 re, .slice X h y] 138
  generalize w.alloc (.cells #[.int .i64 off, .int .i64 kind, .int .i64 sav, .string rs, .string fmt, .bool til, .int .i64 yr, .int .i64 mo, .int .i64 ki, .int .i64 wd, .int .i64 da, .int .i64 ti, .int .i64 re, .slice X h y] 138) = W at *
  obtain ⟨x0, x1, x2, x3, x4, x5, x6, x7, x8, x9, x10, x11, x12, x13⟩ := KB.open14
  go_upto_region 2 with (go_at_call 132; refine (LO.out _ (MO.out _ _ LQ KB.hb)).mono ?_; clear LO; rintro e9 W9 ⟨rfl, hk⟩; replace KB := KB.below hk; clear hk; clear x0 x1 x2 x3 x4 x5 x6 x7 x8 x9 x10 x11 x12 x13; obtain ⟨x0, x1, x2, x3, x4, x5, x6, x7, x8, x9, x10, x11, x12, x13⟩ := KB.open14)
  replace KB := KB.lit [.int .i64 a] 2
  clear x0 x1 x2 x3 x4 x5 x6 x7 x8 x9 x10 x11 x12 x13
  generalize W9.alloc (.cells #[.int .i64 a] 2) = W1 at *
  generalize W9.heap.size = q at *
  obtain ⟨x0, x1, x2, x3, x4, x5, x6, x7, x8, x9, x10, x11, x12, x13⟩ := KB.tail.open14
  obtain ⟨_, z0, _⟩ := KB.head.one
  go_wp2_with (go_at_call 135; refine (SC.out _ _ KB.hb z0).mono ?_; clear SC; rintro e9 W10 ⟨rfl, hk⟩; replace KB := KB.below hk; clear hk; clear x0 x1 x2 x3 x4 x5 x6 x7 x8 x9 x10 x11 x12 x13 z0; obtain ⟨x0, x1, x2, x3, x4, x5, x6, x7, x8, x9, x10, x11, x12, x13⟩ := KB.tail.open14; obtain ⟨_, z0, _⟩ := KB.head.one)
  go_ret
  exact ⟨rfl, KB.hb⟩
theorem era_mono : Hid (∀ w W : World, ErasM w → Below w.heap.size w W → ErasM W) := Lib.hid fun _ _ t h => t.mono h
theorem endPE {L : List Rl} (hL : fitL L) (x : Er) (f : ErF x) (X : Option Addr) (y : Nat) (w : World) (hl : RulV w X (setL L x.rules).length y (setL L x.rules)) (T : ErasM w) : Calls Tryz.prog 117 #[x.xval (.slice X (setL L x.rules).length y)] w (RetV w (.int .i64 (endE L x))) := by
  have LO := fun W (t : ErasM W) => localMP x.sp x.year W t.lens
  have lb := loN_in x.sp x.year
  have ab := ahead_in hL f
  have f1 := f.o1
  have f2 := f.o2
  have fl := setL_fit hL x.rules
  have k1 := f.k1
  have k2 := f.k2
  have ks := f.ks
  have lin : In64 (loN x.sp x.year) := by unfold In64; omega
  unfold endE
  unfold aheadE at *
  rw [aheadSave_is] at *
  obtain ⟨off, kind, sav, rs, fmt, til, yr, ⟨mo, ki, wd, da, ti, re⟩⟩ := x
  replace k1 : 0 ≤ kind := k1
  replace k2 : kind ≤ 2 := k2
  replace ks : kind ≠ 1 → sav = 0 := ks
  generalize loN _ _ = a at *
  generalize decide (onOk _ _) = ob at *
  generalize setL L _ = l at *
  by_cases h : re = 2
  · rw [if_pos h]
    exact pe_u off kind sav rs fmt til yr mo ki wd da ti re X _ y a ob lb.1 lb.2 f1 f2 (by simp [h]) w T era_mono (Lib.hid LO)
  · rw [if_neg h]
    by_cases h1 : re = 1
    · rw [if_pos h1]
      exact pe_s off kind sav rs fmt til yr mo ki wd da ti re X _ y a ob lb.1 lb.2 f1 f2 (by simp [h]) (by simp [h1]) w T era_mono (Lib.hid LO)
    · rw [if_neg h1]
      by_cases h2 : kind = 2
      · subst h2
        rw [if_pos rfl] at ab ⊢
        exact pe_w off 2 sav rs fmt til yr mo ki wd da ti re X _ y a ob lb.1 lb.2 f1 f2 (by simp [h]) (by simp [h1]) _ ((aheadO l a).getD Tn.zero).letter ab.1 ab.2 w T era_mono (Lib.hid LO)
          (Lib.hid fun B W hb hc => svEnd2 off sav rs fmt til yr mo ki wd da ti re X _ y B _ W (Lib.hid fun W2 hb2 => brEndE off 2 sav rs fmt til yr mo ki wd da ti re X _ y B _ W2 (Lib.hid fun W3 hb3 =>
            have hb4 := below_thru hb2 hb3
            askEndE X _ y l fl a lin B W3 (hl.below (below_thru hb hb4)) (T.mono (below_thru hb hb4)).lens ((hb4.cell (p := ⟨B, 0, none⟩) (World.block_lt_of_cell? _ _ hc)).trans hc))))
      · rw [if_neg h2] at ab ⊢
        by_cases h3 : kind = 1
        · subst h3
          exact pe_w off 1 sav rs fmt til yr mo ki wd da ti re X _ y a ob lb.1 lb.2 f1 f2 (by simp [h]) (by simp [h1]) sav ⟨#[]⟩ ab.1 ab.2 w T era_mono (Lib.hid LO)
            (Lib.hid fun B W hb hc => svEnd1 off sav rs fmt til yr mo ki wd da ti re X _ y B _ W (Lib.hid fun W2 hb2 => fixedE off 1 sav rs fmt til yr mo ki wd da ti re X _ y _ W2))
        · obtain rfl : sav = 0 := ks h3
          obtain rfl : kind = 0 := by omega
          exact pe_w off 0 0 rs fmt til yr mo ki wd da ti re X _ y a ob lb.1 lb.2 f1 f2 (by simp [h]) (by simp [h1]) 0 ⟨#[]⟩ ab.1 ab.2 w T era_mono (Lib.hid LO)
            (Lib.hid fun B W hb hc => svEnd0 off 0 rs fmt til yr mo ki wd da ti re X _ y B _ W (Lib.hid fun W2 hb2 => noneE off 0 0 rs fmt til yr mo ki wd da ti re X _ y _ W2))
end Go.Proofs.YtmhpnmlgfdomkaaGreatDoor
