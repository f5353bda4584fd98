/- The document's answer of layer 13: what is wrong with an era. -/
import Derived.Test.YtmhpnmlgfdomkaaGreatDoorZGnf
import Derived.Test.YtmhpnmlgfdomkaaGreatDoorZGtb
set_option maxRecDepth 100000
set_option maxHeartbeats 64000000
namespace Go.Proofs.YtmhpnmlgfdomkaaGreatDoor
open Go.RowKit Go.Maps Go.WideShapes
theorem ed_11a {L : List Rl} {p : Option Er} {x : Er} {r : Rl} (h : x.kind = 2) (hr : r ∈ setL L x.rules) (k : ltD (x.off + r.save) = false) : eraErr L p x = 11 := by
  unfold eraErr
  rw [if_neg (fun c => by rw [c.2] at hr; cases hr), if_pos (.inl ⟨h, r, hr, ltD_is.1 k⟩)]
theorem ed_11b {L : List Rl} {p : Option Er} {x : Er} (h : ¬ (x.kind = 2 ∧ setL L x.rules = [])) (k : ltD (x.off + x.save) = false) : eraErr L p x = 11 := by
  unfold eraErr
  rw [if_neg h, if_pos (.inr (ltD_is.1 k))]
theorem ed_last {L : List Rl} {es : List Er} {i : Nat} {x : Er} (h : ¬ (x.kind = 2 ∧ setL L x.rules = [])) (h2 : x.kind = 2 → ∀ r ∈ setL L x.rules, ltD (x.off + r.save) = true) (k : ltD (x.off + x.save) = true) :
    (i = 0 → eraErr L (prevE es i) x = 0) ∧ (∀ y, 0 < i → es[i - 1]? = some y → eraErr L (prevE es i) x = if x.til = true ∧ endE L x ≤ endE L y then 16 else 0) := by
  have n2 : ¬ ((x.kind = 2 ∧ ∃ r ∈ setL L x.rules, beyond (x.off + r.save)) ∨ beyond (x.off + x.save)) := by
    rintro (⟨a, r, hr, b⟩ | b)
    · have := ltD_is.2 b; rw [h2 a r hr] at this; cases this
    · have := ltD_is.2 b; rw [k] at this; cases this
  refine ⟨fun e => ?_, fun y hi hy => ?_⟩
  · unfold eraErr prevE
    rw [if_neg h, if_neg n2, if_pos e]
  · unfold eraErr prevE
    rw [if_neg h, if_neg n2, if_neg (by omega), hy]
def EraC (W : World) (g o : Nat) (y : Er) : Prop := W.cell? ⟨g, o, none⟩ = some (.int .i64 y.off) ∧ W.cell? ⟨g, o + 1, none⟩ = some (.int .i64 y.kind) ∧ W.cell? ⟨g, o + 2, none⟩ = some (.int .i64 y.save) ∧ W.cell? ⟨g, o + 3, none⟩ = some (.string y.rules) ∧ W.cell? ⟨g, o + 4, none⟩ = some (.string y.fmt) ∧ W.cell? ⟨g, o + 5, none⟩ = some (.bool y.til) ∧ W.cell? ⟨g, o + 6, none⟩ = some (.int .i64 y.year) ∧
  W.cell? ⟨g, o + 7, none⟩ = some (.int .i64 y.sp.mo) ∧ W.cell? ⟨g, o + 8, none⟩ = some (.int .i64 y.sp.ki) ∧ W.cell? ⟨g, o + 9, none⟩ = some (.int .i64 y.sp.wd) ∧ W.cell? ⟨g, o + 10, none⟩ = some (.int .i64 y.sp.da) ∧ W.cell? ⟨g, o + 11, none⟩ = some (.int .i64 y.sp.ti) ∧ W.cell? ⟨g, o + 12, none⟩ = some (.int .i64 y.sp.re)
theorem era_c {W : World} {g o i : Nat} {es : List Er} {y : Er} (ca : ∀ (i : Nat) (h : i < (es.map Er.vals).length) (j : Nat) (u : Value), (es.map Er.vals)[i][j]? = some u → W.cell? ⟨g, o + i * 13 + j, none⟩ = some u) (h : es[i]? = some y) : EraC W g (o + i * 13) y := by
  have ra := row_at ca (show (es.map Er.vals)[i]? = some (Er.vals y) by rw [List.getElem?_map, h]; rfl)
  exact ⟨ra 0 _ rfl, ra 1 _ rfl, ra 2 _ rfl, ra 3 _ rfl, ra 4 _ rfl, ra 5 _ rfl, ra 6 _ rfl, ra 7 _ rfl, ra 8 _ rfl, ra 9 _ rfl, ra 10 _ rfl, ra 11 _ rfl, ra 12 _ rfl⟩
theorem eraDR (S : Sr) (a b c : Hd) (ze : List Ze) (w : World) (hv : SrcV w S a b c ze) (ok : S.ok) (p : Ze) (hp : p ∈ ze) (i : Nat) (x : Er) (hi : p.1.eras[i]? = some x) : Calls Tryz.prog 18 #[.agg #[a.val, b.val, c.val], .agg #[.string p.1.name, .slice p.2.a p.2.n p.2.c], .int .i64 i] w (RetV w (.int .i64 (eraErr S.rules (prevE p.1.eras i) x))) := by
  have hz : p.1 ∈ S.zones := by rw [← hv.all]; exact List.mem_map.2 ⟨p, hp, rfl⟩
  have zok := ok.2.2.2.2.1 p.1 hz
  have hE : Rs 13 w p.2.a p.2.n p.2.c (p.1.eras.map Er.vals) := hv.eras p hp
  have LN := Lib.hid (show p.1.eras.length = p.2.n by have := hE.len; simpa using this)
  have hin : i < p.2.n := by rw [← LN.out]; exact (List.getElem?_eq_some_iff.1 hi).1
  have mx : p.2.n ≤ 9223372036854775807 := Nat.le_trans hE.cap hE.max
  have hn : S.rules.length = a.n := by have := hv.rules.len; simpa using this
  have sm : a.n ≤ 200 := by rw [← hn]; exact ok.1
  have xm := List.mem_of_getElem? hi
  have xok := zok.2.2.1 x xm
  have EN := Lib.hid (fun (y : Er) (hy : y ∈ p.1.eras) W (hb : Below w.heap.size w W) => (show Calls Tryz.prog 41 #[.agg #[a.val, b.val, c.val], y.val] W (RetV W (.int .i64 (endE S.rules y))) from endDR (rules_fit ok) y (era_fit (zok.2.2.1 y hy)) a.a b.a c.a a.n a.c b.n b.c c.n c.c W (hv.rules.below hb) (by omega)))
  have EXX := Lib.hid (fun W hb => EN.out x xm W hb)
  have SC := Lib.hid (fun W (hb : Below w.heap.size w W) => (show Calls Tryz.prog 17 #[.agg #[a.val, b.val, c.val], .string x.rules] W (RetOwn W (setL S.rules x.rules)) from setDR S.rules x.rules a.a b.a c.a a.n a.c b.n b.c c.n c.c W (hv.rules.below hb) (by omega)))
  have SB := Lib.hid (fun r (h : r ∈ setL S.rules x.rules) => (setL_fit (rules_fit ok) x.rules r h).2.2.2)
  have OB := Lib.hid (show (-86400 < x.off ∧ x.off < 86400) ∧ (-43200 ≤ x.save ∧ x.save ≤ 43200) from ⟨xok.1, xok.2.1⟩)
  have E8 := Lib.hid (fun h => era_8 (L := S.rules) (p := prevE p.1.eras i) (x := x) h)
  have E11a := Lib.hid (fun (h : x.kind = 2) (r : Rl) (hr : r ∈ setL S.rules x.rules) k => ed_11a (L := S.rules) (p := prevE p.1.eras i) h hr k)
  have E11b := Lib.hid (fun h k => ed_11b (L := S.rules) (p := prevE p.1.eras i) (x := x) h k)
  have ELA := Lib.hid (fun h h2 k => ed_last (L := S.rules) (es := p.1.eras) (i := i) (x := x) h h2 k)
  have PV := Lib.hid (fun (h : i ≠ 0) => (show ∃ y, p.1.eras[i - 1]? = some y ∧ (∃ g o, p.2.a = some ⟨g, o, none⟩ ∧ g < w.heap.size ∧ ∀ W, Below w.heap.size w W → EraC W g (o + (i - 1) * 13) y) ∧ y ∈ p.1.eras from by
    have hl : i - 1 < p.1.eras.length := by rw [LN.out]; omega
    obtain ⟨g, o, e, hg, _⟩ := hE.cells (by omega)
    refine ⟨_, List.getElem?_eq_getElem hl, ⟨g, o, e, hg, fun W hb => ?_⟩, List.getElem_mem hl⟩
    obtain ⟨g', o', e', _, ca⟩ := (hE.below hb).cells (by omega)
    rw [e] at e'
    cases e'
    exact era_c ca (List.getElem?_eq_getElem hl)))
  have HE := Lib.hid hE
  have HI := Lib.hid hi
  clear hv ok hz zok hE hn sm xm xok hi
  generalize eraErr S.rules (prevE p.1.eras i) x = er at *
  generalize setL S.rules x.rules = l at *
  generalize endE S.rules x = eX at *
  obtain ⟨A, n, k⟩ := a
  obtain ⟨B, m, d⟩ := b
  obtain ⟨C, q, e⟩ := c
  obtain ⟨⟨zn, es⟩, ⟨ea, en, ec⟩⟩ := p
  simp only [Hd.val] at *
  go_enter Tryz.func18, Tryz.ntmps18
  go_upto_region 1 with (fail)
  have KB := ((BK.nil w).lit [.slice A n k, .slice B m d, .slice C q e] 26).lit [.string zn, .slice ea en ec] 39
  simp only [World.size_alloc] at *
  have wsz : ((w.alloc (.cells #[.slice A n k, .slice B m d, .slice C q e] 26)).alloc (.cells #[.string zn, .slice ea en ec] 39)).heap.size = w.heap.size + 2 := by simp
  generalize (w.alloc (.cells #[.slice A n k, .slice B m d, .slice C q e] 26)).alloc (.cells #[.string zn, .slice ea en ec] 39) = W at *
  obtain ⟨_, y0, y1, _⟩ := KB.head.two
  obtain ⟨g, o, ea0, hg, ca⟩ := (HE.out.below KB.hb).cells (by omega)
  subst ea0
  have ra := row_at ca (show (es.map Er.vals)[i]? = some (Er.vals x) by rw [List.getElem?_map, HI.out]; rfl)
  obtain ⟨off, kind, sav, rs, fmt, til, yr, ⟨mo, ki, wd, da, ti, re⟩⟩ := x
  have x0 : W.cell? ⟨g, o + i * 13, none⟩ = some (.int .i64 off) := ra 0 _ rfl
  have x1 : W.cell? ⟨g, o + i * 13 + 1, none⟩ = some (.int .i64 kind) := ra 1 _ rfl
  have x2 : W.cell? ⟨g, o + i * 13 + 2, none⟩ = some (.int .i64 sav) := ra 2 _ rfl
  have x3 : W.cell? ⟨g, o + i * 13 + 3, none⟩ = some (.string rs) := ra 3 _ rfl
  have x4 : W.cell? ⟨g, o + i * 13 + 4, none⟩ = some (.string fmt) := ra 4 _ rfl
  have x5 : W.cell? ⟨g, o + i * 13 + 5, none⟩ = some (.bool til) := ra 5 _ rfl
  have x6 : W.cell? ⟨g, o + i * 13 + 6, none⟩ = some (.int .i64 yr) := ra 6 _ rfl
  have x7 : W.cell? ⟨g, o + i * 13 + 7, none⟩ = some (.int .i64 mo) := ra 7 _ rfl
  have x8 : W.cell? ⟨g, o + i * 13 + 8, none⟩ = some (.int .i64 ki) := ra 8 _ rfl
  have x9 : W.cell? ⟨g, o + i * 13 + 9, none⟩ = some (.int .i64 wd) := ra 9 _ rfl
  have x10 : W.cell? ⟨g, o + i * 13 + 10, none⟩ = some (.int .i64 da) := ra 10 _ rfl
  have x11 : W.cell? ⟨g, o + i * 13 + 11, none⟩ = some (.int .i64 ti) := ra 11 _ rfl
  have x12 : W.cell? ⟨g, o + i * 13 + 12, none⟩ = some (.int .i64 re) := ra 12 _ rfl
  clear ra ca
  simp only at *
  obtain ⟨⟨o1, o2⟩, s1, s2⟩ := OB.out
  clear OB
  go_upto_region 2 with (fail)
  have KC := KB.lit [.int .i64 off, .int .i64 kind, .int .i64 sav, .string rs, .string fmt, .bool til, .int .i64 yr, .int .i64 mo, .int .i64 ki, .int .i64 wd, .int .i64 da, .int .i64 ti, .int .i64 re] 41
  generalize W.alloc (.cells #[.int .i64 off, .int .i64 kind, .int .i64 sav, .string rs, .string fmt, .bool til, .int .i64 yr, .int .i64 mo, .int .i64 ki, .int .i64 wd, .int .i64 da, .int .i64 ti, .int .i64 re] 41) = V at *
  rw [wsz] at KC
  clear x0 x1 x2 x3 x4 x5 x6 x7 x8 x9 x10 x11 x12 y0 y1 KB hg wsz
  have KB := KC
  clear KC
  replace EXX := Lib.hid (fun W hb => (show Calls Tryz.prog 41 #[.agg #[.slice A n k, .slice B m d, .slice C q e], .agg #[.int .i64 off, .int .i64 kind, .int .i64 sav, .string rs, .string fmt, .bool til, .int .i64 yr, .int .i64 mo, .int .i64 ki, .int .i64 wd, .int .i64 da, .int .i64 ti, .int .i64 re]] W (RetV W (.int .i64 eX)) from EXX.out W hb))
  by_cases hk : kind = 2
  · have d1 : (kind == 2) = true := by simp [hk]
    have HK := Lib.hid hk
    clear hk
    obtain ⟨_, x0, x1, x2, _⟩ := KB.tail.tail.head.three
    obtain ⟨z0, z1, z2, z3, z4, z5, z6, z7, z8, z9, z10, z11, z12⟩ := KB.head.thirteenC
    have SX := Lib.hid (SC.out V KB.hb)
    clear SC
    go_upto_region 4 with (go_at_call 17; refine SX.out.mono ?_; clear SX; rintro e9 V3 ⟨v9, rfl, hw9, hk9⟩)
    replace KB := KB.below hk9
    obtain ⟨X, yc, rfl, hvv⟩ := hw9.rulv
    clear hw9 hk9 x0 x1 x2 z0 z1 z2 z3 z4 z5 z6 z7 z8 z9 z10 z11 z12
    have cm : l.length ≤ yc := hvv.cap
    have cx : yc ≤ 9223372036854775807 := hvv.max
    by_cases hl : l = []
    · have e8 : er = 8 := E8.out ⟨HK.out, hl⟩
      have l0 : l.length = 0 := by rw [hl]; rfl
      clear E11a E11b ELA SB hvv
      subst e8
      have d2 : ((l.length : Int) == 0) = true := by rw [l0]; rfl
      go_wp2
      go_ret
      exact ⟨rfl, KB.hb⟩
    · have hnot : ¬ (kind = 2 ∧ l = []) := fun h => hl h.2
      have l0 : l.length ≠ 0 := fun h => hl (List.eq_nil_of_length_eq_zero h)
      have d2 : ((l.length : Int) == 0) = false := by simp; omega
      have d4 : ¬ (l.length : Int) = 0 := by omega
      have HLL := Lib.hid hl
      obtain ⟨ln, hln⟩ : ∃ ln, ln = l.length := ⟨_, rfl⟩
      rw [← hln] at d2 d4 hvv cm l0
      rw [← hln]
      have LLn := Lib.hid hln
      clear hl hln
      go_wp2_with fail
      clear d2 d4
      go_loopw [9] (fun v9 wr => ∃ t : Nat, t ≤ ln ∧ v9 = .int .i64 t ∧ Hid (∀ j r, j < t → l[j]? = some r → ltD (off + r.save) = true) ∧ RulV wr X ln yc l ∧ BK w [(w.heap.size + 2, [.int .i64 off, .int .i64 kind, .int .i64 sav, .string rs, .string fmt, .bool til, .int .i64 yr, .int .i64 mo, .int .i64 ki, .int .i64 wd, .int .i64 da, .int .i64 ti, .int .i64 re]), (w.heap.size + 1, [.string zn, .slice (some ⟨g, o, none⟩) en ec]), (w.heap.size, [.slice A n k, .slice B m d, .slice C q e])] wr) (fun v _ => ln - (intOf v).toNat)
      case atStart => exact ⟨0, by omega, rfl, Lib.hid (fun j r h => absurd h (by omega)), hvv, KB⟩
      case round =>
        clear hvv KB
        obtain ⟨t, ht, rfl, HM, hvv, KB⟩ := hrel
        by_cases h4 : t < ln
        · obtain ⟨r, hrr⟩ : ∃ r, l[t]? = some r := ⟨_, List.getElem?_eq_getElem (by rw [← LLn.out]; exact h4)⟩
          obtain ⟨g2, o2, ea0, hg2, ca⟩ := hvv.cells (by omega)
          subst ea0
          have ra := row_at ca (show (l.map Rl.vals)[t]? = some (Rl.vals r) by rw [List.getElem?_map, hrr]; rfl)
          have y9 : wr.cell? ⟨g2, o2 + t * 11 + 9, none⟩ = some (.int .i64 r.save) := ra 9 _ rfl
          have rm := List.mem_of_getElem? hrr
          obtain ⟨b1, b2⟩ := SB.out r rm
          have BAD := Lib.hid (fun k => E11a.out HK.out r rm k)
          have GOOD := Lib.hid (fun (k9 : ltD (off + r.save) = true) => (show ∀ j r', j < t + 1 → l[j]? = some r' → ltD (off + r'.save) = true from fun j r' hj hr' => by
            by_cases c9 : j = t
            · subst c9
              rw [hrr] at hr'
              obtain rfl := Option.some.inj hr'
              exact k9
            · exact HM.out j r' (by omega) hr'))
          have HRR := Lib.hid hrr
          clear ca ra hrr rm
          have RC := Lib.hid (fun W (h : RulV W (some ⟨g2, o2, none⟩) ln yc l) => (show W.cell? ⟨g2, o2 + t * 11 + 9, none⟩ = some (.int .i64 r.save) from by
            obtain ⟨g3, o3, e3, _, ca3⟩ := h.cells (by omega)
            cases e3
            exact row_at ca3 (show (l.map Rl.vals)[t]? = some (Rl.vals r) by rw [List.getElem?_map, HRR.out]; rfl) 9 _ rfl))
          have HV := Lib.hid (fun W (h : Below wr.heap.size wr W) => (show RulV W (some ⟨g2, o2, none⟩) ln yc l from Rs.below hvv h))
          have HW := Lib.hid (fun W (h : Below wr.drew.heap.size wr.drew W) => (show RulV W (some ⟨g2, o2, none⟩) ln yc l from Rs.below (Rs.below hvv (Below.refl _ _).drew) h))
          clear HRR
          generalize r.save = rsv at *
          have wr9 : IntKind.i64.wrap (off + rsv) = off + rsv := IntWalk.i64_in _ (by omega)
          have z0 := KB.head.cs.1
          cases hd : ltD (off + rsv) with
          | false =>
            have e9 : er = 11 := BAD.out hd
            have BE := Lib.hid (fun W (_ : True) => (show Calls Tryz.prog 40 #[.int .i64 (off + rsv)] W (RetV W (.bool true)) from by have t9 := beyondDR (off + rsv) W; rw [hd] at t9; exact t9))
            clear hd BAD GOOD HM E8 E11a E11b ELA
            subst e9
            go_wp2_with fail
            go_region_held3 (fun w' => w'.cell? ⟨w.heap.size + 2, 0, none⟩ = some (.int .i64 off) ∧ w'.cell? ⟨g2, o2 + t * 11 + 9, none⟩ = some (.int .i64 rsv)) (first | (with_reducible exact ⟨z0, y9⟩) | go_keep)
              (first
                | (go_at_call 40; (with_reducible refine (BE.out _ trivial).mono ?_); rintro e9 U9 ⟨rfl, hk9⟩; (with_reducible first | (replace KB := KB.below hk9; replace hvv := HV.out _ hk9) | (replace KB := KB.drew.below hk9; replace hvv := HW.out _ hk9)); clear hk9 z0 y9; (have z0 := KB.head.cs.1); (have y9 := RC.out U9 hvv)))
            all_goals
              have HB : Below w.heap.size w _ := KB.hb
              go_wp2
              go_ret
              exact ⟨rfl, by with_reducible first | exact HB | exact HB.drew⟩
          | true =>
            have H3 := Lib.hid (GOOD.out hd)
            have BE := Lib.hid (fun W (_ : True) => (show Calls Tryz.prog 40 #[.int .i64 (off + rsv)] W (RetV W (.bool false)) from by have t9 := beyondDR (off + rsv) W; rw [hd] at t9; exact t9))
            clear hd BAD GOOD HM
            go_wp2_with fail
            go_region_held3 (fun w' => w'.cell? ⟨w.heap.size + 2, 0, none⟩ = some (.int .i64 off) ∧ w'.cell? ⟨g2, o2 + t * 11 + 9, none⟩ = some (.int .i64 rsv)) (first | (with_reducible exact ⟨z0, y9⟩) | go_keep)
              (first
                | (go_at_call 40; (with_reducible refine (BE.out _ trivial).mono ?_); rintro e9 U9 ⟨rfl, hk9⟩; (with_reducible first | (replace KB := KB.below hk9; replace hvv := HV.out _ hk9) | (replace KB := KB.drew.below hk9; replace hvv := HW.out _ hk9)); clear hk9 z0 y9; (have z0 := KB.head.cs.1); (have y9 := RC.out U9 hvv)))
            all_goals
              go_wp2_with fail
              go_roundw
              case rel => with_reducible first | exact ⟨t + 1, by omega, int_eqS (by omega), H3, hvv, KB⟩ | exact ⟨t + 1, by omega, int_eqS (by omega), H3, hvv.below (Below.refl _ _).drew, KB.drew⟩
              case measure => simp only [intOf]; omega
        · obtain rfl : t = ln := by omega
          have H2 := Lib.hid (show kind = 2 → ∀ r ∈ l, ltD (off + r.save) = true from fun _ r hr => by
            obtain ⟨j, hj, e9⟩ := List.getElem_of_mem hr
            exact HM.out j r (by rw [LLn.out]; exact hj) (by rw [← e9]; exact List.getElem?_eq_getElem hj))
          clear HM hvv
          have KBX := KB
          clear KB
          have KB := KBX
          clear KBX
          go_upto_region 11 with (fail)
          obtain ⟨z0, z1, z2, z3, z4, z5, z6, z7, z8, z9, z10, z11, z12⟩ := KB.head.thirteenC
          cases hd : ltD (off + sav) with
          | false =>
            have e9 : er = 11 := E11b.out hnot hd
            have BE := Lib.hid (fun W (_ : True) => (show Calls Tryz.prog 40 #[.int .i64 (off + sav)] W (RetV W (.bool true)) from by have t := beyondDR (off + sav) W; rw [hd] at t; exact t))
            clear hd
            subst e9
            go_wp2_with (go_at_call 40; refine (BE.out _ trivial).mono ?_; rintro e9 U9 ⟨rfl, hk9⟩; replace KB := KB.below hk9; clear hk9 z0 z1 z2 z3 z4 z5 z6 z7 z8 z9 z10 z11 z12)
            go_ret
            exact ⟨rfl, KB.hb⟩
          | true =>
            obtain ⟨L0, L1⟩ := ELA.out hnot H2.out hd
            have BE := Lib.hid (fun W (_ : True) => (show Calls Tryz.prog 40 #[.int .i64 (off + sav)] W (RetV W (.bool false)) from by have t := beyondDR (off + sav) W; rw [hd] at t; exact t))
            clear hd
            go_upto_region 13 with (go_at_call 40; refine (BE.out _ trivial).mono ?_; rintro e9 U9 ⟨rfl, hk9⟩; replace KB := KB.below hk9; clear hk9 z0 z1 z2 z3 z4 z5 z6 z7 z8 z9 z10 z11 z12 BE)
            obtain ⟨z0, z1, z2, z3, z4, z5, z6, z7, z8, z9, z10, z11, z12⟩ := KB.head.thirteenC
            by_cases hi0 : i = 0
            · have e9 : er = 0 := L0 hi0
              have d1 : decide ((i : Int) > 0) = false := decide_eq_false (by omega)
              clear L0 L1
              subst e9
              go_quiet (fail)
              rename_i nq
              go_wp2
              go_ret
              exact ⟨rfl, below_drewN KB.hb _⟩
            · obtain ⟨y, hy, hye, hym⟩ := PV.out hi0
              have L2 := L1 y (by omega) hy
              have d1 : decide ((i : Int) > 0) = true := decide_eq_true (by omega)
              have d2 : decide (0 < i) = true := decide_eq_true (by omega)
              have d4 : 0 < i := by omega
              clear L0 L1
              cases til with
              | false =>
                have e9 : er = 0 := by rw [L2, if_neg (by simp)]
                clear L2
                subst e9
                go_quiet (fail)
                rename_i nq
                go_wp2
                go_ret
                exact ⟨rfl, below_drewN KB.hb _⟩
              | true =>
                have EY := Lib.hid (fun W hb => EN.out y hym W hb)
                obtain ⟨yg, yo, eg, ylt, ycs⟩ := hye
                obtain ⟨_, x0, x1, x2, _⟩ := KB.tail.tail.head.three
                obtain ⟨_, u0, u1, _⟩ := KB.tail.head.two
                have YC := Lib.hid (fun W (hb : Below w.heap.size w W) => ycs W hb)
                clear ycs
                generalize endE S.rules y = eY at *
                have EX := Lib.hid (fun W hb => EXX.out W hb)
                obtain ⟨yoff, ykind, ysav, yrs, yfmt, ytil, yyr, ⟨ymo, yki, ywd, yda, yti, yre⟩⟩ := y
                replace EY := Lib.hid (fun W hb => (show Calls Tryz.prog 41 #[.agg #[.slice A n k, .slice B m d, .slice C q e], .agg #[.int .i64 yoff, .int .i64 ykind, .int .i64 ysav, .string yrs, .string yfmt, .bool ytil, .int .i64 yyr, .int .i64 ymo, .int .i64 yki, .int .i64 ywd, .int .i64 yda, .int .i64 yti, .int .i64 yre]] W (RetV W (.int .i64 eY)) from EY.out W hb))
                cases eg
                clear d1 d2 d4
                obtain ⟨jj, hjj⟩ : ∃ jj, i = jj + 1 := ⟨i - 1, by omega⟩
                subst hjj
                replace YC := Lib.hid (fun W hb => (show EraC W g (o + jj * 13) ⟨yoff, ykind, ysav, yrs, yfmt, ytil, yyr, ⟨ymo, yki, ywd, yda, yti, yre⟩⟩ from YC.out W hb))
                obtain ⟨t0, t1, t2, t3, t4, t5, t6, t7, t8, t9, t10, t11, t12⟩ := YC.out _ KB.hb
                have d1 : decide (((jj + 1 : Nat) : Int) > 0) = true := decide_eq_true (by omega)
                have d2 : decide ((jj : Int) + 1 > 0) = true := decide_eq_true (by omega)
                have d4 : decide ((0 : Int) < (jj : Int) + 1) = true := decide_eq_true (by omega)
                have i0 : (0 : Int) ≤ (jj : Int) := by omega
                have i1 : (jj : Int) < (en : Int) := by omega
                have i2 : jj < en := by omega
                have wr1 : IntKind.i64.wrap ((jj : Int) + 1 - 1) = (jj : Int) + 1 - 1 := IntWalk.i64_in _ (by omega)
                have wr2 : IntKind.i64.wrap (jj : Int) = (jj : Int) := IntWalk.i64_in _ (by omega)
                have e9 : er = if eX ≤ eY then 16 else 0 := by
                  rw [L2]
                  by_cases hle : eX ≤ eY
                  · rw [if_pos ⟨rfl, hle⟩, if_pos hle]
                  · rw [if_neg (fun c => hle c.2), if_neg hle]
                clear L2
                obtain ⟨fb, hfb⟩ : ∃ fb : Bool, fb = decide (eX ≤ eY) := ⟨_, rfl⟩
                have E9 := Lib.hid (show er = if fb = true then 16 else 0 by rw [e9, hfb]; by_cases c : eX ≤ eY <;> simp [c])
                have d3 : decide (eX ≤ eY) = fb := hfb.symm
                clear e9 hfb
                go_region_held3 (fun w' => w'.cell? ⟨w.heap.size, 0, none⟩ = some (.slice A n k) ∧ w'.cell? ⟨w.heap.size, 1, none⟩ = some (.slice B m d) ∧ w'.cell? ⟨w.heap.size, 2, none⟩ = some (.slice C q e) ∧ w'.cell? ⟨w.heap.size + 1, 1, none⟩ = some (.slice (some ⟨g, o, none⟩) en ec) ∧ w'.cell? ⟨w.heap.size + 2, 0, none⟩ = some (.int .i64 off) ∧ w'.cell? ⟨w.heap.size + 2, 1, none⟩ = some (.int .i64 kind) ∧ w'.cell? ⟨w.heap.size + 2, 2, none⟩ = some (.int .i64 sav) ∧ w'.cell? ⟨w.heap.size + 2, 3, none⟩ = some (.string rs) ∧ w'.cell? ⟨w.heap.size + 2, 4, none⟩ = some (.string fmt) ∧ w'.cell? ⟨w.heap.size + 2, 5, none⟩ = some (.bool true) ∧ w'.cell? ⟨w.heap.size + 2, 6, none⟩ = some (.int .i64 yr) ∧ w'.cell? ⟨w.heap.size + 2, 7, none⟩ = some (.int .i64 mo) ∧ w'.cell? ⟨w.heap.size + 2, 8, none⟩ = some (.int .i64 ki) ∧ w'.cell? ⟨w.heap.size + 2, 9, none⟩ = some (.int .i64 wd) ∧ w'.cell? ⟨w.heap.size + 2, 10, none⟩ = some (.int .i64 da) ∧ w'.cell? ⟨w.heap.size + 2, 11, none⟩ = some (.int .i64 ti) ∧ w'.cell? ⟨w.heap.size + 2, 12, none⟩ = some (.int .i64 re) ∧ w'.cell? ⟨g, o + jj * 13, none⟩ = some (.int .i64 yoff) ∧ w'.cell? ⟨g, o + jj * 13 + 1, none⟩ = some (.int .i64 ykind) ∧ w'.cell? ⟨g, o + jj * 13 + 2, none⟩ = some (.int .i64 ysav) ∧ w'.cell? ⟨g, o + jj * 13 + 3, none⟩ = some (.string yrs) ∧ w'.cell? ⟨g, o + jj * 13 + 4, none⟩ = some (.string yfmt) ∧ w'.cell? ⟨g, o + jj * 13 + 5, none⟩ = some (.bool ytil) ∧ w'.cell? ⟨g, o + jj * 13 + 6, none⟩ = some (.int .i64 yyr) ∧ w'.cell? ⟨g, o + jj * 13 + 7, none⟩ = some (.int .i64 ymo) ∧ w'.cell? ⟨g, o + jj * 13 + 8, none⟩ = some (.int .i64 yki) ∧ w'.cell? ⟨g, o + jj * 13 + 9, none⟩ = some (.int .i64 ywd) ∧ w'.cell? ⟨g, o + jj * 13 + 10, none⟩ = some (.int .i64 yda) ∧ w'.cell? ⟨g, o + jj * 13 + 11, none⟩ = some (.int .i64 yti) ∧ w'.cell? ⟨g, o + jj * 13 + 12, none⟩ = some (.int .i64 yre)) (first | (with_reducible exact ⟨x0, x1, x2, u1, z0, z1, z2, z3, z4, z5, z6, z7, z8, z9, z10, z11, z12, t0, t1, t2, t3, t4, t5, t6, t7, t8, t9, t10, t11, t12⟩) | go_keep)
                  (first
                    | (go_at_call 41; (with_reducible refine (EX.out _ (by with_reducible first | exact KB.hb | exact KB.drew.hb)).mono ?_); rintro e9 U9 ⟨rfl, hk9⟩; (with_reducible first | replace KB := KB.below hk9 | replace KB := KB.drew.below hk9); clear EX hk9 x0 x1 x2 u0 u1 z0 z1 z2 z3 z4 z5 z6 z7 z8 z9 z10 z11 z12 t0 t1 t2 t3 t4 t5 t6 t7 t8 t9 t10 t11 t12; (obtain ⟨_, x0, x1, x2, _⟩ := KB.tail.tail.head.three); (obtain ⟨_, u0, u1, _⟩ := KB.tail.head.two); (obtain ⟨z0, z1, z2, z3, z4, z5, z6, z7, z8, z9, z10, z11, z12⟩ := KB.head.thirteenC); (obtain ⟨t0, t1, t2, t3, t4, t5, t6, t7, t8, t9, t10, t11, t12⟩ := YC.out _ KB.hb))
                    | (go_at_call 41; (with_reducible refine (EY.out _ (by with_reducible first | exact KB.hb | exact KB.drew.hb)).mono ?_); rintro e9 U9 ⟨rfl, hk9⟩; (with_reducible first | replace KB := KB.below hk9 | replace KB := KB.drew.below hk9); clear EY hk9 x0 x1 x2 u0 u1 z0 z1 z2 z3 z4 z5 z6 z7 z8 z9 z10 z11 z12 t0 t1 t2 t3 t4 t5 t6 t7 t8 t9 t10 t11 t12; (obtain ⟨_, x0, x1, x2, _⟩ := KB.tail.tail.head.three); (obtain ⟨_, u0, u1, _⟩ := KB.tail.head.two); (obtain ⟨z0, z1, z2, z3, z4, z5, z6, z7, z8, z9, z10, z11, z12⟩ := KB.head.thirteenC); (obtain ⟨t0, t1, t2, t3, t4, t5, t6, t7, t8, t9, t10, t11, t12⟩ := YC.out _ KB.hb)))
                all_goals
                  have HB : Below w.heap.size w _ := KB.hb
                  cases fb with
                  | true =>
                    have e9 : er = 16 := E9.out
                    subst e9
                    go_wp2
                    go_ret
                    exact ⟨rfl, by with_reducible first | exact HB | exact HB.drew⟩
                  | false =>
                    have e9 : er = 0 := E9.out
                    subst e9
                    go_wp2
                    go_ret
                    exact ⟨rfl, by with_reducible first | exact HB | exact HB.drew⟩
  · have hnot : ¬ (kind = 2 ∧ l = []) := fun h => hk h.1
    have d1 : (kind == 2) = false := by simp [hk]
    have H2 := Lib.hid (show kind = 2 → ∀ r ∈ l, ltD (off + r.save) = true from fun h => absurd h hk)
    obtain ⟨z0, z1, z2, z3, z4, z5, z6, z7, z8, z9, z10, z11, z12⟩ := KB.head.thirteenC
    cases hd : ltD (off + sav) with
    | false =>
      have e9 : er = 11 := E11b.out hnot hd
      have BE := Lib.hid (fun W (_ : True) => (show Calls Tryz.prog 40 #[.int .i64 (off + sav)] W (RetV W (.bool true)) from by have t := beyondDR (off + sav) W; rw [hd] at t; exact t))
      clear hd
      subst e9
      go_wp2_with (go_at_call 40; refine (BE.out _ trivial).mono ?_; rintro e9 U9 ⟨rfl, hk9⟩; replace KB := KB.below hk9; clear hk9 z0 z1 z2 z3 z4 z5 z6 z7 z8 z9 z10 z11 z12)
      go_ret
      exact ⟨rfl, KB.hb⟩
    | true =>
      obtain ⟨L0, L1⟩ := ELA.out hnot H2.out hd
      have BE := Lib.hid (fun W (_ : True) => (show Calls Tryz.prog 40 #[.int .i64 (off + sav)] W (RetV W (.bool false)) from by have t := beyondDR (off + sav) W; rw [hd] at t; exact t))
      clear hd
      go_upto_region 13 with (go_at_call 40; refine (BE.out _ trivial).mono ?_; rintro e9 U9 ⟨rfl, hk9⟩; replace KB := KB.below hk9; clear hk9 z0 z1 z2 z3 z4 z5 z6 z7 z8 z9 z10 z11 z12 BE)
      obtain ⟨z0, z1, z2, z3, z4, z5, z6, z7, z8, z9, z10, z11, z12⟩ := KB.head.thirteenC
      by_cases hi0 : i = 0
      · have e9 : er = 0 := L0 hi0
        have d1 : decide ((i : Int) > 0) = false := decide_eq_false (by omega)
        clear L0 L1
        subst e9
        go_quiet (fail)
        rename_i nq
        go_wp2
        go_ret
        exact ⟨rfl, below_drewN KB.hb _⟩
      · obtain ⟨y, hy, hye, hym⟩ := PV.out hi0
        have L2 := L1 y (by omega) hy
        have d1 : decide ((i : Int) > 0) = true := decide_eq_true (by omega)
        have d2 : decide (0 < i) = true := decide_eq_true (by omega)
        have d4 : 0 < i := by omega
        clear L0 L1
        cases til with
        | false =>
          have e9 : er = 0 := by rw [L2, if_neg (by simp)]
          clear L2
          subst e9
          go_quiet (fail)
          rename_i nq
          go_wp2
          go_ret
          exact ⟨rfl, below_drewN KB.hb _⟩
        | true =>
          have EY := Lib.hid (fun W hb => EN.out y hym W hb)
          obtain ⟨yg, yo, eg, ylt, ycs⟩ := hye
          obtain ⟨_, x0, x1, x2, _⟩ := KB.tail.tail.head.three
          obtain ⟨_, u0, u1, _⟩ := KB.tail.head.two
          have YC := Lib.hid (fun W (hb : Below w.heap.size w W) => ycs W hb)
          clear ycs
          generalize endE S.rules y = eY at *
          have EX := Lib.hid (fun W hb => EXX.out W hb)
          obtain ⟨yoff, ykind, ysav, yrs, yfmt, ytil, yyr, ⟨ymo, yki, ywd, yda, yti, yre⟩⟩ := y
          replace EY := Lib.hid (fun W hb => (show Calls Tryz.prog 41 #[.agg #[.slice A n k, .slice B m d, .slice C q e], .agg #[.int .i64 yoff, .int .i64 ykind, .int .i64 ysav, .string yrs, .string yfmt, .bool ytil, .int .i64 yyr, .int .i64 ymo, .int .i64 yki, .int .i64 ywd, .int .i64 yda, .int .i64 yti, .int .i64 yre]] W (RetV W (.int .i64 eY)) from EY.out W hb))
          cases eg
          clear d1 d2 d4
          obtain ⟨jj, hjj⟩ : ∃ jj, i = jj + 1 := ⟨i - 1, by omega⟩
          subst hjj
          replace YC := Lib.hid (fun W hb => (show EraC W g (o + jj * 13) ⟨yoff, ykind, ysav, yrs, yfmt, ytil, yyr, ⟨ymo, yki, ywd, yda, yti, yre⟩⟩ from YC.out W hb))
          obtain ⟨t0, t1, t2, t3, t4, t5, t6, t7, t8, t9, t10, t11, t12⟩ := YC.out _ KB.hb
          have d1 : decide (((jj + 1 : Nat) : Int) > 0) = true := decide_eq_true (by omega)
          have d2 : decide ((jj : Int) + 1 > 0) = true := decide_eq_true (by omega)
          have d4 : decide ((0 : Int) < (jj : Int) + 1) = true := decide_eq_true (by omega)
          have i0 : (0 : Int) ≤ (jj : Int) := by omega
          have i1 : (jj : Int) < (en : Int) := by omega
          have i2 : jj < en := by omega
          have wr1 : IntKind.i64.wrap ((jj : Int) + 1 - 1) = (jj : Int) + 1 - 1 := IntWalk.i64_in _ (by omega)
          have wr2 : IntKind.i64.wrap (jj : Int) = (jj : Int) := IntWalk.i64_in _ (by omega)
          have e9 : er = if eX ≤ eY then 16 else 0 := by
            rw [L2]
            by_cases hle : eX ≤ eY
            · rw [if_pos ⟨rfl, hle⟩, if_pos hle]
            · rw [if_neg (fun c => hle c.2), if_neg hle]
          clear L2
          obtain ⟨fb, hfb⟩ : ∃ fb : Bool, fb = decide (eX ≤ eY) := ⟨_, rfl⟩
          have E9 := Lib.hid (show er = if fb = true then 16 else 0 by rw [e9, hfb]; by_cases c : eX ≤ eY <;> simp [c])
          have d3 : decide (eX ≤ eY) = fb := hfb.symm
          clear e9 hfb
          go_region_held3 (fun w' => w'.cell? ⟨w.heap.size, 0, none⟩ = some (.slice A n k) ∧ w'.cell? ⟨w.heap.size, 1, none⟩ = some (.slice B m d) ∧ w'.cell? ⟨w.heap.size, 2, none⟩ = some (.slice C q e) ∧ w'.cell? ⟨w.heap.size + 1, 1, none⟩ = some (.slice (some ⟨g, o, none⟩) en ec) ∧ w'.cell? ⟨w.heap.size + 2, 0, none⟩ = some (.int .i64 off) ∧ w'.cell? ⟨w.heap.size + 2, 1, none⟩ = some (.int .i64 kind) ∧ w'.cell? ⟨w.heap.size + 2, 2, none⟩ = some (.int .i64 sav) ∧ w'.cell? ⟨w.heap.size + 2, 3, none⟩ = some (.string rs) ∧ w'.cell? ⟨w.heap.size + 2, 4, none⟩ = some (.string fmt) ∧ w'.cell? ⟨w.heap.size + 2, 5, none⟩ = some (.bool true) ∧ w'.cell? ⟨w.heap.size + 2, 6, none⟩ = some (.int .i64 yr) ∧ w'.cell? ⟨w.heap.size + 2, 7, none⟩ = some (.int .i64 mo) ∧ w'.cell? ⟨w.heap.size + 2, 8, none⟩ = some (.int .i64 ki) ∧ w'.cell? ⟨w.heap.size + 2, 9, none⟩ = some (.int .i64 wd) ∧ w'.cell? ⟨w.heap.size + 2, 10, none⟩ = some (.int .i64 da) ∧ w'.cell? ⟨w.heap.size + 2, 11, none⟩ = some (.int .i64 ti) ∧ w'.cell? ⟨w.heap.size + 2, 12, none⟩ = some (.int .i64 re) ∧ w'.cell? ⟨g, o + jj * 13, none⟩ = some (.int .i64 yoff) ∧ w'.cell? ⟨g, o + jj * 13 + 1, none⟩ = some (.int .i64 ykind) ∧ w'.cell? ⟨g, o + jj * 13 + 2, none⟩ = some (.int .i64 ysav) ∧ w'.cell? ⟨g, o + jj * 13 + 3, none⟩ = some (.string yrs) ∧ w'.cell? ⟨g, o + jj * 13 + 4, none⟩ = some (.string yfmt) ∧ w'.cell? ⟨g, o + jj * 13 + 5, none⟩ = some (.bool ytil) ∧ w'.cell? ⟨g, o + jj * 13 + 6, none⟩ = some (.int .i64 yyr) ∧ w'.cell? ⟨g, o + jj * 13 + 7, none⟩ = some (.int .i64 ymo) ∧ w'.cell? ⟨g, o + jj * 13 + 8, none⟩ = some (.int .i64 yki) ∧ w'.cell? ⟨g, o + jj * 13 + 9, none⟩ = some (.int .i64 ywd) ∧ w'.cell? ⟨g, o + jj * 13 + 10, none⟩ = some (.int .i64 yda) ∧ w'.cell? ⟨g, o + jj * 13 + 11, none⟩ = some (.int .i64 yti) ∧ w'.cell? ⟨g, o + jj * 13 + 12, none⟩ = some (.int .i64 yre)) (first | (with_reducible exact ⟨x0, x1, x2, u1, z0, z1, z2, z3, z4, z5, z6, z7, z8, z9, z10, z11, z12, t0, t1, t2, t3, t4, t5, t6, t7, t8, t9, t10, t11, t12⟩) | go_keep)
            (first
              | (go_at_call 41; (with_reducible refine (EX.out _ (by with_reducible first | exact KB.hb | exact KB.drew.hb)).mono ?_); rintro e9 U9 ⟨rfl, hk9⟩; (with_reducible first | replace KB := KB.below hk9 | replace KB := KB.drew.below hk9); clear EX hk9 x0 x1 x2 u0 u1 z0 z1 z2 z3 z4 z5 z6 z7 z8 z9 z10 z11 z12 t0 t1 t2 t3 t4 t5 t6 t7 t8 t9 t10 t11 t12; (obtain ⟨_, x0, x1, x2, _⟩ := KB.tail.tail.head.three); (obtain ⟨_, u0, u1, _⟩ := KB.tail.head.two); (obtain ⟨z0, z1, z2, z3, z4, z5, z6, z7, z8, z9, z10, z11, z12⟩ := KB.head.thirteenC); (obtain ⟨t0, t1, t2, t3, t4, t5, t6, t7, t8, t9, t10, t11, t12⟩ := YC.out _ KB.hb))
              | (go_at_call 41; (with_reducible refine (EY.out _ (by with_reducible first | exact KB.hb | exact KB.drew.hb)).mono ?_); rintro e9 U9 ⟨rfl, hk9⟩; (with_reducible first | replace KB := KB.below hk9 | replace KB := KB.drew.below hk9); clear EY hk9 x0 x1 x2 u0 u1 z0 z1 z2 z3 z4 z5 z6 z7 z8 z9 z10 z11 z12 t0 t1 t2 t3 t4 t5 t6 t7 t8 t9 t10 t11 t12; (obtain ⟨_, x0, x1, x2, _⟩ := KB.tail.tail.head.three); (obtain ⟨_, u0, u1, _⟩ := KB.tail.head.two); (obtain ⟨z0, z1, z2, z3, z4, z5, z6, z7, z8, z9, z10, z11, z12⟩ := KB.head.thirteenC); (obtain ⟨t0, t1, t2, t3, t4, t5, t6, t7, t8, t9, t10, t11, t12⟩ := YC.out _ KB.hb)))
          all_goals
            have HB : Below w.heap.size w _ := KB.hb
            cases fb with
            | true =>
              have e9 : er = 16 := E9.out
              subst e9
              go_wp2
              go_ret
              exact ⟨rfl, by with_reducible first | exact HB | exact HB.drew⟩
            | false =>
              have e9 : er = 0 := E9.out
              subst e9
              go_wp2
              go_ret
              exact ⟨rfl, by with_reducible first | exact HB | exact HB.drew⟩
end Go.Proofs.YtmhpnmlgfdomkaaGreatDoor
