import Derived.Test.YtmhpnmlgfdomkaaGreatDoorZGnd
import Derived.Test.YtmhpnmlgfdomkaaGreatDoorZGtd
import Derived.Test.YtmhpnmlgfdomkaaGreatDoorZTpart
import Derived.Test.YtmhpnmlgfdomkaaGreatDoorZGp
set_option maxRecDepth 100000
set_option maxHeartbeats 64000000
namespace Go.Proofs.YtmhpnmlgfdomkaaGreatDoor
open Go.RowKit Go.Maps Go.WideShapes
def RetIE (w : World) (o : Option Fw) (e : Ending) (w' : World) : Prop := e = .returned (.tuple #[.int .i64 (o.getD Fw.zero).era, .int .i64 (o.getD Fw.zero).err]) ∧ Below w.heap.size w w'
theorem no_set {S : Sr} (ok : S.ok) : setL S.rules ⟨#[]⟩ = [] := by
  unfold setL
  rw [List.filter_eq_nil_iff]
  intro x hx
  have h := (ok.2.2.2.1 x hx).2.2.2.2.1
  simp only [decide_eq_true_eq]
  intro e
  rw [e] at h
  cases h
theorem era_within {S : Sr} (ok : S.ok) {x : Er} (hx : x.ok) : wiE S.rules x = false ↔ ((x.kind = 2 ∧ ∃ r ∈ setL S.rules x.rules, beyond (x.off + r.save)) ∨ beyond (x.off + x.save)) := by
  unfold wiE
  rw [Bool.and_eq_false_iff, ltD_is]
  have e : (setL S.rules x.rules).all (fun r => ltD (x.off + r.save)) = false ↔ (x.kind = 2 ∧ ∃ r ∈ setL S.rules x.rules, beyond (x.off + r.save)) := by
    rw [List.all_eq_false]
    constructor
    · rintro ⟨r, hr, h⟩
      refine ⟨?_, r, hr, ltD_is.1 (by simpa using h)⟩
      by_cases c : x.kind = 2
      · exact c
      · rw [hx.2.2.2.2.2.1 c, no_set ok] at hr
        cases hr
    · rintro ⟨_, r, hr, h⟩
      exact ⟨r, hr, by rw [ltD_is.2 h]; simp⟩
  rw [e]
def aloneS (S : Sr) (z : Zn) : Sr := ⟨S.rules, [z], []⟩
theorem alone_ok {S : Sr} (h : S.ok) {z : Zn} (hz : z ∈ S.zones) : (aloneS S z).ok := by
  refine ⟨h.1, by show 1 ≤ 50; decide, by show 0 ≤ 100; decide, h.2.2.2.1, fun y hy => ?_, fun x hx => absurd hx (by simp [aloneS])⟩
  have hy : y ∈ [z] := hy
  rw [List.mem_singleton] at hy
  subst hy
  exact h.2.2.2.2.1 _ hz
theorem alone_in {S : Sr} (h : S.in64) {z : Zn} (hz : z ∈ S.zones) : (aloneS S z).in64 := by
  refine ⟨h.1, fun y hy => ?_, fun x hx => absurd hx (by simp [aloneS])⟩
  have hy : y ∈ [z] := hy
  rw [List.mem_singleton] at hy
  subst hy
  exact h.2.1 _ hz
theorem alone_at {S : Sr} (h : S.ok) {p : Ze} (hz : p.1 ∈ S.zones) (i : Nat) : eraAtP (aloneS S p.1) [p] 0 i = p.1.eras[i]? := by
  unfold eraAtP zoneAt
  rw [if_pos ⟨okSr_yes (alone_ok h hz), by omega⟩]
  show (if 0 ≤ (i : Int) then p.1.eras[(i : Int).toNat]? else none) = _
  rw [if_pos (by omega), Int.toNat_natCast]
theorem alone_v {w : World} {S : Sr} {a b c : Hd} {ze : List Ze} (hv : SrcV w S a b c ze) {p : Ze} (hp : p ∈ ze) {W : World} {g : Nat} (hb : Below w.heap.size w W) (hg : Blk W g (Ze.vals p)) : SrcV W (aloneS S p.1) a ⟨some ⟨g, 0, none⟩, 1, 1⟩ ⟨none, 0, 0⟩ [p] :=
  ⟨hv.rules.below hb, Rs.ofBlk (n := 1) (l := [Ze.vals p]) (by simpa using hg) (by intro x hx; rw [List.mem_singleton.1 hx]; rfl) rfl (by unfold maxLen; omega), Rs.nil 2 W, fun q hq => by
    rw [List.mem_singleton.1 hq]
    exact (hv.eras p hp).below hb, rfl⟩
theorem eraF_at {L : List Rl} {es : List Er} {z i : Nat} {x : Er} (h : es[i]? = some x) : eraF L es z i = if eraErr L (prevE es i) x ≠ 0 then some ⟨eraErr L (prevE es i) x, 2, z, i⟩ else none := by unfold eraF; rw [h]
theorem era_8 {L : List Rl} {p : Option Er} {x : Er} (h : x.kind = 2 ∧ setL L x.rules = []) : eraErr L p x = 8 := by unfold eraErr; rw [if_pos h]
theorem era_11 {S : Sr} (ok : S.ok) {x : Er} (hx : x.ok) {p : Option Er} (h : ¬ (x.kind = 2 ∧ setL S.rules x.rules = [])) (k : wiE S.rules x = false) : eraErr S.rules p x = 11 := by
  unfold eraErr; rw [if_neg h, if_pos ((era_within ok hx).1 k)]
def PrevE (L : List Rl) (es : List Er) (i : Nat) (be : Int) : Prop := match prevE es i with
  | none => i = 0 ∧ be = -9223372036854775808
  | some y => y.til = true → be = endE L y
theorem era_16 {S : Sr} (ok : S.ok) {x : Er} (hx : x.ok) {es : List Er} {i : Nat} (hi : es[i]? = some x) (ht : tilOk es) {be : Int} (hb : PrevE S.rules es i be) (h : ¬ (x.kind = 2 ∧ setL S.rules x.rules = [])) (k : wiE S.rules x = true) :
    eraErr S.rules (prevE es i) x = if (x.til && decide (endE S.rules x ≤ be)) = true then 16 else 0 := by
  unfold eraErr
  rw [if_neg h, if_neg (fun c => by rw [(era_within ok hx).2 c] at k; cases k)]
  unfold PrevE at hb
  cases hp : prevE es i with
  | none =>
    rw [hp] at hb
    obtain ⟨_, e⟩ := hb
    have := end_in (rules_fit ok) (era_fit hx)
    simp only
    rw [if_neg]
    rw [e, Bool.and_eq_true]
    rintro ⟨_, c⟩
    have := of_decide_eq_true c
    omega
  | some y =>
    rw [hp] at hb
    have hy : y.til = true := by
      unfold prevE at hp
      by_cases c : i = 0
      · rw [if_pos c] at hp; cases hp
      · rw [if_neg c] at hp
        rw [tilC_at ht _ _ hp]
        have := (List.getElem?_eq_some_iff.1 hi).1
        exact decide_eq_true (by omega)
    simp only
    rw [hb hy]
    by_cases c : x.til = true ∧ endE S.rules x ≤ endE S.rules y
    · rw [if_pos c, if_pos]
      rw [c.1, Bool.true_and]; exact decide_eq_true c.2
    · rw [if_neg c, if_neg]
      rw [Bool.and_eq_true]
      exact fun k => c ⟨k.1, of_decide_eq_true k.2⟩
theorem prev_start (L : List Rl) (es : List Er) : PrevE L es 0 (-9223372036854775808) := by
  unfold PrevE prevE
  rw [if_pos rfl]
  exact ⟨rfl, rfl⟩
theorem prev_next {L : List Rl} {es : List Er} {i : Nat} {x : Er} (h : es[i]? = some x) {be : Int} (e : be = (endO L (some x)).1) : PrevE L es (i + 1) be := by
  unfold PrevE prevE
  rw [if_neg (by omega), show i + 1 - 1 = i from rfl, h]
  intro t
  rw [e]
  unfold endO
  simp only
  rw [if_pos t]
theorem endO_2 (L : List Rl) (x : Er) : (endO L (some x)).2 = x.til := by unfold endO; cases h : x.til <;> simp [h]
theorem endO_1 {L : List Rl} {x : Er} (h : x.til = true) : (endO L (some x)).1 = endE L x := by unfold endO; simp [h]
theorem wrongEraE (S : Sr) (a b c : Hd) (ze : List Ze) (b1 n1 b2 n2 : Nat) (f : ByteArray → Option (Nat × Hd)) (w : World) (hv : LkV w S a b c ze b1 n1 b2 n2 f) (hx : S.in64) (ok : S.ok) (T : ErasM w) (p : Ze) (hp : p ∈ ze) (zi : Nat) : Calls Tryz.prog 59 #[.agg #[.slice a.a a.n a.c, .slice b.a b.n b.c, .slice c.a c.n c.c, .map (some b1), .map (some b2)], .agg #[.string p.1.name, .slice p.2.a p.2.n p.2.c]] w (RetIE w (fsR p.1.eras.length (eraF S.rules p.1.eras zi))) := by
  have hz : p.1 ∈ S.zones := by rw [← hv.src.all]; exact List.mem_map.2 ⟨p, hp, rfl⟩
  have zok := ok.2.2.2.2.1 p.1 hz
  have HE := Lib.hid (show Rs 13 w p.2.a p.2.n p.2.c (p.1.eras.map Er.vals) from hv.src.eras p hp)
  have LN := Lib.hid (show p.1.eras.length = p.2.n by have := HE.out.len; simpa using this)
  have mx : p.2.n ≤ 9223372036854775807 := Nat.le_trans HE.out.cap HE.out.max
  have EC := Lib.hid (fun (i : Nat) W g (h : Below w.heap.size w W) (hg : Blk W g (Ze.vals p)) => (show Calls Tryz.prog 91 #[.agg #[a.val, .slice (some ⟨g, 0, none⟩) 1 1, .slice none 0 0], .int .i64 (0 : Int), .int .i64 i] W (RetNumB W (endO S.rules p.1.eras[i]?).1 (endO S.rules p.1.eras[i]?).2) from by
    have t := endAE (aloneS S p.1) a ⟨some ⟨g, 0, none⟩, 1, 1⟩ ⟨none, 0, 0⟩ [p] W (alone_v hv.src hp h hg) (alone_in hx hz) 0 i (T.mono h)
    rw [alone_at ok hz i] at t
    exact t))
  have WC := Lib.hid (fun (x : Er) (h : x ∈ p.1.eras) W (hb : Below w.heap.size w W) => withinM S a b c ze b1 n1 b2 n2 f W (hv.below hb) x (hx.2.1 p.1 hz |>.2.2 x h).2.2.2.1 (zok.2.2.1 x h).1.1 (zok.2.2.1 x h).1.2 (zok.2.2.1 x h).2.1.1 (zok.2.2.1 x h).2.1.2 (rules_fit ok))
  have LK := Lib.hid (fun (s : ByteArray) (zx : s.size ≤ maxLen) W (h : Below w.heap.size w W) => look_st0 (StM.below hv.st (by first | exact h | exact h)) s zx)
  have RL := Lib.hid (fun (s : ByteArray) => (show (setL S.rules s).length = (stH f s).n by have := (st_rows hv.st s).len; simpa using this))
  have XN := Lib.hid (fun (x : Er) (h : x ∈ p.1.eras) => (hx.2.1 p.1 hz |>.2.2 x h).2.2.2.1)
  have OKX := Lib.hid (fun (x : Er) (h : x ∈ p.1.eras) => zok.2.2.1 x h)
  have TL := Lib.hid zok.2.2.2
  have OK := Lib.hid ok
  have NO := Lib.hid (fun (h : ∀ j, j < p.2.n → eraF S.rules p.1.eras zi j = none) => fs_none (n := p.1.eras.length) (F := eraF S.rules p.1.eras zi) (fun j hj => h j (by rw [← LN.out]; exact hj)))
  have HIT := Lib.hid (fun i v (hi : i < p.2.n) (h : eraF S.rules p.1.eras zi i = some v) (m : ∀ j, j < i → eraF S.rules p.1.eras zi j = none) => fsR_hit (n := p.1.eras.length) (by rw [LN.out]; exact hi) h m)
  clear hv hx ok T hz zok
  obtain ⟨A, n, k⟩ := a
  obtain ⟨B, m, d⟩ := b
  obtain ⟨C, q, e⟩ := c
  obtain ⟨⟨zn, es⟩, ⟨ea, en, ec⟩⟩ := p
  simp only [Hd.val, Ze.vals] at *
  go_enter Tryz.func59, Tryz.ntmps59
  go_upto_region 1 with (fail)
  have KB := ((BK.nil w).lit [.slice A n k, .slice B m d, .slice C q e, .map (some b1), .map (some b2)] 52).lit [.string zn, .slice ea en ec] 39
  simp only [World.size_alloc] at *
  generalize (w.alloc (.cells #[.slice A n k, .slice B m d, .slice C q e, .map (some b1), .map (some b2)] 52)).alloc (.cells #[.string zn, .slice ea en ec] 39) = W at *
  obtain ⟨_, x0, x1, x2, x3, x4, _⟩ := KB.tail.head.fiveL
  obtain ⟨_, y0, y1, _⟩ := KB.head.two
  go_upto_region 2 with (fail)
  have KC := (KB.lit [.string zn, .slice ea en ec] 39).lit [.slice A n k, .slice (some ⟨W.heap.size, 0, none⟩) 1 1, .slice none 0 0] 26
  simp only [World.size_alloc] at KC
  generalize (W.alloc (.cells #[.string zn, .slice ea en ec] 39)).alloc (.cells #[.slice A n k, .slice (some ⟨W.heap.size, 0, none⟩) 1 1, .slice none 0 0] 26) = U at *
  generalize W.heap.size = zr at *
  clear KB x0 x1 x2 x3 x4 y0 y1
  obtain ⟨_, y0, y1, _⟩ := KC.tail.tail.head.two
  go_wp2_with fail
  clear y0 y1
  go_loopw [7, 21] (fun v7 v21 wr => ∃ (i : Nat) (be : Int), i ≤ en ∧ v21 = .int .i64 i ∧ v7 = .int .i64 be ∧ Hid (PrevE S.rules es i be) ∧ Hid (∀ j, j < i → eraF S.rules es zi j = none) ∧ BK w [(zr + 1, [.slice A n k, .slice (some ⟨zr, 0, none⟩) 1 1, .slice none 0 0]), (zr, [.string zn, .slice ea en ec]), (w.heap.size + 1, [.string zn, .slice ea en ec]), (w.heap.size, [.slice A n k, .slice B m d, .slice C q e, .map (some b1), .map (some b2)])] wr) (fun _ v _ => en - (intOf v).toNat)
  case atStart => exact ⟨0, _, by omega, rfl, rfl, Lib.hid (prev_start S.rules es), Lib.hid (fun j h => absurd h (by omega)), KC⟩
  case round =>
    clear KC
    obtain ⟨i, be, hi, rfl, rfl, HP, HM, KB⟩ := hrel
    by_cases h4 : i < en
    · obtain ⟨x, hxx⟩ : ∃ x, es[i]? = some x := ⟨_, List.getElem?_eq_getElem (by rw [LN.out]; exact h4)⟩
      obtain ⟨g, o, ea0, hg, ca⟩ := (HE.out.below KB.hb).cells (by omega)
      subst ea0
      have ra := row_at ca (show (es.map Er.vals)[i]? = some (Er.vals x) by rw [List.getElem?_map, hxx]; rfl)
      have xm := List.mem_of_getElem? hxx
      have zx := XN.out x xm
      have EF := Lib.hid (eraF_at (L := S.rules) (z := zi) hxx)
      have E8 := Lib.hid (fun h => era_8 (L := S.rules) (p := prevE es i) (x := x) h)
      have E11 := Lib.hid (fun h k => era_11 OK.out (OKX.out x xm) (p := prevE es i) h k)
      have E16 := Lib.hid (fun h k => era_16 OK.out (OKX.out x xm) hxx TL.out HP.out h k)
      have NX := Lib.hid (prev_next (L := S.rules) hxx (be := (endO S.rules (some x)).1) rfl)
      have WX := Lib.hid (fun W hb => WC.out x xm W hb)
      have EX := Lib.hid (fun W g hb hg => EC.out i W g hb hg)
      rw [hxx, endO_2] at EX
      have EV := Lib.hid (fun (h : x.til = true) => endO_1 (L := S.rules) h)
      have LKX := Lib.hid (fun W hb => LK.out x.rules zx W hb)
      have RLX := Lib.hid (RL.out x.rules)
      clear ca hxx xm zx HP
      generalize (endO S.rules (some x)).1 = eN at *
      generalize wiE S.rules x = wi at *
      generalize endE S.rules x = eX at *
      generalize setL S.rules x.rules = l at *
      generalize eraErr S.rules (prevE es i) x = er at *
      generalize stI f x.rules = fi at *
      generalize stH f x.rules = hh at *
      obtain ⟨ha, hn, hc⟩ := hh
      obtain ⟨off, kind, sav, rs, fmt, til, yr, ⟨mo, ki, wd, da, ti, re⟩⟩ := x
      have x0 : wr.cell? ⟨g, o + i * 13, none⟩ = some (.int .i64 off) := ra 0 _ rfl
      have x1 : wr.cell? ⟨g, o + i * 13 + 1, none⟩ = some (.int .i64 kind) := ra 1 _ rfl
      have x2 : wr.cell? ⟨g, o + i * 13 + 2, none⟩ = some (.int .i64 sav) := ra 2 _ rfl
      have x3 : wr.cell? ⟨g, o + i * 13 + 3, none⟩ = some (.string rs) := ra 3 _ rfl
      have x4 : wr.cell? ⟨g, o + i * 13 + 4, none⟩ = some (.string fmt) := ra 4 _ rfl
      have x5 : wr.cell? ⟨g, o + i * 13 + 5, none⟩ = some (.bool til) := ra 5 _ rfl
      have x6 : wr.cell? ⟨g, o + i * 13 + 6, none⟩ = some (.int .i64 yr) := ra 6 _ rfl
      have x7 : wr.cell? ⟨g, o + i * 13 + 7, none⟩ = some (.int .i64 mo) := ra 7 _ rfl
      have x8 : wr.cell? ⟨g, o + i * 13 + 8, none⟩ = some (.int .i64 ki) := ra 8 _ rfl
      have x9 : wr.cell? ⟨g, o + i * 13 + 9, none⟩ = some (.int .i64 wd) := ra 9 _ rfl
      have x10 : wr.cell? ⟨g, o + i * 13 + 10, none⟩ = some (.int .i64 da) := ra 10 _ rfl
      have x11 : wr.cell? ⟨g, o + i * 13 + 11, none⟩ = some (.int .i64 ti) := ra 11 _ rfl
      have x12 : wr.cell? ⟨g, o + i * 13 + 12, none⟩ = some (.int .i64 re) := ra 12 _ rfl
      clear ra
      simp only at *
      go_upto_region 6 with (fail)
      have KC := KB.lit [.int .i64 off, .int .i64 kind, .int .i64 sav, .string rs, .string fmt, .bool til, .int .i64 yr, .int .i64 mo, .int .i64 ki, .int .i64 wd, .int .i64 da, .int .i64 ti, .int .i64 re] 41
      generalize wr.alloc (.cells #[.int .i64 off, .int .i64 kind, .int .i64 sav, .string rs, .string fmt, .bool til, .int .i64 yr, .int .i64 mo, .int .i64 ki, .int .i64 wd, .int .i64 da, .int .i64 ti, .int .i64 re] 41) = V at *
      generalize wr.heap.size = rb at *
      clear x0 x1 x2 x3 x4 x5 x6 x7 x8 x9 x10 x11 x12 KB hg
      obtain ⟨_, y0, y1, y2, _⟩ := KC.tail.head.three
      have EY := Lib.hid (EX.out V zr KC.hb KC.tail.tail.head)
      clear EX
      go_upto_region 7 with (go_at_call 91; refine EY.out.mono ?_; clear EY; rintro e9 V2 ⟨rfl, hk⟩)
      have KB := KC.below hk
      clear KC hk y0 y1 y2
      obtain ⟨z0, z1, z2, z3, z4, z5, z6, z7, z8, z9, z10, z11, z12⟩ := KB.head.thirteenC
      obtain ⟨_, s0, s1, s2, s3, s4, _⟩ := KB.tail.tail.tail.tail.head.fiveL
      have WY := Lib.hid (WX.out V2 KB.hb)
      clear WX
      have lk := LKX.out V2 KB.hb
      have fl := fld_st fi ha hn hc
      clear LKX
      replace WY := Lib.hid (show Calls Tryz.prog 92 #[.agg #[.slice A n k, .slice B m d, .slice C q e, .map (some b1), .map (some b2)], .agg #[.int .i64 off, .int .i64 kind, .int .i64 sav, .string rs, .string fmt, .bool til, .int .i64 yr, .int .i64 mo, .int .i64 ki, .int .i64 wd, .int .i64 da, .int .i64 ti, .int .i64 re]] V2 (RetV V2 (.bool wi)) from WY.out)
      have rl := RLX.out
      clear RLX
      by_cases hk : kind = 2
      · subst hk
        by_cases hl : l = []
        · have h0 : hn = 0 := by rw [← rl, hl]; rfl
          have e8 : er = 8 := E8.out ⟨rfl, hl⟩
          have d2 : ((hn : Int) == 0) = true := by rw [h0]; rfl
          have EQ := Lib.hid (HIT.out i ⟨8, 2, zi, i⟩ h4 (by rw [EF.out, e8, if_pos (by decide)]) HM.out)
          clear EF E8 E11 E16 EV HM NX e8 hl rl h0
          go_wp2
          go_ret2
          exact ⟨by rw [EQ.out]; rfl, KB.hb⟩
        · have h0 : hn ≠ 0 := by rw [← rl]; exact fun h => hl (List.eq_nil_of_length_eq_zero h)
          have d2 : ((hn : Int) == 0) = false := by simp; omega
          have d4 : ¬ (hn : Int) = 0 := by omega
          have hnot : ¬ ((2 : Int) = 2 ∧ l = []) := fun h => hl h.2
          clear hl rl h0
          cases wi with
          | false =>
            have EQ := Lib.hid (HIT.out i ⟨11, 2, zi, i⟩ h4 (by rw [EF.out, E11.out hnot rfl, if_pos (by decide)]) HM.out)
            clear EF E8 E11 E16 EV HM NX
            go_wp2_with (go_at_call 92; refine WY.out.mono ?_; clear WY; rintro e V3 ⟨rfl, hk9⟩; replace KB := KB.below hk9; clear hk9 s0 s1 s2 s3 s4 z0 z1 z2 z3 z4 z5 z6 z7 z8 z9 z10 z11 z12 lk fl)
            go_ret2
            exact ⟨by rw [EQ.out]; rfl, KB.hb⟩
          | true =>
            have e16 := E16.out hnot rfl
            cases til with
            | false =>
              have R2 : eraF S.rules es zi i = none := by rw [EF.out, e16]; simp
              clear e16
              have H2 := Lib.hid (show ∀ j, j < i + 1 → eraF S.rules es zi j = none from upto_succ HM.out R2)
              clear EF E8 E11 E16 EV HM R2
              go_wp2_with (go_at_call 92; refine WY.out.mono ?_; clear WY; rintro e V3 ⟨rfl, hk9⟩; replace KB := KB.below hk9; clear hk9 s0 s1 s2 s3 s4 z0 z1 z2 z3 z4 z5 z6 z7 z8 z9 z10 z11 z12 lk fl)
              go_roundw
              case rel => exact ⟨i + 1, eN, by omega, int_eqS (by omega), rfl, NX, H2, KB.tail⟩
              case measure => simp only [intOf]; omega
            | true =>
              have ev : eN = eX := EV.out rfl
              by_cases hle : eN ≤ be
              · have d3 : decide (eN ≤ be) = true := decide_eq_true hle
                have e17 : er = 16 := by rw [e16, ← ev, d3]; rfl
                clear e16 ev
                have EQ := Lib.hid (HIT.out i ⟨16, 2, zi, i⟩ h4 (by rw [EF.out, e17, if_pos (by decide)]) HM.out)
                clear e17 EF E8 E11 E16 EV HM NX
                go_wp2_with (go_at_call 92; refine WY.out.mono ?_; clear WY; rintro e V3 ⟨rfl, hk9⟩; replace KB := KB.below hk9; clear hk9 s0 s1 s2 s3 s4 z0 z1 z2 z3 z4 z5 z6 z7 z8 z9 z10 z11 z12 lk fl)
                go_ret2
                exact ⟨by rw [EQ.out]; rfl, KB.hb⟩
              · have d3 : decide (eN ≤ be) = false := decide_eq_false hle
                have R2 : eraF S.rules es zi i = none := by rw [EF.out, e16, ← ev, d3]; simp
                clear e16 ev
                have H2 := Lib.hid (show ∀ j, j < i + 1 → eraF S.rules es zi j = none from upto_succ HM.out R2)
                clear EF E8 E11 E16 EV HM R2
                go_wp2_with (go_at_call 92; refine WY.out.mono ?_; clear WY; rintro e V3 ⟨rfl, hk9⟩; replace KB := KB.below hk9; clear hk9 s0 s1 s2 s3 s4 z0 z1 z2 z3 z4 z5 z6 z7 z8 z9 z10 z11 z12 lk fl)
                go_roundw
                case rel => exact ⟨i + 1, eN, by omega, int_eqS (by omega), rfl, NX, H2, KB.tail⟩
                case measure => simp only [intOf]; omega
      · have hnot : ¬ (kind = 2 ∧ l = []) := fun h => hk h.1
        have d1 : (kind == 2) = false := by simp [hk]
        clear rl
        cases wi with
        | false =>
          have EQ := Lib.hid (HIT.out i ⟨11, 2, zi, i⟩ h4 (by rw [EF.out, E11.out hnot rfl, if_pos (by decide)]) HM.out)
          clear EF E8 E11 E16 EV HM NX
          go_wp2_with (go_at_call 92; refine WY.out.mono ?_; clear WY; rintro e V3 ⟨rfl, hk9⟩; replace KB := KB.below hk9; clear hk9 s0 s1 s2 s3 s4 z0 z1 z2 z3 z4 z5 z6 z7 z8 z9 z10 z11 z12 lk fl)
          go_ret2
          exact ⟨by rw [EQ.out]; rfl, KB.hb⟩
        | true =>
          have e16 := E16.out hnot rfl
          cases til with
          | false =>
            have R2 : eraF S.rules es zi i = none := by rw [EF.out, e16]; simp
            clear e16
            have H2 := Lib.hid (show ∀ j, j < i + 1 → eraF S.rules es zi j = none from upto_succ HM.out R2)
            clear EF E8 E11 E16 EV HM R2
            go_wp2_with (go_at_call 92; refine WY.out.mono ?_; clear WY; rintro e V3 ⟨rfl, hk9⟩; replace KB := KB.below hk9; clear hk9 s0 s1 s2 s3 s4 z0 z1 z2 z3 z4 z5 z6 z7 z8 z9 z10 z11 z12 lk fl)
            go_roundw
            case rel => exact ⟨i + 1, eN, by omega, int_eqS (by omega), rfl, NX, H2, KB.tail⟩
            case measure => simp only [intOf]; omega
          | true =>
            have ev : eN = eX := EV.out rfl
            by_cases hle : eN ≤ be
            · have d3 : decide (eN ≤ be) = true := decide_eq_true hle
              have e17 : er = 16 := by rw [e16, ← ev, d3]; rfl
              clear e16 ev
              have EQ := Lib.hid (HIT.out i ⟨16, 2, zi, i⟩ h4 (by rw [EF.out, e17, if_pos (by decide)]) HM.out)
              clear e17 EF E8 E11 E16 EV HM NX
              go_wp2_with (go_at_call 92; refine WY.out.mono ?_; clear WY; rintro e V3 ⟨rfl, hk9⟩; replace KB := KB.below hk9; clear hk9 s0 s1 s2 s3 s4 z0 z1 z2 z3 z4 z5 z6 z7 z8 z9 z10 z11 z12 lk fl)
              go_ret2
              exact ⟨by rw [EQ.out]; rfl, KB.hb⟩
            · have d3 : decide (eN ≤ be) = false := decide_eq_false hle
              have R2 : eraF S.rules es zi i = none := by rw [EF.out, e16, ← ev, d3]; simp
              clear e16 ev
              have H2 := Lib.hid (show ∀ j, j < i + 1 → eraF S.rules es zi j = none from upto_succ HM.out R2)
              clear EF E8 E11 E16 EV HM R2
              go_wp2_with (go_at_call 92; refine WY.out.mono ?_; clear WY; rintro e V3 ⟨rfl, hk9⟩; replace KB := KB.below hk9; clear hk9 s0 s1 s2 s3 s4 z0 z1 z2 z3 z4 z5 z6 z7 z8 z9 z10 z11 z12 lk fl)
              go_roundw
              case rel => exact ⟨i + 1, eN, by omega, int_eqS (by omega), rfl, NX, H2, KB.tail⟩
              case measure => simp only [intOf]; omega
    · obtain rfl : i = en := by omega
      have EQ := Lib.hid (NO.out HM.out)
      go_wp2
      go_ret2
      exact ⟨by rw [EQ.out]; rfl, KB.hb⟩
theorem zone_least {S : Sr} {nm : ByteArray} {j : Nat} (h : zoneI S nm = some j) : (∃ y, S.zones[j]? = some y ∧ y.name = nm) ∧ ∀ k y, k < j → S.zones[k]? = some y → y.name ≠ nm := by
  unfold zoneI at h
  rw [List.findIdx?_eq_some_iff_getElem] at h
  obtain ⟨h1, h2, h3⟩ := h
  refine ⟨⟨_, List.getElem?_eq_getElem h1, of_decide_eq_true h2⟩, fun k y hk hy => ?_⟩
  have := h3 k hk
  rw [(List.getElem?_eq_some_iff.1 hy).2] at this
  simpa using this
theorem zn_mean {S : Sr} {i : Nat} {z : Zn} (h : S.zones[i]? = some z) : ∃ j, nmA S z.name = some (2, j) ∧ j ≤ i ∧ (j ≠ i → zoneF S i = some ⟨10, 2, i, 0⟩) ∧ (j = i → zoneF S i = fsR z.eras.length (eraF S.rules z.eras i)) := by
  cases hz : zoneI S z.name with
  | none => exact absurd rfl (zoneI_none.1 hz z (List.mem_of_getElem? h))
  | some j =>
    obtain ⟨⟨y, hy, e⟩, lm⟩ := zone_least hz
    have hle : j ≤ i := by
      by_cases c : j ≤ i
      · exact c
      · exact absurd rfl (lm i z (by omega) h)
    refine ⟨j, nmA_zone hz, hle, fun c => ?_, fun c => ?_⟩
    · unfold zoneF; rw [h]; simp only
      rw [if_pos ⟨j, y, by omega, hy, e⟩]
    · unfold zoneF; rw [h]; simp only
      rw [if_neg]
      rintro ⟨k, y, hk, hy, e⟩
      exact lm k y (by omega) hy e
theorem eras_fw {L : List Rl} {es : List Er} {z n : Nat} {v : Fw} (h : fsR n (eraF L es z) = some v) : v.err ≠ 0 ∧ v.kind = 2 ∧ v.at_ = z := by
  obtain ⟨i, _, h⟩ := fsR_some h
  refine ⟨eraF_err h, ?_⟩
  unfold eraF at h
  split at h
  · obtain ⟨_, rfl⟩ := if_some h
    exact ⟨rfl, rfl⟩
  · cases h
theorem inZonesE (S : Sr) (a b c : Hd) (ze : List Ze) (b1 n1 b2 n2 : Nat) (f : ByteArray → Option (Nat × Hd)) (w : World) (hv : LkV w S a b c ze b1 n1 b2 n2 f) (hx : S.in64) (ok : S.ok) (T : ErasM w) : Calls Tryz.prog 33 #[.agg #[.slice a.a a.n a.c, .slice b.a b.n b.c, .slice c.a c.n c.c, .map (some b1), .map (some b2)]] w (RetFw w (fsR S.zones.length (zoneF S))) := by
  have HR := Lib.hid hv.src.zones
  have lz : ze.length = b.n := by have := hv.src.zones.len; simpa using this
  have LN := Lib.hid (show S.zones.length = b.n by rw [← hv.src.all]; simpa using lz)
  have LZ := Lib.hid lz
  have mx : b.n ≤ 9223372036854775807 := Nat.le_trans hv.src.zones.cap hv.src.zones.max
  have NO := Lib.hid (fun (h : ∀ j, j < b.n → zoneF S j = none) => fs_none (n := S.zones.length) (F := zoneF S) (fun j hj => h j (by rw [← LN.out]; exact hj)))
  have HIT := Lib.hid (fun i v (hi : i < b.n) (h : zoneF S i = some v) (m : ∀ j, j < i → zoneF S j = none) => fsR_hit (n := S.zones.length) (by rw [LN.out]; exact hi) h m)
  have NM := Lib.hid (fun W (h : Below w.heap.size w W) => SM.below hv.nm (by first | exact h | exact h))
  have ZN := Lib.hid (fun (i : Nat) (x : Ze) (h : ze[i]? = some x) => (show S.zones[i]? = some x.1 ∧ x.1.name.size ≤ maxLen from by
    have h1 : S.zones[i]? = some x.1 := by rw [← hv.src.all, List.getElem?_map, h]; rfl
    exact ⟨h1, (hx.2.1 _ (List.mem_of_getElem? h1)).1⟩))
  have WC := Lib.hid (fun (p : Ze) (hp : p ∈ ze) (zi : Nat) W (hb : Below w.heap.size w W) => wrongEraE S a b c ze b1 n1 b2 n2 f W (hv.below hb) hx ok (T.mono hb) p hp zi)
  clear hv hx ok T lz
  obtain ⟨A, n, k⟩ := a
  obtain ⟨B, m, d⟩ := b
  obtain ⟨C, q, e⟩ := c
  simp only at *
  go_enter Tryz.func33, Tryz.ntmps33
  go_upto_region 1 with (fail)
  have KB := ((BK.nil w).lit [.slice A n k, .slice B m d, .slice C q e, .map (some b1), .map (some b2)] 52).lit [.int .i64 0, .int .i64 0, .int .i64 0, .int .i64 0] 31
  simp only [World.size_alloc] at *
  generalize (w.alloc (.cells #[.slice A n k, .slice B m d, .slice C q e, .map (some b1), .map (some b2)] 52)).alloc (.cells #[.int .i64 0, .int .i64 0, .int .i64 0, .int .i64 0] 31) = W at *
  obtain ⟨_, x0, x1, x2, x3, x4, _⟩ := KB.tail.head.fiveL
  go_wp2_with fail
  clear x0 x1 x2 x3 x4
  go_loopw [11] (fun v11 wr => ∃ i : Nat, i ≤ m ∧ v11 = .int .i64 i ∧ Hid (∀ j, j < i → zoneF S j = none) ∧ BK w [(w.heap.size + 1, [.int .i64 0, .int .i64 0, .int .i64 0, .int .i64 0]), (w.heap.size, [.slice A n k, .slice B m d, .slice C q e, .map (some b1), .map (some b2)])] wr) (fun v _ => m - (intOf v).toNat)
  case atStart => exact ⟨0, by omega, rfl, Lib.hid (fun j h => absurd h (by omega)), KB⟩
  case round =>
    clear KB
    obtain ⟨i, hi, rfl, HM, KB⟩ := hrel
    by_cases h4 : i < m
    · obtain ⟨x, hxx⟩ : ∃ x, ze[i]? = some x := ⟨_, List.getElem?_eq_getElem (by rw [LZ.out]; exact h4)⟩
      obtain ⟨g, o, ea0, hg, ca⟩ := (HR.out.below KB.hb).cells (by omega)
      subst ea0
      have ra := row_at ca (show (ze.map Ze.vals)[i]? = some (Ze.vals x) by rw [List.getElem?_map, hxx]; rfl)
      obtain ⟨zs, zz⟩ := ZN.out i x hxx
      obtain ⟨j, e1, e2, e3, e4⟩ := zn_mean zs
      have WX := Lib.hid (fun W hb => WC.out x (List.mem_of_getElem? hxx) i W hb)
      have FW := Lib.hid (fun v (h : fsR x.1.eras.length (eraF S.rules x.1.eras i) = some v) => eras_fw h)
      clear ca hxx zs
      generalize fsR x.1.eras.length (eraF S.rules x.1.eras i) = fo at *
      obtain ⟨⟨zn, es⟩, ⟨ea, en, ec⟩⟩ := x
      have x0 : wr.cell? ⟨g, o + i * 2, none⟩ = some (.string zn) := ra 0 _ rfl
      have x1 : wr.cell? ⟨g, o + i * 2 + 1, none⟩ = some (.slice ea en ec) := ra 1 _ rfl
      clear ra
      simp only at *
      go_upto_region 4 with (fail)
      have KC := KB.lit [.string zn, .slice ea en ec] 39
      generalize wr.alloc (.cells #[.string zn, .slice ea en ec] 39) = V at *
      generalize wr.heap.size = rb at *
      clear x0 x1 KB hg
      obtain ⟨_, y0, y1, _⟩ := KC.head.two
      obtain ⟨_, s0, s1, s2, s3, s4, _⟩ := KC.tail.tail.head.fiveL
      have lk := look_br0 50 Tryz.underlying50 (NM.out V KC.hb) zn zz
      rw [e1] at lk
      simp only [Option.getD] at lk
      by_cases h5 : j = i
      · subst h5
        have E4 := Lib.hid (e4 rfl)
        clear e1 e2 e3 e4
        have WY := Lib.hid (WX.out V KC.hb)
        clear WX
        cases fo with
        | none =>
          replace WY := Lib.hid (show Calls Tryz.prog 59 #[.agg #[.slice A n k, .slice (some ⟨g, o, none⟩) m d, .slice C q e, .map (some b1), .map (some b2)], .agg #[.string zn, .slice ea en ec]] V (fun e w' => e = .returned (.tuple #[.int .i64 0, .int .i64 0]) ∧ Below V.heap.size V w') from WY.out)
          have R2 : zoneF S j = none := E4.out
          have H2 := Lib.hid (show ∀ j9, j9 < j + 1 → zoneF S j9 = none from upto_succ HM.out R2)
          clear HM R2 FW E4
          go_wp2_with (go_at_call 59; refine WY.out.mono ?_; clear WY; rintro e V3 ⟨rfl, hk⟩; replace KC := KC.below hk; clear hk lk y0 y1 s0 s1 s2 s3 s4)
          go_roundw
          case rel => exact ⟨j + 1, by omega, int_eqS (by omega), H2, KC.tail⟩
          case measure => simp only [intOf]; omega
        | some v =>
          obtain ⟨v1, v2, v3⟩ := FW.out v rfl
          have EQ := Lib.hid (HIT.out j v h4 E4.out HM.out)
          clear FW E4 HM
          obtain ⟨er, kk, av, ev⟩ := v
          simp only at v1 v2 v3
          subst v2 v3
          replace WY := Lib.hid (show Calls Tryz.prog 59 #[.agg #[.slice A n k, .slice (some ⟨g, o, none⟩) m d, .slice C q e, .map (some b1), .map (some b2)], .agg #[.string zn, .slice ea en ec]] V (fun e w' => e = .returned (.tuple #[.int .i64 ev, .int .i64 er]) ∧ Below V.heap.size V w') from WY.out)
          have d6 : (er != 0) = true := by simp [v1]
          have d7 : (er == 0) = false := by simp [v1]
          go_upto_region 8 with (go_at_call 59; refine WY.out.mono ?_; clear WY; rintro e V3 ⟨rfl, hk⟩; replace KC := KC.below hk; clear hk lk y0 y1 s0 s1 s2 s3 s4)
          have KB := KC.tail
          clear KC
          have KZ := (KB.put (by omega) (by simp) [.int .i64 er, .int .i64 2, .int .i64 j, .int .i64 ev] rfl)
          obtain ⟨_, q0, q1, q2, q3, f0, f1, f2, f3⟩ := (KB).head.four
          obtain ⟨_, r0, r1, r2, r3, _⟩ := KZ.head.four
          have HB := KZ.hb
          simp only [setAll] at r0 r1 r2 r3 HB
          clear KZ
          go_wp2
          exact bodyPost_ret (v := .agg #[.int .i64 er, .int .i64 2, .int .i64 j, .int .i64 ev]) (by simp [results, Tryz.results33, go_sem, r0, r1, r2, r3]) rfl ⟨by rw [EQ.out]; rfl, HB⟩
      · have EQ := Lib.hid (HIT.out i ⟨10, 2, i, 0⟩ h4 (e3 h5) HM.out)
        have d5 : ((j : Int) == (i : Int)) = false := by simp; omega
        have h6 : ¬ (j : Int) = (i : Int) := by omega
        clear e1 e2 e3 e4 HM WX FW
        go_upto_region 5 with (fail)
        have KB := KC.tail
        clear KC lk y0 y1 s0 s1 s2 s3 s4
        have KZ := (KB.put (by omega) (by simp) [.int .i64 10, .int .i64 2, .int .i64 i, .int .i64 0] rfl)
        obtain ⟨_, q0, q1, q2, q3, f0, f1, f2, f3⟩ := (KB).head.four
        obtain ⟨_, r0, r1, r2, r3, _⟩ := KZ.head.four
        have HB := KZ.hb
        simp only [setAll] at r0 r1 r2 r3 HB
        clear KZ
        go_wp2
        exact bodyPost_ret (v := .agg #[.int .i64 10, .int .i64 2, .int .i64 i, .int .i64 0]) (by simp [results, Tryz.results33, go_sem, r0, r1, r2, r3]) rfl ⟨by rw [EQ.out]; rfl, HB⟩
    · obtain rfl : i = m := by omega
      have EQ := Lib.hid (NO.out HM.out)
      have KZ := (KB.put (by omega) (by simp) [.int .i64 0, .int .i64 0, .int .i64 0, .int .i64 0] rfl)
      obtain ⟨_, q0, q1, q2, q3, f0, f1, f2, f3⟩ := (KB).head.four
      obtain ⟨_, r0, r1, r2, r3, _⟩ := KZ.head.four
      have HB := KZ.hb
      simp only [setAll] at r0 r1 r2 r3 HB
      clear KZ
      go_wp2
      exact bodyPost_ret (v := .agg #[.int .i64 0, .int .i64 0, .int .i64 0, .int .i64 0]) (by simp [results, Tryz.results33, go_sem, r0, r1, r2, r3]) rfl ⟨by rw [EQ.out]; rfl, HB⟩
def sfx13 (o0 o1 o2 o3 o4 o5 : Option Fw) : Nat → Option Fw
  | 0 => o0.or (o1.or (o2.or (o3.or (o4.or o5))))
  | 1 => o1.or (o2.or (o3.or (o4.or o5)))
  | 2 => o2.or (o3.or (o4.or o5))
  | 3 => o3.or (o4.or o5)
  | 4 => o4.or o5
  | 5 => o5
  | _ => none
theorem flawM (A B C : Option Addr) (n k m d q e b1 b2 : Nat) (w : World) (o0 : Option Fw) (C0 : Hid (∀ W, Below w.heap.size w W → Calls Tryz.prog 31 #[.agg #[.slice A n k, .slice B m d, .slice C q e, .map (some b1), .map (some b2)]] W (RetFw W o0))) (o1 : Option Fw) (C1 : Hid (∀ W, Below w.heap.size w W → Calls Tryz.prog 32 #[.agg #[.slice A n k, .slice B m d, .slice C q e, .map (some b1), .map (some b2)]] W (RetFw W o1))) (o2 : Option Fw) (C2 : Hid (∀ W, Below w.heap.size w W → Calls Tryz.prog 33 #[.agg #[.slice A n k, .slice B m d, .slice C q e, .map (some b1), .map (some b2)]] W (RetFw W o2))) (o3 : Option Fw) (C3 : Hid (∀ W, Below w.heap.size w W → Calls Tryz.prog 34 #[.agg #[.slice A n k, .slice B m d, .slice C q e, .map (some b1), .map (some b2)]] W (RetFw W o3))) (o4 : Option Fw) (C4 : Hid (∀ W, Below w.heap.size w W → Calls Tryz.prog 35 #[.agg #[.slice A n k, .slice B m d, .slice C q e, .map (some b1), .map (some b2)]] W (RetFw W o4))) (o5 : Option Fw) (C5 : Hid (∀ W, Below w.heap.size w W → Calls Tryz.prog 36 #[.agg #[.slice A n k, .slice B m d, .slice C q e, .map (some b1), .map (some b2)]] W (RetFw W o5))) (e0 : ∀ v, o0 = some v → v.err ≠ 0) (e1 : ∀ v, o1 = some v → v.err ≠ 0) (e2 : ∀ v, o2 = some v → v.err ≠ 0) (e3 : ∀ v, o3 = some v → v.err ≠ 0) (e4 : ∀ v, o4 = some v → v.err ≠ 0) (e5 : ∀ v, o5 = some v → v.err ≠ 0) (res : Option Fw) (hr : res = o0.or (o1.or (o2.or (o3.or (o4.or o5))))) : Calls Tryz.prog 12 #[.agg #[.slice A n k, .slice B m d, .slice C q e, .map (some b1), .map (some b2)]] w (RetFw w res) := by
  have HR := Lib.hid (show res = sfx13 o0 o1 o2 o3 o4 o5 0 from hr)
  clear hr
  go_enter Tryz.func12, Tryz.ntmps12
  go_upto_region 1 with (fail)
  have KB := ((BK.nil w).lit [.slice A n k, .slice B m d, .slice C q e, .map (some b1), .map (some b2)] 52).lit [.int .i64 0, .int .i64 0, .int .i64 0, .int .i64 0] 31
  simp only [World.size_alloc] at *
  generalize (w.alloc (.cells #[.slice A n k, .slice B m d, .slice C q e, .map (some b1), .map (some b2)] 52)).alloc (.cells #[.int .i64 0, .int .i64 0, .int .i64 0, .int .i64 0] 31) = W at *
  obtain ⟨_, x0, x1, x2, x3, x4, _⟩ := KB.tail.head.fiveL
  have KC := KB.lit [.func (.func 31) #[.agg #[.slice A n k, .slice B m d, .slice C q e, .map (some b1), .map (some b2)]] #[], .func (.func 32) #[.agg #[.slice A n k, .slice B m d, .slice C q e, .map (some b1), .map (some b2)]] #[], .func (.func 33) #[.agg #[.slice A n k, .slice B m d, .slice C q e, .map (some b1), .map (some b2)]] #[], .func (.func 34) #[.agg #[.slice A n k, .slice B m d, .slice C q e, .map (some b1), .map (some b2)]] #[], .func (.func 35) #[.agg #[.slice A n k, .slice B m d, .slice C q e, .map (some b1), .map (some b2)]] #[], .func (.func 36) #[.agg #[.slice A n k, .slice B m d, .slice C q e, .map (some b1), .map (some b2)]] #[]] 54
  rw [show ([.func (.func 31) #[.agg #[.slice A n k, .slice B m d, .slice C q e, .map (some b1), .map (some b2)]] #[], .func (.func 32) #[.agg #[.slice A n k, .slice B m d, .slice C q e, .map (some b1), .map (some b2)]] #[], .func (.func 33) #[.agg #[.slice A n k, .slice B m d, .slice C q e, .map (some b1), .map (some b2)]] #[], .func (.func 34) #[.agg #[.slice A n k, .slice B m d, .slice C q e, .map (some b1), .map (some b2)]] #[], .func (.func 35) #[.agg #[.slice A n k, .slice B m d, .slice C q e, .map (some b1), .map (some b2)]] #[], .func (.func 36) #[.agg #[.slice A n k, .slice B m d, .slice C q e, .map (some b1), .map (some b2)]] #[]] : List Value).toArray = #[.func (.func 31) #[.agg #[.slice A n k, .slice B m d, .slice C q e, .map (some b1), .map (some b2)]] #[], .func (.func 32) #[.agg #[.slice A n k, .slice B m d, .slice C q e, .map (some b1), .map (some b2)]] #[], .func (.func 33) #[.agg #[.slice A n k, .slice B m d, .slice C q e, .map (some b1), .map (some b2)]] #[], .func (.func 34) #[.agg #[.slice A n k, .slice B m d, .slice C q e, .map (some b1), .map (some b2)]] #[], .func (.func 35) #[.agg #[.slice A n k, .slice B m d, .slice C q e, .map (some b1), .map (some b2)]] #[], .func (.func 36) #[.agg #[.slice A n k, .slice B m d, .slice C q e, .map (some b1), .map (some b2)]] #[]] from rfl] at KC
  go_upto_region 2 with (fail)
  generalize W.alloc (.cells #[.func (.func 31) #[.agg #[.slice A n k, .slice B m d, .slice C q e, .map (some b1), .map (some b2)]] #[], .func (.func 32) #[.agg #[.slice A n k, .slice B m d, .slice C q e, .map (some b1), .map (some b2)]] #[], .func (.func 33) #[.agg #[.slice A n k, .slice B m d, .slice C q e, .map (some b1), .map (some b2)]] #[], .func (.func 34) #[.agg #[.slice A n k, .slice B m d, .slice C q e, .map (some b1), .map (some b2)]] #[], .func (.func 35) #[.agg #[.slice A n k, .slice B m d, .slice C q e, .map (some b1), .map (some b2)]] #[], .func (.func 36) #[.agg #[.slice A n k, .slice B m d, .slice C q e, .map (some b1), .map (some b2)]] #[]] 54) = U at *
  generalize W.heap.size = fb at *
  clear KB x0 x1 x2 x3 x4
  go_loopw [20] (fun v20 wr => ∃ i : Int, 0 ≤ i ∧ i ≤ 6 ∧ v20 = .int .i64 i ∧ Hid (res = sfx13 o0 o1 o2 o3 o4 o5 i.toNat) ∧ BK w [(fb, [.func (.func 31) #[.agg #[.slice A n k, .slice B m d, .slice C q e, .map (some b1), .map (some b2)]] #[], .func (.func 32) #[.agg #[.slice A n k, .slice B m d, .slice C q e, .map (some b1), .map (some b2)]] #[], .func (.func 33) #[.agg #[.slice A n k, .slice B m d, .slice C q e, .map (some b1), .map (some b2)]] #[], .func (.func 34) #[.agg #[.slice A n k, .slice B m d, .slice C q e, .map (some b1), .map (some b2)]] #[], .func (.func 35) #[.agg #[.slice A n k, .slice B m d, .slice C q e, .map (some b1), .map (some b2)]] #[], .func (.func 36) #[.agg #[.slice A n k, .slice B m d, .slice C q e, .map (some b1), .map (some b2)]] #[]]), (w.heap.size + 1, [.int .i64 0, .int .i64 0, .int .i64 0, .int .i64 0]), (w.heap.size, [.slice A n k, .slice B m d, .slice C q e, .map (some b1), .map (some b2)])] wr) (fun v _ => 6 - (intOf v).toNat)
  case atStart => exact ⟨0, by omega, by omega, rfl, Lib.hid HR.out, KC⟩
  case round =>
    clear KC HR
    obtain ⟨i, hi0, hi, rfl, HS, KB⟩ := hrel
    by_cases h4 : i < 6
    · obtain rfl | rfl | rfl | rfl | rfl | rfl : i = 0 ∨ i = 1 ∨ i = 2 ∨ i = 3 ∨ i = 4 ∨ i = 5 := by omega
      · have hcell := KB.head.cs.1
        have HB := KB.hb
        cases ho : o0 with
        | none =>
          rw [ho] at C0 HS
          have CX := Lib.hid (show Calls Tryz.prog 31 #[.agg #[.slice A n k, .slice B m d, .slice C q e, .map (some b1), .map (some b2)]] wr (fun e w' => e = .returned (.agg #[.int .i64 0, .int .i64 0, .int .i64 0, .int .i64 0]) ∧ Below wr.heap.size wr w') from C0.out wr HB)
          have H2 := Lib.hid (show res = sfx13 o0 o1 o2 o3 o4 o5 1 from HS.out)
          go_upto_region 5 with (go_at_call 31; refine CX.out.mono ?_; clear CX; rintro e V3 ⟨rfl, hk⟩)
          have KD := (KB.below hk).lit [.int .i64 0, .int .i64 0, .int .i64 0, .int .i64 0] 31
          generalize V3.alloc (.cells #[.int .i64 0, .int .i64 0, .int .i64 0, .int .i64 0] 31) = V4 at *
          clear KB hk hcell HB
          obtain ⟨_, z0, z1, z2, z3, _⟩ := KD.head.four
          have KB := KD.tail
          clear KD
          go_wp2
          go_roundw
          case rel => exact ⟨1, by omega, by omega, rfl, H2, KB⟩
          case measure => simp only [intOf]; omega
        | some v =>
          rw [ho] at C0 HS
          have ve := e0 v ho
          have EQ := Lib.hid (show res = some v from HS.out)
          obtain ⟨er, kk, av, ev⟩ := v
          simp only at ve
          have CX := Lib.hid (show Calls Tryz.prog 31 #[.agg #[.slice A n k, .slice B m d, .slice C q e, .map (some b1), .map (some b2)]] wr (fun e w' => e = .returned (.agg #[.int .i64 er, .int .i64 kk, .int .i64 av, .int .i64 ev]) ∧ Below wr.heap.size wr w') from C0.out wr HB)
          have d7 : (er == 0) = false := by simp [ve]
          clear HS
          go_upto_region 5 with (go_at_call 31; refine CX.out.mono ?_; clear CX; rintro e V3 ⟨rfl, hk⟩)
          have KD := (KB.below hk).lit [.int .i64 er, .int .i64 kk, .int .i64 av, .int .i64 ev] 31
          generalize V3.alloc (.cells #[.int .i64 er, .int .i64 kk, .int .i64 av, .int .i64 ev] 31) = V4 at *
          clear KB hk hcell HB
          obtain ⟨_, z0, z1, z2, z3, _⟩ := KD.head.four
          have KB := KD.tail.tail
          clear KD
          go_upto_region 6 with (fail)
          have KZ := (KB.put (by omega) (by simp) [.int .i64 er, .int .i64 kk, .int .i64 av, .int .i64 ev] rfl)
          obtain ⟨_, q0, q1, q2, q3, f0, f1, f2, f3⟩ := (KB).head.four
          obtain ⟨_, r0, r1, r2, r3, _⟩ := KZ.head.four
          have HB := KZ.hb
          simp only [setAll] at r0 r1 r2 r3 HB
          clear KZ
          go_wp2
          exact bodyPost_ret (v := .agg #[.int .i64 er, .int .i64 kk, .int .i64 av, .int .i64 ev]) (by simp [results, Tryz.results12, go_sem, r0, r1, r2, r3]) rfl ⟨by rw [EQ.out]; rfl, HB⟩
      · have hcell := KB.head.cs.2.2.1
        have HB := KB.hb
        cases ho : o1 with
        | none =>
          rw [ho] at C1 HS
          have CX := Lib.hid (show Calls Tryz.prog 32 #[.agg #[.slice A n k, .slice B m d, .slice C q e, .map (some b1), .map (some b2)]] wr (fun e w' => e = .returned (.agg #[.int .i64 0, .int .i64 0, .int .i64 0, .int .i64 0]) ∧ Below wr.heap.size wr w') from C1.out wr HB)
          have H2 := Lib.hid (show res = sfx13 o0 o1 o2 o3 o4 o5 2 from HS.out)
          go_upto_region 5 with (go_at_call 32; refine CX.out.mono ?_; clear CX; rintro e V3 ⟨rfl, hk⟩)
          have KD := (KB.below hk).lit [.int .i64 0, .int .i64 0, .int .i64 0, .int .i64 0] 31
          generalize V3.alloc (.cells #[.int .i64 0, .int .i64 0, .int .i64 0, .int .i64 0] 31) = V4 at *
          clear KB hk hcell HB
          obtain ⟨_, z0, z1, z2, z3, _⟩ := KD.head.four
          have KB := KD.tail
          clear KD
          go_wp2
          go_roundw
          case rel => exact ⟨2, by omega, by omega, rfl, H2, KB⟩
          case measure => simp only [intOf]; omega
        | some v =>
          rw [ho] at C1 HS
          have ve := e1 v ho
          have EQ := Lib.hid (show res = some v from HS.out)
          obtain ⟨er, kk, av, ev⟩ := v
          simp only at ve
          have CX := Lib.hid (show Calls Tryz.prog 32 #[.agg #[.slice A n k, .slice B m d, .slice C q e, .map (some b1), .map (some b2)]] wr (fun e w' => e = .returned (.agg #[.int .i64 er, .int .i64 kk, .int .i64 av, .int .i64 ev]) ∧ Below wr.heap.size wr w') from C1.out wr HB)
          have d7 : (er == 0) = false := by simp [ve]
          clear HS
          go_upto_region 5 with (go_at_call 32; refine CX.out.mono ?_; clear CX; rintro e V3 ⟨rfl, hk⟩)
          have KD := (KB.below hk).lit [.int .i64 er, .int .i64 kk, .int .i64 av, .int .i64 ev] 31
          generalize V3.alloc (.cells #[.int .i64 er, .int .i64 kk, .int .i64 av, .int .i64 ev] 31) = V4 at *
          clear KB hk hcell HB
          obtain ⟨_, z0, z1, z2, z3, _⟩ := KD.head.four
          have KB := KD.tail.tail
          clear KD
          go_upto_region 6 with (fail)
          have KZ := (KB.put (by omega) (by simp) [.int .i64 er, .int .i64 kk, .int .i64 av, .int .i64 ev] rfl)
          obtain ⟨_, q0, q1, q2, q3, f0, f1, f2, f3⟩ := (KB).head.four
          obtain ⟨_, r0, r1, r2, r3, _⟩ := KZ.head.four
          have HB := KZ.hb
          simp only [setAll] at r0 r1 r2 r3 HB
          clear KZ
          go_wp2
          exact bodyPost_ret (v := .agg #[.int .i64 er, .int .i64 kk, .int .i64 av, .int .i64 ev]) (by simp [results, Tryz.results12, go_sem, r0, r1, r2, r3]) rfl ⟨by rw [EQ.out]; rfl, HB⟩
      · have hcell := KB.head.cs.2.2.2.2.1
        have HB := KB.hb
        cases ho : o2 with
        | none =>
          rw [ho] at C2 HS
          have CX := Lib.hid (show Calls Tryz.prog 33 #[.agg #[.slice A n k, .slice B m d, .slice C q e, .map (some b1), .map (some b2)]] wr (fun e w' => e = .returned (.agg #[.int .i64 0, .int .i64 0, .int .i64 0, .int .i64 0]) ∧ Below wr.heap.size wr w') from C2.out wr HB)
          have H2 := Lib.hid (show res = sfx13 o0 o1 o2 o3 o4 o5 3 from HS.out)
          go_upto_region 5 with (go_at_call 33; refine CX.out.mono ?_; clear CX; rintro e V3 ⟨rfl, hk⟩)
          have KD := (KB.below hk).lit [.int .i64 0, .int .i64 0, .int .i64 0, .int .i64 0] 31
          generalize V3.alloc (.cells #[.int .i64 0, .int .i64 0, .int .i64 0, .int .i64 0] 31) = V4 at *
          clear KB hk hcell HB
          obtain ⟨_, z0, z1, z2, z3, _⟩ := KD.head.four
          have KB := KD.tail
          clear KD
          go_wp2
          go_roundw
          case rel => exact ⟨3, by omega, by omega, rfl, H2, KB⟩
          case measure => simp only [intOf]; omega
        | some v =>
          rw [ho] at C2 HS
          have ve := e2 v ho
          have EQ := Lib.hid (show res = some v from HS.out)
          obtain ⟨er, kk, av, ev⟩ := v
          simp only at ve
          have CX := Lib.hid (show Calls Tryz.prog 33 #[.agg #[.slice A n k, .slice B m d, .slice C q e, .map (some b1), .map (some b2)]] wr (fun e w' => e = .returned (.agg #[.int .i64 er, .int .i64 kk, .int .i64 av, .int .i64 ev]) ∧ Below wr.heap.size wr w') from C2.out wr HB)
          have d7 : (er == 0) = false := by simp [ve]
          clear HS
          go_upto_region 5 with (go_at_call 33; refine CX.out.mono ?_; clear CX; rintro e V3 ⟨rfl, hk⟩)
          have KD := (KB.below hk).lit [.int .i64 er, .int .i64 kk, .int .i64 av, .int .i64 ev] 31
          generalize V3.alloc (.cells #[.int .i64 er, .int .i64 kk, .int .i64 av, .int .i64 ev] 31) = V4 at *
          clear KB hk hcell HB
          obtain ⟨_, z0, z1, z2, z3, _⟩ := KD.head.four
          have KB := KD.tail.tail
          clear KD
          go_upto_region 6 with (fail)
          have KZ := (KB.put (by omega) (by simp) [.int .i64 er, .int .i64 kk, .int .i64 av, .int .i64 ev] rfl)
          obtain ⟨_, q0, q1, q2, q3, f0, f1, f2, f3⟩ := (KB).head.four
          obtain ⟨_, r0, r1, r2, r3, _⟩ := KZ.head.four
          have HB := KZ.hb
          simp only [setAll] at r0 r1 r2 r3 HB
          clear KZ
          go_wp2
          exact bodyPost_ret (v := .agg #[.int .i64 er, .int .i64 kk, .int .i64 av, .int .i64 ev]) (by simp [results, Tryz.results12, go_sem, r0, r1, r2, r3]) rfl ⟨by rw [EQ.out]; rfl, HB⟩
      · have hcell := KB.head.cs.2.2.2.2.2.2.1
        have HB := KB.hb
        cases ho : o3 with
        | none =>
          rw [ho] at C3 HS
          have CX := Lib.hid (show Calls Tryz.prog 34 #[.agg #[.slice A n k, .slice B m d, .slice C q e, .map (some b1), .map (some b2)]] wr (fun e w' => e = .returned (.agg #[.int .i64 0, .int .i64 0, .int .i64 0, .int .i64 0]) ∧ Below wr.heap.size wr w') from C3.out wr HB)
          have H2 := Lib.hid (show res = sfx13 o0 o1 o2 o3 o4 o5 4 from HS.out)
          go_upto_region 5 with (go_at_call 34; refine CX.out.mono ?_; clear CX; rintro e V3 ⟨rfl, hk⟩)
          have KD := (KB.below hk).lit [.int .i64 0, .int .i64 0, .int .i64 0, .int .i64 0] 31
          generalize V3.alloc (.cells #[.int .i64 0, .int .i64 0, .int .i64 0, .int .i64 0] 31) = V4 at *
          clear KB hk hcell HB
          obtain ⟨_, z0, z1, z2, z3, _⟩ := KD.head.four
          have KB := KD.tail
          clear KD
          go_wp2
          go_roundw
          case rel => exact ⟨4, by omega, by omega, rfl, H2, KB⟩
          case measure => simp only [intOf]; omega
        | some v =>
          rw [ho] at C3 HS
          have ve := e3 v ho
          have EQ := Lib.hid (show res = some v from HS.out)
          obtain ⟨er, kk, av, ev⟩ := v
          simp only at ve
          have CX := Lib.hid (show Calls Tryz.prog 34 #[.agg #[.slice A n k, .slice B m d, .slice C q e, .map (some b1), .map (some b2)]] wr (fun e w' => e = .returned (.agg #[.int .i64 er, .int .i64 kk, .int .i64 av, .int .i64 ev]) ∧ Below wr.heap.size wr w') from C3.out wr HB)
          have d7 : (er == 0) = false := by simp [ve]
          clear HS
          go_upto_region 5 with (go_at_call 34; refine CX.out.mono ?_; clear CX; rintro e V3 ⟨rfl, hk⟩)
          have KD := (KB.below hk).lit [.int .i64 er, .int .i64 kk, .int .i64 av, .int .i64 ev] 31
          generalize V3.alloc (.cells #[.int .i64 er, .int .i64 kk, .int .i64 av, .int .i64 ev] 31) = V4 at *
          clear KB hk hcell HB
          obtain ⟨_, z0, z1, z2, z3, _⟩ := KD.head.four
          have KB := KD.tail.tail
          clear KD
          go_upto_region 6 with (fail)
          have KZ := (KB.put (by omega) (by simp) [.int .i64 er, .int .i64 kk, .int .i64 av, .int .i64 ev] rfl)
          obtain ⟨_, q0, q1, q2, q3, f0, f1, f2, f3⟩ := (KB).head.four
          obtain ⟨_, r0, r1, r2, r3, _⟩ := KZ.head.four
          have HB := KZ.hb
          simp only [setAll] at r0 r1 r2 r3 HB
          clear KZ
          go_wp2
          exact bodyPost_ret (v := .agg #[.int .i64 er, .int .i64 kk, .int .i64 av, .int .i64 ev]) (by simp [results, Tryz.results12, go_sem, r0, r1, r2, r3]) rfl ⟨by rw [EQ.out]; rfl, HB⟩
      · have hcell := KB.head.cs.2.2.2.2.2.2.2.2.1
        have HB := KB.hb
        cases ho : o4 with
        | none =>
          rw [ho] at C4 HS
          have CX := Lib.hid (show Calls Tryz.prog 35 #[.agg #[.slice A n k, .slice B m d, .slice C q e, .map (some b1), .map (some b2)]] wr (fun e w' => e = .returned (.agg #[.int .i64 0, .int .i64 0, .int .i64 0, .int .i64 0]) ∧ Below wr.heap.size wr w') from C4.out wr HB)
          have H2 := Lib.hid (show res = sfx13 o0 o1 o2 o3 o4 o5 5 from HS.out)
          go_upto_region 5 with (go_at_call 35; refine CX.out.mono ?_; clear CX; rintro e V3 ⟨rfl, hk⟩)
          have KD := (KB.below hk).lit [.int .i64 0, .int .i64 0, .int .i64 0, .int .i64 0] 31
          generalize V3.alloc (.cells #[.int .i64 0, .int .i64 0, .int .i64 0, .int .i64 0] 31) = V4 at *
          clear KB hk hcell HB
          obtain ⟨_, z0, z1, z2, z3, _⟩ := KD.head.four
          have KB := KD.tail
          clear KD
          go_wp2
          go_roundw
          case rel => exact ⟨5, by omega, by omega, rfl, H2, KB⟩
          case measure => simp only [intOf]; omega
        | some v =>
          rw [ho] at C4 HS
          have ve := e4 v ho
          have EQ := Lib.hid (show res = some v from HS.out)
          obtain ⟨er, kk, av, ev⟩ := v
          simp only at ve
          have CX := Lib.hid (show Calls Tryz.prog 35 #[.agg #[.slice A n k, .slice B m d, .slice C q e, .map (some b1), .map (some b2)]] wr (fun e w' => e = .returned (.agg #[.int .i64 er, .int .i64 kk, .int .i64 av, .int .i64 ev]) ∧ Below wr.heap.size wr w') from C4.out wr HB)
          have d7 : (er == 0) = false := by simp [ve]
          clear HS
          go_upto_region 5 with (go_at_call 35; refine CX.out.mono ?_; clear CX; rintro e V3 ⟨rfl, hk⟩)
          have KD := (KB.below hk).lit [.int .i64 er, .int .i64 kk, .int .i64 av, .int .i64 ev] 31
          generalize V3.alloc (.cells #[.int .i64 er, .int .i64 kk, .int .i64 av, .int .i64 ev] 31) = V4 at *
          clear KB hk hcell HB
          obtain ⟨_, z0, z1, z2, z3, _⟩ := KD.head.four
          have KB := KD.tail.tail
          clear KD
          go_upto_region 6 with (fail)
          have KZ := (KB.put (by omega) (by simp) [.int .i64 er, .int .i64 kk, .int .i64 av, .int .i64 ev] rfl)
          obtain ⟨_, q0, q1, q2, q3, f0, f1, f2, f3⟩ := (KB).head.four
          obtain ⟨_, r0, r1, r2, r3, _⟩ := KZ.head.four
          have HB := KZ.hb
          simp only [setAll] at r0 r1 r2 r3 HB
          clear KZ
          go_wp2
          exact bodyPost_ret (v := .agg #[.int .i64 er, .int .i64 kk, .int .i64 av, .int .i64 ev]) (by simp [results, Tryz.results12, go_sem, r0, r1, r2, r3]) rfl ⟨by rw [EQ.out]; rfl, HB⟩
      · have hcell := KB.head.cs.2.2.2.2.2.2.2.2.2.2.1
        have HB := KB.hb
        cases ho : o5 with
        | none =>
          rw [ho] at C5 HS
          have CX := Lib.hid (show Calls Tryz.prog 36 #[.agg #[.slice A n k, .slice B m d, .slice C q e, .map (some b1), .map (some b2)]] wr (fun e w' => e = .returned (.agg #[.int .i64 0, .int .i64 0, .int .i64 0, .int .i64 0]) ∧ Below wr.heap.size wr w') from C5.out wr HB)
          have H2 := Lib.hid (show res = sfx13 o0 o1 o2 o3 o4 o5 6 from HS.out)
          go_upto_region 5 with (go_at_call 36; refine CX.out.mono ?_; clear CX; rintro e V3 ⟨rfl, hk⟩)
          have KD := (KB.below hk).lit [.int .i64 0, .int .i64 0, .int .i64 0, .int .i64 0] 31
          generalize V3.alloc (.cells #[.int .i64 0, .int .i64 0, .int .i64 0, .int .i64 0] 31) = V4 at *
          clear KB hk hcell HB
          obtain ⟨_, z0, z1, z2, z3, _⟩ := KD.head.four
          have KB := KD.tail
          clear KD
          go_wp2
          go_roundw
          case rel => exact ⟨6, by omega, by omega, rfl, H2, KB⟩
          case measure => simp only [intOf]; omega
        | some v =>
          rw [ho] at C5 HS
          have ve := e5 v ho
          have EQ := Lib.hid (show res = some v from HS.out)
          obtain ⟨er, kk, av, ev⟩ := v
          simp only at ve
          have CX := Lib.hid (show Calls Tryz.prog 36 #[.agg #[.slice A n k, .slice B m d, .slice C q e, .map (some b1), .map (some b2)]] wr (fun e w' => e = .returned (.agg #[.int .i64 er, .int .i64 kk, .int .i64 av, .int .i64 ev]) ∧ Below wr.heap.size wr w') from C5.out wr HB)
          have d7 : (er == 0) = false := by simp [ve]
          clear HS
          go_upto_region 5 with (go_at_call 36; refine CX.out.mono ?_; clear CX; rintro e V3 ⟨rfl, hk⟩)
          have KD := (KB.below hk).lit [.int .i64 er, .int .i64 kk, .int .i64 av, .int .i64 ev] 31
          generalize V3.alloc (.cells #[.int .i64 er, .int .i64 kk, .int .i64 av, .int .i64 ev] 31) = V4 at *
          clear KB hk hcell HB
          obtain ⟨_, z0, z1, z2, z3, _⟩ := KD.head.four
          have KB := KD.tail.tail
          clear KD
          go_upto_region 6 with (fail)
          have KZ := (KB.put (by omega) (by simp) [.int .i64 er, .int .i64 kk, .int .i64 av, .int .i64 ev] rfl)
          obtain ⟨_, q0, q1, q2, q3, f0, f1, f2, f3⟩ := (KB).head.four
          obtain ⟨_, r0, r1, r2, r3, _⟩ := KZ.head.four
          have HB := KZ.hb
          simp only [setAll] at r0 r1 r2 r3 HB
          clear KZ
          go_wp2
          exact bodyPost_ret (v := .agg #[.int .i64 er, .int .i64 kk, .int .i64 av, .int .i64 ev]) (by simp [results, Tryz.results12, go_sem, r0, r1, r2, r3]) rfl ⟨by rw [EQ.out]; rfl, HB⟩
    · obtain rfl : i = 6 := by omega
      have EQ := Lib.hid (show res = none from HS.out)
      have KD := KB.tail
      clear KB
      have KZ := (KD.put (by omega) (by simp) [.int .i64 0, .int .i64 0, .int .i64 0, .int .i64 0] rfl)
      obtain ⟨_, q0, q1, q2, q3, f0, f1, f2, f3⟩ := (KD).head.four
      obtain ⟨_, r0, r1, r2, r3, _⟩ := KZ.head.four
      have HB := KZ.hb
      simp only [setAll] at r0 r1 r2 r3 HB
      clear KZ
      go_wp2
      exact bodyPost_ret (v := .agg #[.int .i64 0, .int .i64 0, .int .i64 0, .int .i64 0]) (by simp [results, Tryz.results12, go_sem, r0, r1, r2, r3]) rfl ⟨by rw [EQ.out]; rfl, HB⟩
theorem names_ok {S : Sr} (h : S.ok) : namesLe S.rules := fun x hx => by
  refine ⟨?_, rules_short h x hx⟩
  have k := (h.2.2.2.1 x hx).2.2.2.2.1
  unfold setB at k
  split at k
  · rename_i c; omega
  · cases k
theorem ruleF_err {L : List Rl} {i : Nat} {v : Fw} (h : ruleF L i = some v) : v.err ≠ 0 := by
  unfold ruleF at h
  split at h
  · obtain ⟨_, rfl⟩ := if_some h
    simp
  · cases h
theorem setF_err {L : List Rl} {i : Nat} {v : Fw} (h : setF L i = some v) : v.err ≠ 0 := by
  unfold setF at h
  split at h
  · obtain ⟨c, rfl⟩ := if_some h
    exact c.2
  · cases h
theorem zoneF_err {S : Sr} {i : Nat} {v : Fw} (h : zoneF S i = some v) : v.err ≠ 0 := by
  unfold zoneF at h
  split at h
  · split at h
    · obtain rfl := Option.some.inj h
      simp
    · exact (eras_fw h).1
  · cases h
theorem linkF1_err {S : Sr} {i : Nat} {v : Fw} (h : linkF1 S i = some v) : v.err ≠ 0 := by
  unfold linkF1 at h
  split at h
  · obtain ⟨_, rfl⟩ := if_some h
    simp
  · cases h
theorem linkF2_err {S : Sr} {i : Nat} {v : Fw} (h : linkF2 S i = some v) : v.err ≠ 0 := by
  unfold linkF2 at h
  split at h
  · obtain ⟨_, rfl⟩ := if_some h
    simp
  · cases h
theorem ringF_err {S : Sr} {i : Nat} {v : Fw} (h : ringF S i = some v) : v.err ≠ 0 := by
  unfold ringF at h
  split at h
  · obtain ⟨_, rfl⟩ := if_some h
    simp
  · cases h
theorem fs_err {n : Nat} {F : Nat → Option Fw} (h : ∀ i v, F i = some v → v.err ≠ 0) : ∀ v, fsR n F = some v → v.err ≠ 0 := fun v e => by
  obtain ⟨i, _, k⟩ := fsR_some e
  exact h i v k
theorem check_code (S : Sr) : checkO S = (fsR S.rules.length (ruleF S.rules)).or ((fsR S.rules.length (setF S.rules)).or ((fsR S.zones.length (zoneF S)).or
    ((fsR S.links.length (linkF1 S)).or ((fsR S.links.length (linkF2 S)).or (fsR S.links.length (ringF S)))))) := by
  unfold checkO
  cases h : fsR S.links.length (linkF1 S) with
  | some v => rfl
  | none => rw [show ringF S = linkF3 S from funext (ring_is (fsR_none.1 h))]
theorem ck_no (A B C : Option Addr) (n k m d q e : Nat) (w : World) (RC : Hid (∀ W, Below w.heap.size w W → Calls Tryz.prog 10 #[.agg #[.slice A n k, .slice B m d, .slice C q e]] W (RetV W (.bool false)))) : Calls Tryz.prog 6 #[.agg #[.slice A n k, .slice B m d, .slice C q e]] w (RetV w (.agg #[.int .i64 1, .int .i64 0, .int .i64 0, .int .i64 0])) := by
  go_enter Tryz.func6, Tryz.ntmps6
  go_upto_region 1 with (fail)
  have KB := ((BK.nil w).lit [.slice A n k, .slice B m d, .slice C q e] 26).lit [.int .i64 0, .int .i64 0, .int .i64 0, .int .i64 0] 31
  simp only [World.size_alloc] at *
  generalize (w.alloc (.cells #[.slice A n k, .slice B m d, .slice C q e] 26)).alloc (.cells #[.int .i64 0, .int .i64 0, .int .i64 0, .int .i64 0] 31) = W at *
  obtain ⟨_, x0, x1, x2, _⟩ := KB.tail.head.three
  go_upto_region 2 with (go_at_call 10; refine (RC.out _ KB.hb).mono ?_; clear RC; rintro e9 V3 ⟨rfl, hk⟩; replace KB := KB.below hk; clear hk x0 x1 x2)
  have KZ := (KB.put (by omega) (by simp) [.int .i64 1, .int .i64 0, .int .i64 0, .int .i64 0] rfl)
  obtain ⟨_, q0, q1, q2, q3, f0, f1, f2, f3⟩ := (KB).head.four
  obtain ⟨_, r0, r1, r2, r3, _⟩ := KZ.head.four
  have HB := KZ.hb
  simp only [setAll] at r0 r1 r2 r3 HB
  clear KZ
  go_wp2
  exact bodyPost_ret (v := .agg #[.int .i64 1, .int .i64 0, .int .i64 0, .int .i64 0]) (by simp [results, Tryz.results6, go_sem, r0, r1, r2, r3]) rfl ⟨rfl, HB⟩
theorem ck_yes (A B C : Option Addr) (n k m d q e : Nat) (w : World) (er kk av ev : Int) (RC : Hid (∀ W, Below w.heap.size w W → Calls Tryz.prog 10 #[.agg #[.slice A n k, .slice B m d, .slice C q e]] W (RetV W (.bool true))))
    (LC : Hid (∀ W, Below w.heap.size w W → Calls Tryz.prog 11 #[.agg #[.slice A n k, .slice B m d, .slice C q e]] W (fun e9 w' => ∃ b1 b2 : Nat, e9 = .returned (.agg #[.slice A n k, .slice B m d, .slice C q e, .map (some b1), .map (some b2)]) ∧ Below W.heap.size W w' ∧ Calls Tryz.prog 12 #[.agg #[.slice A n k, .slice B m d, .slice C q e, .map (some b1), .map (some b2)]] w' (fun e9 w'' => e9 = .returned (.agg #[.int .i64 er, .int .i64 kk, .int .i64 av, .int .i64 ev]) ∧ Below w'.heap.size w' w'')))) :
    Calls Tryz.prog 6 #[.agg #[.slice A n k, .slice B m d, .slice C q e]] w (RetV w (.agg #[.int .i64 er, .int .i64 kk, .int .i64 av, .int .i64 ev])) := by
  go_enter Tryz.func6, Tryz.ntmps6
  go_upto_region 1 with (fail)
  have KB := ((BK.nil w).lit [.slice A n k, .slice B m d, .slice C q e] 26).lit [.int .i64 0, .int .i64 0, .int .i64 0, .int .i64 0] 31
  simp only [World.size_alloc] at *
  generalize (w.alloc (.cells #[.slice A n k, .slice B m d, .slice C q e] 26)).alloc (.cells #[.int .i64 0, .int .i64 0, .int .i64 0, .int .i64 0] 31) = W at *
  obtain ⟨_, x0, x1, x2, _⟩ := KB.tail.head.three
  go_upto_region 3 with (go_at_call 10; refine (RC.out _ KB.hb).mono ?_; clear RC; rintro e9 V3 ⟨rfl, hk⟩; replace KB := KB.below hk; clear hk x0 x1 x2)
  obtain ⟨_, x0, x1, x2, _⟩ := KB.tail.head.three
  go_wp2_with (first
    | (go_at_call 11; refine (LC.out _ KB.hb).mono ?_; clear LC; rintro e9 V4 ⟨b1, b2, rfl, hk, FC⟩; replace KB := KB.below hk; replace FC := Lib.hid FC; clear hk x0 x1 x2)
    | (go_at_call 12; refine FC.out.mono ?_; clear FC; rintro e9 V5 ⟨rfl, hk⟩; replace KB := KB.below hk; clear hk; have KZ := (KB.put (by omega) (by simp) [.int .i64 er, .int .i64 kk, .int .i64 av, .int .i64 ev] rfl); obtain ⟨_, q0, q1, q2, q3, f0, f1, f2, f3⟩ := KB.head.four; obtain ⟨_, r0, r1, r2, r3, _⟩ := KZ.head.four; have HB := KZ.hb; simp only [setAll] at r0 r1 r2 r3 HB; clear KZ KB))
  exact bodyPost_ret (v := .agg #[.int .i64 er, .int .i64 kk, .int .i64 av, .int .i64 ev]) (by simp [results, Tryz.results6, go_sem, r0, r1, r2, r3]) rfl ⟨rfl, HB⟩
theorem checkE (S : Sr) (a b c : Hd) (ze : List Ze) (w : World) (hv : SrcV w S a b c ze) (hx : S.in64) (T : ErasM w) : Calls Tryz.prog 6 #[.agg #[a.val, b.val, c.val]] w (RetV w (checkR S).val) := by
  have RC := fun W (h : Below w.heap.size w W) => rightSrcP S a b c ze W (hv.below h) hx
  cases h : okSr S with
  | false =>
    rw [h] at RC
    have e : checkR S = ⟨1, 0, 0, 0⟩ := by unfold checkR; rw [h]; rfl
    rw [e]
    exact ck_no a.a b.a c.a a.n a.c b.n b.c c.n c.c w (Lib.hid RC)
  | true =>
    rw [h] at RC
    have ok := ok_of h
    have e : checkR S = (checkO S).getD Fw.zero := by unfold checkR; rw [h]; rfl
    rw [e]
    have hn : S.rules.length = a.n := by have := hv.rules.len; simpa using this
    have small : S.zones.length + S.links.length ≤ 1000 := by have := ok.2.1; have := ok.2.2.1; omega
    refine ck_yes a.a b.a c.a a.n a.c b.n b.c c.n c.c w _ _ _ _ (Lib.hid RC) (Lib.hid fun W hb => ?_)
    refine (lookE S a b c ze W (hv.below hb) hx (by have := ok.1; omega) (names_ok ok) small).mono ?_
    rintro e9 W9 ⟨b1, n1, b2, n2, f, rfl, hl, hk⟩
    refine ⟨b1, b2, rfl, hk, ?_⟩
    have hb9 := below_thru hb hk
    exact flawM a.a b.a c.a a.n a.c b.n b.c c.n c.c b1 b2 W9
      _ (Lib.hid fun V hV => inYearsE S a b c ze b1 n1 b2 n2 f V (hl.below hV))
      _ (Lib.hid fun V hV => inSetsE S a b c ze b1 n1 b2 n2 f V (hl.below hV) hx (rules_fit ok) (T.mono (below_thru hb9 hV)).lens)
      _ (Lib.hid fun V hV => inZonesE S a b c ze b1 n1 b2 n2 f V (hl.below hV) hx ok (T.mono (below_thru hb9 hV)))
      _ (Lib.hid fun V hV => inNamesE S a b c ze b1 n1 b2 n2 f V (hl.below hV) hx)
      _ (Lib.hid fun V hV => inTargetsE S a b c ze b1 n1 b2 n2 f V (hl.below hV) hx)
      _ (Lib.hid fun V hV => inRingsE S a b c ze b1 n1 b2 n2 f V (hl.below hV) hx small)
      (fs_err fun i v h => ruleF_err h) (fs_err fun i v h => setF_err h) (fs_err fun i v h => zoneF_err h) (fs_err fun i v h => linkF1_err h) (fs_err fun i v h => linkF2_err h) (fs_err fun i v h => ringF_err h)
      _ (check_code S)
end Go.Proofs.YtmhpnmlgfdomkaaGreatDoor
