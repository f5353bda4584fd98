/- The document's answer of layer 10: the same source twice. -/
import Derived.Test.YtnkmlfbnfndfpaaGreatDoorZHsrc
import Derived.Test.YtnkmlfbnfndfpaaGreatDoorZGw
import Derived.IntWalk
import Derived.Lib.Hide
import Derived.LoopTactic
import Derived.Outline
import Derived.OwnWalk
import Derived.BigQuiet
import Derived.Deep.QuietTactic
import Derived.Deep.RegionHeld3
namespace Go.Proofs.YtnkmlfbnfndfpaaGreatDoor
open Go.RowKit
theorem row_at {k : Nat} {w : World} {g o : Nat} {l : List (List Value)} (h : ∀ (i : Nat) (h : i < l.length) (j : Nat) (u : Value), l[i][j]? = some u → w.cell? ⟨g, o + i * k + j, none⟩ = some u) {i : Nat} {r : List Value} (hi : l[i]? = some r) (j : Nat) (u : Value) (hj : r[j]? = some u) : w.cell? ⟨g, o + i * k + j, none⟩ = some u := by
  obtain ⟨hl, e⟩ := List.getElem?_eq_some_iff.1 hi
  exact h i hl j u (by rw [e]; exact hj)
theorem int_is {k : IntKind} {a b : Int} (h : a = b) : Value.int k a = Value.int k b := by rw [h]
set_option maxRecDepth 100000 in
set_option maxHeartbeats 8000000 in
theorem sameS (S : Sr) (r z l r' z' l' : Hd) (ze ze' : List Ze) (w : World) (ha : SrcV w S r z l ze) (hb : SrcV w S r' z' l' ze') :
    Calls Tryz.prog 12 #[.agg #[r.val, z.val, l.val], .agg #[r'.val, z'.val, l'.val]] w (RetV w (.bool true)) := by
  obtain ⟨A, n, c⟩ := r
  obtain ⟨A', n', c'⟩ := r'
  obtain ⟨B, m, d⟩ := z
  obtain ⟨B', m', d'⟩ := z'
  obtain ⟨C, q, e⟩ := l
  obtain ⟨C', q', e'⟩ := l'
  obtain rfl : n = n' := by have := ha.rules.len; have := hb.rules.len; simp at *; omega
  obtain rfl : m = m' := by have := ha.zones.len; have := hb.zones.len; have := congrArg List.length ha.all; have := congrArg List.length hb.all; simp at *; omega
  obtain rfl : q = q' := by have := ha.links.len; have := hb.links.len; simp at *; omega
  have n1 : n ≤ 9223372036854775807 := by have h1 : n ≤ c := ha.rules.cap; have h2 : c ≤ 9223372036854775807 := ha.rules.max; omega
  have m1 : m ≤ 9223372036854775807 := by have h1 : m ≤ d := ha.zones.cap; have h2 : d ≤ 9223372036854775807 := ha.zones.max; omega
  have q1 : q ≤ 9223372036854775807 := by have h1 : q ≤ e := ha.links.cap; have h2 : e ≤ 9223372036854775807 := ha.links.max; omega
  simp only [Hd.val]
  go_enter Tryz.func12, Tryz.ntmps12
  go_wp2
  generalize hW : (w.alloc (.cells #[.slice A n c, .slice B m d, .slice C q e] 26)).alloc (.cells #[.slice A' n c', .slice B' m d', .slice C' q e'] 26) = W0
  have hB0 : Below w.heap.size w W0 := by rw [← hW]; exact ((Below.refl _ w).alloc (Nat.le_refl _) _).alloc (by simp) _
  have s0 : W0.heap.size = w.heap.size + 2 := by rw [← hW]; simp
  have P := Lib.hid (show W0.cell? ⟨w.heap.size, 0, none⟩ = some (.slice A n c) ∧ W0.cell? ⟨w.heap.size, 1, none⟩ = some (.slice B m d) ∧ W0.cell? ⟨w.heap.size, 2, none⟩ = some (.slice C q e) from by rw [← hW]; simp)
  have Q := Lib.hid (show W0.cell? ⟨w.heap.size + 1, 0, none⟩ = some (.slice A' n c') ∧ W0.cell? ⟨w.heap.size + 1, 1, none⟩ = some (.slice B' m d') ∧ W0.cell? ⟨w.heap.size + 1, 2, none⟩ = some (.slice C' q e') from by rw [← hW]; simp)
  have HA := Lib.hid (ha.below hB0)
  have HB := Lib.hid (hb.below hB0)
  clear ha hb hW
  go_loopw [5] (fun v wr => ∃ k : Nat, k ≤ n ∧ v = .int .i64 k ∧ Below W0.heap.size W0 wr) (fun v _ => n - (intOf v).toNat)
  case atStart => exact ⟨0, by omega, rfl, Below.refl _ _⟩
  case round =>
    obtain ⟨k, hk, rfl, hbel⟩ := hrel
    have p0 := (hbel.cell (p := ⟨w.heap.size, 0, none⟩) (by show w.heap.size < _; omega)).trans P.out.1
    have p1 := (hbel.cell (p := ⟨w.heap.size, 1, none⟩) (by show w.heap.size < _; omega)).trans P.out.2.1
    have q0 := (hbel.cell (p := ⟨w.heap.size + 1, 0, none⟩) (by show w.heap.size + 1 < _; omega)).trans Q.out.1
    have q1' := (hbel.cell (p := ⟨w.heap.size + 1, 1, none⟩) (by show w.heap.size + 1 < _; omega)).trans Q.out.2.1
    by_cases h1 : k < n
    · obtain ⟨x, hx⟩ : ∃ x, S.rules[k]? = some x := by
        have hl : (S.rules.map Rl.vals).length = n := HA.out.rules.len
        rw [List.length_map] at hl
        exact ⟨_, List.getElem?_eq_getElem (by omega)⟩
      obtain ⟨g, o, ea, hg, ca⟩ := (HA.out.rules.below hbel).cells (by show 0 < n; omega)
      obtain ⟨g', o', eb, hg', cb⟩ := (HB.out.rules.below hbel).cells (by show 0 < n; omega)
      replace ea : A = some ⟨g, o, none⟩ := ea
      replace eb : A' = some ⟨g', o', none⟩ := eb
      subst ea eb
      have hm : (S.rules.map Rl.vals)[k]? = some x.vals := by rw [List.getElem?_map, hx]; rfl
      have ra := row_at ca hm
      have rb := row_at cb hm
      have xa0 : wr.cell? ⟨g, o + k * 11, none⟩ = some (.string x.name) := ra 0 _ rfl
      have xa1 : wr.cell? ⟨g, o + k * 11 + 1, none⟩ = some (.int .i64 x.fr) := ra 1 _ rfl
      have xa2 : wr.cell? ⟨g, o + k * 11 + 2, none⟩ = some (.int .i64 x.last) := ra 2 _ rfl
      have xa3 : wr.cell? ⟨g, o + k * 11 + 3, none⟩ = some (.int .i64 x.sp.mo) := ra 3 _ rfl
      have xa4 : wr.cell? ⟨g, o + k * 11 + 4, none⟩ = some (.int .i64 x.sp.ki) := ra 4 _ rfl
      have xa5 : wr.cell? ⟨g, o + k * 11 + 5, none⟩ = some (.int .i64 x.sp.wd) := ra 5 _ rfl
      have xa6 : wr.cell? ⟨g, o + k * 11 + 6, none⟩ = some (.int .i64 x.sp.da) := ra 6 _ rfl
      have xa7 : wr.cell? ⟨g, o + k * 11 + 7, none⟩ = some (.int .i64 x.sp.ti) := ra 7 _ rfl
      have xa8 : wr.cell? ⟨g, o + k * 11 + 8, none⟩ = some (.int .i64 x.sp.re) := ra 8 _ rfl
      have xa9 : wr.cell? ⟨g, o + k * 11 + 9, none⟩ = some (.int .i64 x.save) := ra 9 _ rfl
      have xa10 : wr.cell? ⟨g, o + k * 11 + 10, none⟩ = some (.string x.letter) := ra 10 _ rfl
      have xb0 : wr.cell? ⟨g', o' + k * 11, none⟩ = some (.string x.name) := rb 0 _ rfl
      have xb1 : wr.cell? ⟨g', o' + k * 11 + 1, none⟩ = some (.int .i64 x.fr) := rb 1 _ rfl
      have xb2 : wr.cell? ⟨g', o' + k * 11 + 2, none⟩ = some (.int .i64 x.last) := rb 2 _ rfl
      have xb3 : wr.cell? ⟨g', o' + k * 11 + 3, none⟩ = some (.int .i64 x.sp.mo) := rb 3 _ rfl
      have xb4 : wr.cell? ⟨g', o' + k * 11 + 4, none⟩ = some (.int .i64 x.sp.ki) := rb 4 _ rfl
      have xb5 : wr.cell? ⟨g', o' + k * 11 + 5, none⟩ = some (.int .i64 x.sp.wd) := rb 5 _ rfl
      have xb6 : wr.cell? ⟨g', o' + k * 11 + 6, none⟩ = some (.int .i64 x.sp.da) := rb 6 _ rfl
      have xb7 : wr.cell? ⟨g', o' + k * 11 + 7, none⟩ = some (.int .i64 x.sp.ti) := rb 7 _ rfl
      have xb8 : wr.cell? ⟨g', o' + k * 11 + 8, none⟩ = some (.int .i64 x.sp.re) := rb 8 _ rfl
      have xb9 : wr.cell? ⟨g', o' + k * 11 + 9, none⟩ = some (.int .i64 x.save) := rb 9 _ rfl
      have xb10 : wr.cell? ⟨g', o' + k * 11 + 10, none⟩ = some (.string x.letter) := rb 10 _ rfl
      clear ca cb ra rb hm hx
      go_wp2
      go_quiet (fail)
      go_wp2
      go_roundw
      case rel => exact ⟨k + 1, by omega, int_is (by omega), below_drewN hbel _⟩
      case measure => simp only [intOf]; omega
    · obtain rfl : k = n := by omega
      go_wp2
      clear p0 p1 q0 q1'
      go_loopw [6] (fun v wr => ∃ k : Nat, k ≤ m ∧ v = .int .i64 k ∧ Below W0.heap.size W0 wr) (fun v _ => m - (intOf v).toNat)
      case atStart => exact ⟨0, by omega, rfl, hbel⟩
      case round =>
        clear hbel hk h1
        obtain ⟨i, hi, rfl, hbel⟩ := hrel
        have p1 := (hbel.cell (p := ⟨w.heap.size, 1, none⟩) (by show w.heap.size < _; omega)).trans P.out.2.1
        have q1' := (hbel.cell (p := ⟨w.heap.size + 1, 1, none⟩) (by show w.heap.size + 1 < _; omega)).trans Q.out.2.1
        by_cases h1 : i < m
        · obtain ⟨za, hza⟩ : ∃ x, ze[i]? = some x := by
            have hl : (ze.map Ze.vals).length = m := HA.out.zones.len
            rw [List.length_map] at hl
            exact ⟨_, List.getElem?_eq_getElem (by omega)⟩
          obtain ⟨zb, hzb⟩ : ∃ x, ze'[i]? = some x := by
            have hl : (ze'.map Ze.vals).length = m := HB.out.zones.len
            rw [List.length_map] at hl
            exact ⟨_, List.getElem?_eq_getElem (by omega)⟩
          have zz : za.1 = zb.1 := by
            have h2 := congrArg (fun l => l[i]?) (HA.out.all.trans HB.out.all.symm)
            simp only [List.getElem?_map, hza, hzb, Option.map_some, Option.some.injEq] at h2
            exact h2
          have EA := Lib.hid ((HA.out.eras za (List.mem_of_getElem? hza)))
          have EB := Lib.hid ((HB.out.eras zb (List.mem_of_getElem? hzb)))
          obtain ⟨g, o, ea, hg, ca⟩ := (HA.out.zones.below hbel).cells (by show 0 < m; omega)
          obtain ⟨g', o', eb, hg', cb⟩ := (HB.out.zones.below hbel).cells (by show 0 < m; omega)
          replace ea : B = some ⟨g, o, none⟩ := ea
          replace eb : B' = some ⟨g', o', none⟩ := eb
          subst ea eb
          have ra := row_at ca (show (ze.map Ze.vals)[i]? = some za.vals by rw [List.getElem?_map, hza]; rfl)
          have rb := row_at cb (show (ze'.map Ze.vals)[i]? = some zb.vals by rw [List.getElem?_map, hzb]; rfl)
          obtain ⟨⟨nm, er⟩, ⟨X, u, cu⟩⟩ := za
          obtain ⟨⟨nm', er'⟩, ⟨X', u', cu'⟩⟩ := zb
          obtain ⟨rfl, rfl⟩ : nm = nm' ∧ er = er' := by simpa using zz
          obtain rfl : u = u' := by
            have h2 : (er.map Er.vals).length = u := EA.out.len
            have h3 : (er.map Er.vals).length = u' := EB.out.len
            omega
          have u1 : u ≤ 9223372036854775807 := by have h1 : u ≤ cu := EA.out.cap; have h2 : cu ≤ 9223372036854775807 := EA.out.max; omega
          have ya0 : wr.cell? ⟨g, o + i * 2, none⟩ = some (.string nm) := ra 0 _ rfl
          have ya1 : wr.cell? ⟨g, o + i * 2 + 1, none⟩ = some (.slice X u cu) := ra 1 _ rfl
          have yb0 : wr.cell? ⟨g', o' + i * 2, none⟩ = some (.string nm) := rb 0 _ rfl
          have yb1 : wr.cell? ⟨g', o' + i * 2 + 1, none⟩ = some (.slice X' u cu') := rb 1 _ rfl
          clear ca cb ra rb hza hzb zz
          go_wp2
          have hlt := hbel.size
          have na := World.new_ne wr _ p1
          have nb := World.new_ne wr _ q1'
          have nc := World.new_ne wr _ ya0
          have nd := World.new_ne wr _ yb0
          go_cut [7, 8] (fun va vb wx => ∃ bx by_, va = .pointer (some ⟨bx, 0, none⟩) ∧ vb = .pointer (some ⟨by_, 0, none⟩) ∧ wx.cell? ⟨bx, 0, none⟩ = some (.string nm) ∧ wx.cell? ⟨bx, 1, none⟩ = some (.slice X u cu) ∧ wx.cell? ⟨by_, 0, none⟩ = some (.string nm) ∧ wx.cell? ⟨by_, 1, none⟩ = some (.slice X' u cu') ∧ Below wr.heap.size wr wx)
          case first =>
            go_region_held3 (fun w' => w'.cell? ⟨w.heap.size, 1, none⟩ = some (.slice (some ⟨g, o, none⟩) m d) ∧ w'.cell? ⟨w.heap.size + 1, 1, none⟩ = some (.slice (some ⟨g', o', none⟩) m d') ∧ w'.cell? ⟨g, o + i * 2, none⟩ = some (.string nm) ∧ w'.cell? ⟨g, o + i * 2 + 1, none⟩ = some (.slice X u cu) ∧ w'.cell? ⟨g', o' + i * 2, none⟩ = some (.string nm) ∧ w'.cell? ⟨g', o' + i * 2 + 1, none⟩ = some (.slice X' u cu')) (go_keep) (fail)
            · go_wp2_with fail
              go_meet
              exact ⟨_, _, rfl, rfl, by simp, by simp, by simp, by simp, below_drewN (((Below.refl _ wr).alloc (Nat.le_refl _) _).alloc (by simp) _) 1⟩
            · go_wp2_with fail
              go_meet
              exact ⟨_, _, rfl, rfl, by simp, by simp, by simp, by simp, below_drewN (((Below.refl _ wr).alloc (Nat.le_refl _) _).alloc (by simp) _) 1⟩
          case rest =>
            obtain ⟨bx, by_, rfl, rfl, x0, x1, y0, y1, hb2⟩ := hcut
            clear na nb nc nd ya0 ya1 yb0 yb1 p1 q1'
            have lx : bx < wc.heap.size := World.block_lt_of_cell? _ _ x0
            have ly : by_ < wc.heap.size := World.block_lt_of_cell? _ _ y0
            have hbx : Below W0.heap.size W0 wc := hbel.trans (hb2.mono hlt)
            go_wp2
            go_loopw [9] (fun v wr2 => ∃ j : Nat, j ≤ u ∧ v = .int .i64 j ∧ Below wc.heap.size wc wr2) (fun v _ => u - (intOf v).toNat)
            case atStart => exact ⟨0, by omega, rfl, Below.refl _ _⟩
            case round =>
              obtain ⟨j, hj, rfl, hb3⟩ := hrel
              have x1' := (hb3.cell (p := ⟨bx, 1, none⟩) lx).trans x1
              have y1' := (hb3.cell (p := ⟨by_, 1, none⟩) ly).trans y1
              have hb4 : Below W0.heap.size W0 wr := hbx.trans (hb3.mono hbx.size)
              by_cases h2 : j < u
              · obtain ⟨x, hx⟩ : ∃ x, er[j]? = some x := by
                  have hl : (er.map Er.vals).length = u := EA.out.len
                  rw [List.length_map] at hl
                  exact ⟨_, List.getElem?_eq_getElem (by omega)⟩
                obtain ⟨g1, o1, ea, hg1, ca⟩ := ((show Rs 13 W0 X u cu (er.map Er.vals) from EA.out).below hb4).cells (by omega)
                obtain ⟨g2, o2, eb, hg2, cb⟩ := ((show Rs 13 W0 X' u cu' (er.map Er.vals) from EB.out).below hb4).cells (by omega)
                subst ea eb
                have hm : (er.map Er.vals)[j]? = some x.vals := by rw [List.getElem?_map, hx]; rfl
                have ra := row_at ca hm
                have rb := row_at cb hm
                have ua0 : wr.cell? ⟨g1, o1 + j * 13, none⟩ = some (.int .i64 x.off) := ra 0 _ rfl
                have ua1 : wr.cell? ⟨g1, o1 + j * 13 + 1, none⟩ = some (.int .i64 x.kind) := ra 1 _ rfl
                have ua2 : wr.cell? ⟨g1, o1 + j * 13 + 2, none⟩ = some (.int .i64 x.save) := ra 2 _ rfl
                have ua3 : wr.cell? ⟨g1, o1 + j * 13 + 3, none⟩ = some (.string x.rules) := ra 3 _ rfl
                have ua4 : wr.cell? ⟨g1, o1 + j * 13 + 4, none⟩ = some (.string x.fmt) := ra 4 _ rfl
                have ua5 : wr.cell? ⟨g1, o1 + j * 13 + 5, none⟩ = some (.bool x.til) := ra 5 _ rfl
                have ua6 : wr.cell? ⟨g1, o1 + j * 13 + 6, none⟩ = some (.int .i64 x.year) := ra 6 _ rfl
                have ua7 : wr.cell? ⟨g1, o1 + j * 13 + 7, none⟩ = some (.int .i64 x.sp.mo) := ra 7 _ rfl
                have ua8 : wr.cell? ⟨g1, o1 + j * 13 + 8, none⟩ = some (.int .i64 x.sp.ki) := ra 8 _ rfl
                have ua9 : wr.cell? ⟨g1, o1 + j * 13 + 9, none⟩ = some (.int .i64 x.sp.wd) := ra 9 _ rfl
                have ua10 : wr.cell? ⟨g1, o1 + j * 13 + 10, none⟩ = some (.int .i64 x.sp.da) := ra 10 _ rfl
                have ua11 : wr.cell? ⟨g1, o1 + j * 13 + 11, none⟩ = some (.int .i64 x.sp.ti) := ra 11 _ rfl
                have ua12 : wr.cell? ⟨g1, o1 + j * 13 + 12, none⟩ = some (.int .i64 x.sp.re) := ra 12 _ rfl
                have ub0 : wr.cell? ⟨g2, o2 + j * 13, none⟩ = some (.int .i64 x.off) := rb 0 _ rfl
                have ub1 : wr.cell? ⟨g2, o2 + j * 13 + 1, none⟩ = some (.int .i64 x.kind) := rb 1 _ rfl
                have ub2 : wr.cell? ⟨g2, o2 + j * 13 + 2, none⟩ = some (.int .i64 x.save) := rb 2 _ rfl
                have ub3 : wr.cell? ⟨g2, o2 + j * 13 + 3, none⟩ = some (.string x.rules) := rb 3 _ rfl
                have ub4 : wr.cell? ⟨g2, o2 + j * 13 + 4, none⟩ = some (.string x.fmt) := rb 4 _ rfl
                have ub5 : wr.cell? ⟨g2, o2 + j * 13 + 5, none⟩ = some (.bool x.til) := rb 5 _ rfl
                have ub6 : wr.cell? ⟨g2, o2 + j * 13 + 6, none⟩ = some (.int .i64 x.year) := rb 6 _ rfl
                have ub7 : wr.cell? ⟨g2, o2 + j * 13 + 7, none⟩ = some (.int .i64 x.sp.mo) := rb 7 _ rfl
                have ub8 : wr.cell? ⟨g2, o2 + j * 13 + 8, none⟩ = some (.int .i64 x.sp.ki) := rb 8 _ rfl
                have ub9 : wr.cell? ⟨g2, o2 + j * 13 + 9, none⟩ = some (.int .i64 x.sp.wd) := rb 9 _ rfl
                have ub10 : wr.cell? ⟨g2, o2 + j * 13 + 10, none⟩ = some (.int .i64 x.sp.da) := rb 10 _ rfl
                have ub11 : wr.cell? ⟨g2, o2 + j * 13 + 11, none⟩ = some (.int .i64 x.sp.ti) := rb 11 _ rfl
                have ub12 : wr.cell? ⟨g2, o2 + j * 13 + 12, none⟩ = some (.int .i64 x.sp.re) := rb 12 _ rfl
                clear ca cb ra rb hm hx
                go_wp2
                go_quiet (fail)
                go_wp2
                go_roundw
                case rel => exact ⟨j + 1, by omega, int_is (by omega), below_drewN hb3 _⟩
                case measure => simp only [intOf]; omega
              · obtain rfl : j = u := by omega
                go_wp2
                go_roundw
                case rel => exact ⟨i + 1, by omega, int_is (by omega), hb4⟩
                case measure => simp only [intOf]; omega
        · obtain rfl : i = m := by omega
          go_wp2
          clear p1 q1'
          go_loopw [10] (fun v wr => ∃ k : Nat, k ≤ q ∧ v = .int .i64 k ∧ Below W0.heap.size W0 wr) (fun v _ => q - (intOf v).toNat)
          case atStart => exact ⟨0, by omega, rfl, hbel⟩
          case round =>
            clear hbel hi h1
            obtain ⟨j, hj, rfl, hbel⟩ := hrel
            have p2 := (hbel.cell (p := ⟨w.heap.size, 2, none⟩) (by show w.heap.size < _; omega)).trans P.out.2.2
            have q2 := (hbel.cell (p := ⟨w.heap.size + 1, 2, none⟩) (by show w.heap.size + 1 < _; omega)).trans Q.out.2.2
            by_cases h1 : j < q
            · obtain ⟨x, hx⟩ : ∃ x, S.links[j]? = some x := by
                have hl : (S.links.map Lk.vals).length = q := HA.out.links.len
                rw [List.length_map] at hl
                exact ⟨_, List.getElem?_eq_getElem (by omega)⟩
              obtain ⟨g, o, ea, hg, ca⟩ := (HA.out.links.below hbel).cells (by show 0 < q; omega)
              obtain ⟨g', o', eb, hg', cb⟩ := (HB.out.links.below hbel).cells (by show 0 < q; omega)
              replace ea : C = some ⟨g, o, none⟩ := ea
              replace eb : C' = some ⟨g', o', none⟩ := eb
              subst ea eb
              have hm : (S.links.map Lk.vals)[j]? = some x.vals := by rw [List.getElem?_map, hx]; rfl
              have ra := row_at ca hm
              have rb := row_at cb hm
              have xa0 : wr.cell? ⟨g, o + j * 2, none⟩ = some (.string x.target) := ra 0 _ rfl
              have xa1 : wr.cell? ⟨g, o + j * 2 + 1, none⟩ = some (.string x.name) := ra 1 _ rfl
              have xb0 : wr.cell? ⟨g', o' + j * 2, none⟩ = some (.string x.target) := rb 0 _ rfl
              have xb1 : wr.cell? ⟨g', o' + j * 2 + 1, none⟩ = some (.string x.name) := rb 1 _ rfl
              clear ca cb ra rb hm hx
              go_wp2
              go_quiet (fail)
              go_wp2
              go_roundw
              case rel => exact ⟨j + 1, by omega, int_is (by omega), below_drewN hbel _⟩
              case measure => simp only [intOf]; omega
            · go_wp2
              go_ret
              exact ⟨rfl, hB0.trans (hbel.mono hB0.size)⟩
end Go.Proofs.YtnkmlfbnfndfpaaGreatDoor
