/- Stage 10's laws: package source is alive; names. -/
import Derived.Test.YtnkmlfbnfndfpaaGreatDoorXHspec
import Derived.Test.YtnkmlfbnfndfpaaGreatDoorXHsame
import Derived.Test.YtnkmlfbnfndfpaaGreatDoorXGj
set_option maxRecDepth 100000
set_option maxHeartbeats 64000000
namespace Go.Proofs.YtnkmlfbnfndfpaaGreatDoor
open Go.RowKit
theorem box2_below (w : World) (x y : Obj) : Below w.heap.size w ((w.alloc x).alloc y) := ((Below.refl _ w).alloc (Nat.le_refl _) _).alloc (by simp) _
theorem alive10 {Q : World → Prop} (C : ReadP Q) (w : World) (L : Q w) : Calls Tryz.prog 11 #[] w (RetV w (.bool true)) := by
  have MO := Lib.hid C.mono
  have PA := Lib.hid (fun W (L : Q W) => (ah3 ▸ C.parse aliveA (by decide) W L : Calls Tryz.prog 9 #[.string aliveA] W (RetSrcF W (aliveS, (0, 0, 0)))))
  have PB := Lib.hid (fun W (L : Q W) => (ah2 ▸ C.parse aliveB (by decide) W L : Calls Tryz.prog 9 #[.string aliveB] W (RetSrcF W (.none, (11, 1, 7)))))
  have SE := Lib.hid (fun W (L : Q W) => (ah4 ▸ C.set_ ⟨#[97]⟩ (by decide) W L : Calls Tryz.prog 18 #[.string ⟨#[97]⟩] W (RetV W (.bool true))))
  have PL := Lib.hid (fun W (L : Q W) => (ah5 ▸ C.place ⟨#[65, 47, 66]⟩ (by decide) W L : Calls Tryz.prog 20 #[.string ⟨#[65, 47, 66]⟩] W (RetV W (.bool true))))
  clear C
  go_enter Tryz.func11, Tryz.ntmps11
  go_wp2_with fail
  refine (PA.out _ L).mono ?_
  rintro e w1 ⟨⟨A, n, c⟩, ⟨B, m, d⟩, ⟨D, q, f⟩, ze, rfl, hS, hb⟩
  clear PA
  obtain rfl : (1 : Nat) = n := hS.rules.len
  obtain ⟨z, rfl⟩ : ∃ z, ze = [z] := by
    have h := congrArg List.length hS.all
    simp [aliveS] at h
    exact List.length_eq_one_iff.1 h
  obtain rfl : (1 : Nat) = m := hS.zones.len
  obtain ⟨zn, ⟨X, u, cu⟩⟩ := z
  have hz : zn = ⟨⟨#[65]⟩, [⟨3600, 2, 0, ⟨#[85, 83]⟩, ⟨#[67, 37, 115, 84]⟩, false, 0, .zero⟩]⟩ := by
    have h := hS.all
    simp [aliveS] at h
    exact h
  subst hz
  obtain ⟨g, o, eb, _, cb⟩ := hS.zones.cells Nat.one_pos
  have HE : eraRows w1 (_, ⟨X, u, cu⟩) := hS.eras _ (List.mem_singleton.2 rfl)
  obtain rfl : (1 : Nat) = u := HE.len
  obtain ⟨g2, o2, ee, _, ce⟩ := HE.cells Nat.one_pos
  replace eb : B = some ⟨g, o, none⟩ := eb
  replace ee : X = some ⟨g2, o2, none⟩ := ee
  subst eb ee
  have z1 : w1.cell? ⟨g, o + 1, none⟩ = some (.slice (some ⟨g2, o2, none⟩) 1 cu) := by have := row_at cb (i := 0) rfl 1 _ rfl; rw [Nat.zero_mul, Nat.add_zero] at this; exact this
  have e3 : w1.cell? ⟨g2, o2 + 3, none⟩ = some (.string ⟨#[85, 83]⟩) := by have := row_at ce (i := 0) rfl 3 _ rfl; rw [Nat.zero_mul, Nat.add_zero] at this; exact this
  clear cb ce HE hS
  simp only [Hd.val, Flt.val]
  have L1 := MO.out _ _ L hb
  have s1 := hb.size
  clear L
  go_upto_region 2 with (fail)
  have g1 : g < w1.heap.size := World.block_lt_of_cell? _ _ z1
  have g3 : g2 < w1.heap.size := World.block_lt_of_cell? _ _ e3
  have k2 := box2_below w1 (.cells #[.slice A 1 c, .slice (some ⟨g, o, none⟩) 1 d, .slice D q f] 26) (.cells #[.int .i64 0, .int .i64 0, .int .i64 0] 29)
  have x0 : ((w1.alloc (.cells #[.slice A 1 c, .slice (some ⟨g, o, none⟩) 1 d, .slice D q f] 26)).alloc (.cells #[.int .i64 0, .int .i64 0, .int .i64 0] 29)).cell? ⟨w1.heap.size, 0, none⟩ = some (.slice A 1 c) := by simp
  have x1 : ((w1.alloc (.cells #[.slice A 1 c, .slice (some ⟨g, o, none⟩) 1 d, .slice D q f] 26)).alloc (.cells #[.int .i64 0, .int .i64 0, .int .i64 0] 29)).cell? ⟨w1.heap.size, 1, none⟩ = some (.slice (some ⟨g, o, none⟩) 1 d) := by simp
  have x2 : ((w1.alloc (.cells #[.slice A 1 c, .slice (some ⟨g, o, none⟩) 1 d, .slice D q f] 26)).alloc (.cells #[.int .i64 0, .int .i64 0, .int .i64 0] 29)).cell? ⟨w1.heap.size, 2, none⟩ = some (.slice D q f) := by simp
  have y0 : ((w1.alloc (.cells #[.slice A 1 c, .slice (some ⟨g, o, none⟩) 1 d, .slice D q f] 26)).alloc (.cells #[.int .i64 0, .int .i64 0, .int .i64 0] 29)).cell? ⟨w1.heap.size + 1, 0, none⟩ = some (.int .i64 0) := by simp
  have y1 : ((w1.alloc (.cells #[.slice A 1 c, .slice (some ⟨g, o, none⟩) 1 d, .slice D q f] 26)).alloc (.cells #[.int .i64 0, .int .i64 0, .int .i64 0] 29)).cell? ⟨w1.heap.size + 1, 1, none⟩ = some (.int .i64 0) := by simp
  have y2 : ((w1.alloc (.cells #[.slice A 1 c, .slice (some ⟨g, o, none⟩) 1 d, .slice D q f] 26)).alloc (.cells #[.int .i64 0, .int .i64 0, .int .i64 0] 29)).cell? ⟨w1.heap.size + 1, 2, none⟩ = some (.int .i64 0) := by simp
  have zb1 : ((w1.alloc (.cells #[.slice A 1 c, .slice (some ⟨g, o, none⟩) 1 d, .slice D q f] 26)).alloc (.cells #[.int .i64 0, .int .i64 0, .int .i64 0] 29)).heap.size = w1.heap.size + 2 := by simp
  generalize ((w1.alloc (.cells #[.slice A 1 c, .slice (some ⟨g, o, none⟩) 1 d, .slice D q f] 26)).alloc (.cells #[.int .i64 0, .int .i64 0, .int .i64 0] 29)) = u1 at *
  replace z1 := (k2.cell (p := ⟨g, o + 1, none⟩) (by show g < _; omega)).trans z1
  replace e3 := (k2.cell (p := ⟨g2, o2 + 3, none⟩) (by show g2 < _; omega)).trans e3
  have L2 := MO.out _ _ L1 k2
  have hb2 := hb.trans (k2.mono s1)
  clear L1 k2 hb
  generalize hgb1 : w1.heap.size = b1 at *
  go_wp2_with fail
  refine (PB.out _ L2).mono ?_
  rintro e w2 ⟨⟨A', n', c'⟩, ⟨B', m', d'⟩, ⟨D', q', f'⟩, ze', rfl, _, kb⟩
  clear PB
  simp only [Hd.val, Flt.val]
  have L3 := MO.out _ _ L2 kb
  have s2 := hb2.size
  have s3 := kb.size
  replace z1 := (kb.cell (p := ⟨g, o + 1, none⟩) (by show g < _; omega)).trans z1
  replace e3 := (kb.cell (p := ⟨g2, o2 + 3, none⟩) (by show g2 < _; omega)).trans e3
  replace x0 := (kb.cell (p := ⟨b1, 0, none⟩) (by show b1 < _; omega)).trans x0
  replace x1 := (kb.cell (p := ⟨b1, 1, none⟩) (by show b1 < _; omega)).trans x1
  replace x2 := (kb.cell (p := ⟨b1, 2, none⟩) (by show b1 < _; omega)).trans x2
  replace y0 := (kb.cell (p := ⟨b1 + 1, 0, none⟩) (by show b1 + 1 < _; omega)).trans y0
  replace y1 := (kb.cell (p := ⟨b1 + 1, 1, none⟩) (by show b1 + 1 < _; omega)).trans y1
  replace y2 := (kb.cell (p := ⟨b1 + 1, 2, none⟩) (by show b1 + 1 < _; omega)).trans y2
  have hb3 := hb2.trans (kb.mono s2)
  clear kb L2 hb2
  go_upto_region 3 with (fail)
  have s4 : b1 + 2 ≤ w2.heap.size := by omega
  have k3 := box2_below w2 (.cells #[.slice A' n' c', .slice B' m' d', .slice D' q' f'] 26) (.cells #[.int .i64 11, .int .i64 1, .int .i64 7] 29)
  have v0 : ((w2.alloc (.cells #[.slice A' n' c', .slice B' m' d', .slice D' q' f'] 26)).alloc (.cells #[.int .i64 11, .int .i64 1, .int .i64 7] 29)).cell? ⟨w2.heap.size, 0, none⟩ = some (.slice A' n' c') := by simp
  have v1 : ((w2.alloc (.cells #[.slice A' n' c', .slice B' m' d', .slice D' q' f'] 26)).alloc (.cells #[.int .i64 11, .int .i64 1, .int .i64 7] 29)).cell? ⟨w2.heap.size, 1, none⟩ = some (.slice B' m' d') := by simp
  have v2 : ((w2.alloc (.cells #[.slice A' n' c', .slice B' m' d', .slice D' q' f'] 26)).alloc (.cells #[.int .i64 11, .int .i64 1, .int .i64 7] 29)).cell? ⟨w2.heap.size, 2, none⟩ = some (.slice D' q' f') := by simp
  have t0 : ((w2.alloc (.cells #[.slice A' n' c', .slice B' m' d', .slice D' q' f'] 26)).alloc (.cells #[.int .i64 11, .int .i64 1, .int .i64 7] 29)).cell? ⟨w2.heap.size + 1, 0, none⟩ = some (.int .i64 11) := by simp
  have t1 : ((w2.alloc (.cells #[.slice A' n' c', .slice B' m' d', .slice D' q' f'] 26)).alloc (.cells #[.int .i64 11, .int .i64 1, .int .i64 7] 29)).cell? ⟨w2.heap.size + 1, 1, none⟩ = some (.int .i64 1) := by simp
  have t2 : ((w2.alloc (.cells #[.slice A' n' c', .slice B' m' d', .slice D' q' f'] 26)).alloc (.cells #[.int .i64 11, .int .i64 1, .int .i64 7] 29)).cell? ⟨w2.heap.size + 1, 2, none⟩ = some (.int .i64 7) := by simp
  have zb2 : ((w2.alloc (.cells #[.slice A' n' c', .slice B' m' d', .slice D' q' f'] 26)).alloc (.cells #[.int .i64 11, .int .i64 1, .int .i64 7] 29)).heap.size = w2.heap.size + 2 := by simp
  generalize ((w2.alloc (.cells #[.slice A' n' c', .slice B' m' d', .slice D' q' f'] 26)).alloc (.cells #[.int .i64 11, .int .i64 1, .int .i64 7] 29)) = u2 at *
  replace z1 := (k3.cell (p := ⟨g, o + 1, none⟩) (by show g < _; omega)).trans z1
  replace e3 := (k3.cell (p := ⟨g2, o2 + 3, none⟩) (by show g2 < _; omega)).trans e3
  replace x0 := (k3.cell (p := ⟨b1, 0, none⟩) (by show b1 < _; omega)).trans x0
  replace x1 := (k3.cell (p := ⟨b1, 1, none⟩) (by show b1 < _; omega)).trans x1
  replace x2 := (k3.cell (p := ⟨b1, 2, none⟩) (by show b1 < _; omega)).trans x2
  replace y0 := (k3.cell (p := ⟨b1 + 1, 0, none⟩) (by show b1 + 1 < _; omega)).trans y0
  replace y1 := (k3.cell (p := ⟨b1 + 1, 1, none⟩) (by show b1 + 1 < _; omega)).trans y1
  replace y2 := (k3.cell (p := ⟨b1 + 1, 2, none⟩) (by show b1 + 1 < _; omega)).trans y2
  have L4 := MO.out _ _ L3 k3
  have hb4 := hb3.trans (k3.mono hb3.size)
  clear k3 L3 hb3
  generalize hgb2 : w2.heap.size = b2 at *
  go_wp2_with first
    | (go_at_call 18; refine (SE.out _ L4).mono ?_; clear SE; rintro e w3 ⟨rfl, k⟩; have L5 := MO.out _ _ L4 k; have hb5 := hb4.trans (k.mono hb4.size); clear k)
    | (go_at_call 20; refine (PL.out _ L5).mono ?_; clear PL; rintro e w4 ⟨rfl, k⟩; have hb6 := hb5.trans (k.mono hb5.size); clear k)
  go_ret
  exact ⟨rfl, hb6⟩
end Go.Proofs.YtnkmlfbnfndfpaaGreatDoor
