/- Stage 10's laws: what is wrong is told by what stands up to its line. -/
import Derived.Test.YtnkmlfbnfndfpaaGreatDoorZHalive
import Derived.Test.YtnkmlfbnfndfpaaGreatDoorZJahead
import Derived.Deep.RegionWith
namespace Go.Proofs.YtnkmlfbnfndfpaaGreatDoor
open Go.RowKit
theorem flt_cases {f : Flt} {n : Nat} {ok : Prop} (h : (f = Flt.no ∨ (n : Int) < f.2.1) ∧ (f = Flt.no ∨ (f.1 = 14 ∧ f.2.2 = 0)) ∨ ¬ f = Flt.no ∧ f.2.1 ≤ (n : Int) ∧ ok) :
    f = Flt.no ∨ (∃ l : Int, f = (14, l, 0) ∧ (n : Int) < l) ∨ (¬ f = Flt.no ∧ f.2.1 ≤ (n : Int) ∧ ok) := by
  obtain ⟨e, l, a⟩ := f
  rcases h with ⟨h1, h2⟩ | h
  · by_cases c : (e, l, a) = Flt.no
    · exact .inl c
    · obtain ⟨rfl, rfl⟩ := h2.resolve_left c
      exact .inr (.inl ⟨l, rfl, h1.resolve_left c⟩)
  · exact .inr (.inr h)
set_option maxRecDepth 100000 in
set_option maxHeartbeats 8000000 in
theorem aheadL {Q : World → Prop} (C : ReadP Q) (s m : ByteArray) (hs : s.size ≤ maxLen) (_hm : m.size ≤ maxLen) (w : World) (L : Q w) : Calls Tryz.prog 8 #[.string s, .string m] w (RetV w (.bool true)) := by
  have MO := Lib.hid C.mono
  have AL := Lib.hid (alive10 C)
  by_cases big : 20000 < s.size
  · clear C hs
    go_enter Tryz.func8, Tryz.ntmps8
    go_wp2_with (go_at_call 11; refine (AL.out _ L).mono ?_; clear AL; rintro e w1 ⟨rfl, h1⟩)
    go_ret
    exact ⟨rfl, h1⟩
  by_cases bigm : 20000 < m.size
  · clear C hs
    go_enter Tryz.func8, Tryz.ntmps8
    go_wp2_with (go_at_call 11; refine (AL.out _ L).mono ?_; clear AL; rintro e w1 ⟨rfl, h1⟩)
    go_ret
    exact ⟨rfl, h1⟩
  have PA := Lib.hid (C.parse s hs)
  have PB := Lib.hid (C.parse (s ++ nlT ++ m) (by rw [size_app, size_app, show nlT.size = 1 from rfl]; unfold maxLen; omega))
  have LI := Lib.hid (linesR s (by omega))
  have CS := flt_cases (src_ahead (s := s) (m := m) (by omega) (by omega))
  have FE := flt_err (s := s)
  have NL := Lib.hid (show nlT = ⟨#[10]⟩ from rfl)
  clear C hs
  generalize srcRes (s ++ nlT ++ m) = r2 at *
  generalize srcRes s = r at *
  generalize lnsFrom s 0 0 = ls at *
  obtain ⟨S, ⟨e, l, a⟩⟩ := r
  obtain ⟨S2, ⟨e2, l2, a2⟩⟩ := r2
  simp only at CS FE
  rw [NL.out] at PB
  clear NL
  rcases CS with CS | ⟨l', CS, cl⟩ | ⟨CS, cl, sm, sn⟩
  · obtain ⟨rfl, rfl, rfl⟩ : e = 0 ∧ l = 0 ∧ a = 0 := by simpa [Flt.no] using CS
    clear CS PB LI FE
    go_enter Tryz.func8, Tryz.ntmps8
    go_wp2_with fail
    refine (PA.out _ L).mono ?_
    rintro e' w1 ⟨⟨A, n, c⟩, ⟨D, p, d⟩, ⟨E, q, f⟩, ze, rfl, hS, hb⟩
    clear PA
    simp only [Hd.val, Flt.val]
    clear hS
    have L1 := MO.out _ _ L hb
    have s1 := hb.size
    go_upto_region 4 with (fail)
    have k2 := box2_below w1 (.cells #[.slice A n c, .slice D p d, .slice E q f] 26) (.cells #[.int .i64 0, .int .i64 0, .int .i64 0] 29)
    have x0 : ((w1.alloc (.cells #[.slice A n c, .slice D p d, .slice E q f] 26)).alloc (.cells #[.int .i64 0, .int .i64 0, .int .i64 0] 29)).cell? ⟨w1.heap.size, 0, none⟩ = some (.slice A n c) := by simp
    have x1 : ((w1.alloc (.cells #[.slice A n c, .slice D p d, .slice E q f] 26)).alloc (.cells #[.int .i64 0, .int .i64 0, .int .i64 0] 29)).cell? ⟨w1.heap.size, 1, none⟩ = some (.slice D p d) := by simp
    have x2 : ((w1.alloc (.cells #[.slice A n c, .slice D p d, .slice E q f] 26)).alloc (.cells #[.int .i64 0, .int .i64 0, .int .i64 0] 29)).cell? ⟨w1.heap.size, 2, none⟩ = some (.slice E q f) := by simp
    have y0 : ((w1.alloc (.cells #[.slice A n c, .slice D p d, .slice E q f] 26)).alloc (.cells #[.int .i64 0, .int .i64 0, .int .i64 0] 29)).cell? ⟨w1.heap.size + 1, 0, none⟩ = some (.int .i64 0) := by simp
    have y1 : ((w1.alloc (.cells #[.slice A n c, .slice D p d, .slice E q f] 26)).alloc (.cells #[.int .i64 0, .int .i64 0, .int .i64 0] 29)).cell? ⟨w1.heap.size + 1, 1, none⟩ = some (.int .i64 0) := by simp
    have y2 : ((w1.alloc (.cells #[.slice A n c, .slice D p d, .slice E q f] 26)).alloc (.cells #[.int .i64 0, .int .i64 0, .int .i64 0] 29)).cell? ⟨w1.heap.size + 1, 2, none⟩ = some (.int .i64 0) := by simp
    have zb1 : ((w1.alloc (.cells #[.slice A n c, .slice D p d, .slice E q f] 26)).alloc (.cells #[.int .i64 0, .int .i64 0, .int .i64 0] 29)).heap.size = w1.heap.size + 2 := by simp
    generalize ((w1.alloc (.cells #[.slice A n c, .slice D p d, .slice E q f] 26)).alloc (.cells #[.int .i64 0, .int .i64 0, .int .i64 0] 29)) = u1 at *
    have L2 := MO.out _ _ L1 k2
    have hb2 := hb.trans (k2.mono s1)
    clear L1 k2 hb
    generalize hgb1 : w1.heap.size = b1 at *
    go_quiet (fail)
    have L3 := MO.out _ _ L2 (below_drewN (Below.refl _ u1) nq)
    have hb3 := below_drewN hb2 nq
    go_wp2_with (go_at_call 11; refine (AL.out _ L3).mono ?_; clear AL; rintro e w3 ⟨rfl, k⟩; have y0' := (k.cell (p := ⟨b1 + 1, 0, none⟩) (by show b1 + 1 < u1.heap.size; omega)).trans y0; have y2' := (k.cell (p := ⟨b1 + 1, 2, none⟩) (by show b1 + 1 < u1.heap.size; omega)).trans y2; have hb4 := hb3.trans (k.mono hb3.size))
    go_ret
    exact ⟨rfl, hb4⟩
  · obtain ⟨rfl, rfl, rfl⟩ : e = 14 ∧ l = l' ∧ a = 0 := by simpa using CS
    clear CS PB FE
    go_enter Tryz.func8, Tryz.ntmps8
    go_wp2_with fail
    refine (PA.out _ L).mono ?_
    rintro e' w1 ⟨⟨A, n, c⟩, ⟨D, p, d⟩, ⟨E, q, f⟩, ze, rfl, hS, hb⟩
    clear PA
    simp only [Hd.val, Flt.val]
    clear hS
    have L1 := MO.out _ _ L hb
    have s1 := hb.size
    go_upto_region 4 with (fail)
    have k2 := box2_below w1 (.cells #[.slice A n c, .slice D p d, .slice E q f] 26) (.cells #[.int .i64 14, .int .i64 l, .int .i64 0] 29)
    have x0 : ((w1.alloc (.cells #[.slice A n c, .slice D p d, .slice E q f] 26)).alloc (.cells #[.int .i64 14, .int .i64 l, .int .i64 0] 29)).cell? ⟨w1.heap.size, 0, none⟩ = some (.slice A n c) := by simp
    have x1 : ((w1.alloc (.cells #[.slice A n c, .slice D p d, .slice E q f] 26)).alloc (.cells #[.int .i64 14, .int .i64 l, .int .i64 0] 29)).cell? ⟨w1.heap.size, 1, none⟩ = some (.slice D p d) := by simp
    have x2 : ((w1.alloc (.cells #[.slice A n c, .slice D p d, .slice E q f] 26)).alloc (.cells #[.int .i64 14, .int .i64 l, .int .i64 0] 29)).cell? ⟨w1.heap.size, 2, none⟩ = some (.slice E q f) := by simp
    have y0 : ((w1.alloc (.cells #[.slice A n c, .slice D p d, .slice E q f] 26)).alloc (.cells #[.int .i64 14, .int .i64 l, .int .i64 0] 29)).cell? ⟨w1.heap.size + 1, 0, none⟩ = some (.int .i64 14) := by simp
    have y1 : ((w1.alloc (.cells #[.slice A n c, .slice D p d, .slice E q f] 26)).alloc (.cells #[.int .i64 14, .int .i64 l, .int .i64 0] 29)).cell? ⟨w1.heap.size + 1, 1, none⟩ = some (.int .i64 l) := by simp
    have y2 : ((w1.alloc (.cells #[.slice A n c, .slice D p d, .slice E q f] 26)).alloc (.cells #[.int .i64 14, .int .i64 l, .int .i64 0] 29)).cell? ⟨w1.heap.size + 1, 2, none⟩ = some (.int .i64 0) := by simp
    have zb1 : ((w1.alloc (.cells #[.slice A n c, .slice D p d, .slice E q f] 26)).alloc (.cells #[.int .i64 14, .int .i64 l, .int .i64 0] 29)).heap.size = w1.heap.size + 2 := by simp
    generalize ((w1.alloc (.cells #[.slice A n c, .slice D p d, .slice E q f] 26)).alloc (.cells #[.int .i64 14, .int .i64 l, .int .i64 0] 29)) = u1 at *
    have L2 := MO.out _ _ L1 k2
    have hb2 := hb.trans (k2.mono s1)
    clear L1 k2 hb
    generalize hgb1 : w1.heap.size = b1 at *
    have cl2 : ¬ l ≤ (ls.length : Int) := by omega
    go_region_with
      (go_at_call 22
       refine (LI.out _).mono ?_
       rintro e w3 ⟨A3, n3, c3, rfl, hL, k⟩
       obtain rfl : ls.length = n3 := hL.len
       have y0' := (k.cell (p := ⟨b1 + 1, 0, none⟩) (by show b1 + 1 < u1.heap.size; omega)).trans y0
       have y1' := (k.cell (p := ⟨b1 + 1, 1, none⟩) (by show b1 + 1 < u1.heap.size; omega)).trans y1
       have y2' := (k.cell (p := ⟨b1 + 1, 2, none⟩) (by show b1 + 1 < u1.heap.size; omega)).trans y2
       have x0' := (k.cell (p := ⟨b1, 0, none⟩) (by show b1 < u1.heap.size; omega)).trans x0
       have hb3 := (below_drewN hb2 1).trans (k.mono (show w.heap.size ≤ u1.heap.size from hb2.size))
       have L3 := MO.out _ _ (MO.out _ _ L2 (below_drewN (Below.refl _ u1) 1)) k)
    all_goals
      go_wp2_with (go_at_call 11; refine (AL.out _ L3).mono ?_; rintro e w4 ⟨rfl, k4⟩; have sz3 := k.size; have y0'' := (k4.cell (p := ⟨b1 + 1, 0, none⟩) (by show b1 + 1 < w3.heap.size; have : u1.heap.size ≤ w3.heap.size := sz3; omega)).trans y0'; have y2'' := (k4.cell (p := ⟨b1 + 1, 2, none⟩) (by show b1 + 1 < w3.heap.size; have : u1.heap.size ≤ w3.heap.size := sz3; omega)).trans y2'; have hb4 := hb3.trans (k4.mono hb3.size))
      go_ret
      exact ⟨rfl, hb4⟩
  · have ne : ¬ e = 0 := fun c => CS (FE c)
    have e0 : (e == 0) = false := beq_eq_false_iff_ne.2 ne
    obtain ⟨rfl, rfl, rfl⟩ : e2 = e ∧ l2 = l ∧ a2 = a := by simpa using sm
    obtain rfl : S = .none := sn
    clear CS FE sm
    go_enter Tryz.func8, Tryz.ntmps8
    go_wp2_with fail
    refine (PA.out _ L).mono ?_
    rintro e' w1 ⟨⟨A, n, c⟩, ⟨D, p, d⟩, ⟨E, q, f⟩, ze, rfl, hS, hb⟩
    clear PA
    simp only [Hd.val, Flt.val]
    obtain rfl : (0 : Nat) = n := hS.rules.len
    clear hS
    have L1 := MO.out _ _ L hb
    have s1 := hb.size
    go_upto_region 4 with (fail)
    have k2 := box2_below w1 (.cells #[.slice A 0 c, .slice D p d, .slice E q f] 26) (.cells #[.int .i64 e2, .int .i64 l2, .int .i64 a2] 29)
    have x0 : ((w1.alloc (.cells #[.slice A 0 c, .slice D p d, .slice E q f] 26)).alloc (.cells #[.int .i64 e2, .int .i64 l2, .int .i64 a2] 29)).cell? ⟨w1.heap.size, 0, none⟩ = some (.slice A 0 c) := by simp
    have x1 : ((w1.alloc (.cells #[.slice A 0 c, .slice D p d, .slice E q f] 26)).alloc (.cells #[.int .i64 e2, .int .i64 l2, .int .i64 a2] 29)).cell? ⟨w1.heap.size, 1, none⟩ = some (.slice D p d) := by simp
    have x2 : ((w1.alloc (.cells #[.slice A 0 c, .slice D p d, .slice E q f] 26)).alloc (.cells #[.int .i64 e2, .int .i64 l2, .int .i64 a2] 29)).cell? ⟨w1.heap.size, 2, none⟩ = some (.slice E q f) := by simp
    have y0 : ((w1.alloc (.cells #[.slice A 0 c, .slice D p d, .slice E q f] 26)).alloc (.cells #[.int .i64 e2, .int .i64 l2, .int .i64 a2] 29)).cell? ⟨w1.heap.size + 1, 0, none⟩ = some (.int .i64 e2) := by simp
    have y1 : ((w1.alloc (.cells #[.slice A 0 c, .slice D p d, .slice E q f] 26)).alloc (.cells #[.int .i64 e2, .int .i64 l2, .int .i64 a2] 29)).cell? ⟨w1.heap.size + 1, 1, none⟩ = some (.int .i64 l2) := by simp
    have y2 : ((w1.alloc (.cells #[.slice A 0 c, .slice D p d, .slice E q f] 26)).alloc (.cells #[.int .i64 e2, .int .i64 l2, .int .i64 a2] 29)).cell? ⟨w1.heap.size + 1, 2, none⟩ = some (.int .i64 a2) := by simp
    have zb1 : ((w1.alloc (.cells #[.slice A 0 c, .slice D p d, .slice E q f] 26)).alloc (.cells #[.int .i64 e2, .int .i64 l2, .int .i64 a2] 29)).heap.size = w1.heap.size + 2 := by simp
    generalize ((w1.alloc (.cells #[.slice A 0 c, .slice D p d, .slice E q f] 26)).alloc (.cells #[.int .i64 e2, .int .i64 l2, .int .i64 a2] 29)) = u1 at *
    have L2 := MO.out _ _ L1 k2
    have hb2 := hb.trans (k2.mono s1)
    clear L1 k2 hb
    generalize hgb1 : w1.heap.size = b1 at *
    have cl2 : ¬ (ls.length : Int) < l2 := by omega
    go_cut [33] (fun v wx => v = .bool false ∧ Below u1.heap.size u1 wx)
    case first =>
      go_region_with
        (go_at_call 22
         refine (LI.out _).mono ?_
         rintro e w3 ⟨A3, n3, c3, rfl, hL, k⟩
         obtain rfl : ls.length = n3 := hL.len
         have y0' := (k.cell (p := ⟨b1 + 1, 0, none⟩) (by show b1 + 1 < u1.heap.size; omega)).trans y0
         have y1' := (k.cell (p := ⟨b1 + 1, 1, none⟩) (by show b1 + 1 < u1.heap.size; omega)).trans y1
         have y2' := (k.cell (p := ⟨b1 + 1, 2, none⟩) (by show b1 + 1 < u1.heap.size; omega)).trans y2
         have kk := (below_drewN (Below.refl u1.heap.size u1) 1).trans k)
      all_goals
        go_wp2_with fail
        go_meet
        exact ⟨by rw [show decide ((ls.length : Int) < l2) = false from decide_eq_false (by omega)], kk⟩
    case rest =>
      obtain ⟨rfl, kc⟩ := hcut
      have s5 := kc.size
      have L3 := MO.out _ _ L2 kc
      have hb3 := hb2.trans (kc.mono hb2.size)
      replace x0 := (kc.cell (p := ⟨b1, 0, none⟩) (by show b1 < _; omega)).trans x0
      replace x1 := (kc.cell (p := ⟨b1, 1, none⟩) (by show b1 < _; omega)).trans x1
      replace x2 := (kc.cell (p := ⟨b1, 2, none⟩) (by show b1 < _; omega)).trans x2
      replace y0 := (kc.cell (p := ⟨b1 + 1, 0, none⟩) (by show b1 + 1 < _; omega)).trans y0
      replace y1 := (kc.cell (p := ⟨b1 + 1, 1, none⟩) (by show b1 + 1 < _; omega)).trans y1
      replace y2 := (kc.cell (p := ⟨b1 + 1, 2, none⟩) (by show b1 + 1 < _; omega)).trans y2
      clear kc L2 hb2 LI
      go_wp2_with fail
      refine (PB.out _ L3).mono ?_
      rintro e' w5 ⟨⟨A', n', c'⟩, ⟨D', p', d'⟩, ⟨E', q', f'⟩, ze', rfl, _, kb⟩
      clear PB
      simp only [Hd.val, Flt.val]
      have L4 := MO.out _ _ L3 kb
      have s6 := kb.size
      have hb4 := hb3.trans (kb.mono hb3.size)
      replace x0 := (kb.cell (p := ⟨b1, 0, none⟩) (by show b1 < _; omega)).trans x0
      replace x1 := (kb.cell (p := ⟨b1, 1, none⟩) (by show b1 < _; omega)).trans x1
      replace x2 := (kb.cell (p := ⟨b1, 2, none⟩) (by show b1 < _; omega)).trans x2
      replace y0 := (kb.cell (p := ⟨b1 + 1, 0, none⟩) (by show b1 + 1 < _; omega)).trans y0
      replace y1 := (kb.cell (p := ⟨b1 + 1, 1, none⟩) (by show b1 + 1 < _; omega)).trans y1
      replace y2 := (kb.cell (p := ⟨b1 + 1, 2, none⟩) (by show b1 + 1 < _; omega)).trans y2
      clear kb L3 hb3
      go_upto_region 7 with (fail)
      have k5 := box2_below w5 (.cells #[.slice A' n' c', .slice D' p' d', .slice E' q' f'] 26) (.cells #[.int .i64 e2, .int .i64 l2, .int .i64 a2] 29)
      have v0 : ((w5.alloc (.cells #[.slice A' n' c', .slice D' p' d', .slice E' q' f'] 26)).alloc (.cells #[.int .i64 e2, .int .i64 l2, .int .i64 a2] 29)).cell? ⟨w5.heap.size, 0, none⟩ = some (.slice A' n' c') := by simp
      have v1 : ((w5.alloc (.cells #[.slice A' n' c', .slice D' p' d', .slice E' q' f'] 26)).alloc (.cells #[.int .i64 e2, .int .i64 l2, .int .i64 a2] 29)).cell? ⟨w5.heap.size, 1, none⟩ = some (.slice D' p' d') := by simp
      have v2 : ((w5.alloc (.cells #[.slice A' n' c', .slice D' p' d', .slice E' q' f'] 26)).alloc (.cells #[.int .i64 e2, .int .i64 l2, .int .i64 a2] 29)).cell? ⟨w5.heap.size, 2, none⟩ = some (.slice E' q' f') := by simp
      have t0 : ((w5.alloc (.cells #[.slice A' n' c', .slice D' p' d', .slice E' q' f'] 26)).alloc (.cells #[.int .i64 e2, .int .i64 l2, .int .i64 a2] 29)).cell? ⟨w5.heap.size + 1, 0, none⟩ = some (.int .i64 e2) := by simp
      have t1 : ((w5.alloc (.cells #[.slice A' n' c', .slice D' p' d', .slice E' q' f'] 26)).alloc (.cells #[.int .i64 e2, .int .i64 l2, .int .i64 a2] 29)).cell? ⟨w5.heap.size + 1, 1, none⟩ = some (.int .i64 l2) := by simp
      have t2 : ((w5.alloc (.cells #[.slice A' n' c', .slice D' p' d', .slice E' q' f'] 26)).alloc (.cells #[.int .i64 e2, .int .i64 l2, .int .i64 a2] 29)).cell? ⟨w5.heap.size + 1, 2, none⟩ = some (.int .i64 a2) := by simp
      have zb5 : ((w5.alloc (.cells #[.slice A' n' c', .slice D' p' d', .slice E' q' f'] 26)).alloc (.cells #[.int .i64 e2, .int .i64 l2, .int .i64 a2] 29)).heap.size = w5.heap.size + 2 := by simp
      generalize ((w5.alloc (.cells #[.slice A' n' c', .slice D' p' d', .slice E' q' f'] 26)).alloc (.cells #[.int .i64 e2, .int .i64 l2, .int .i64 a2] 29)) = u5 at *
      replace x0 := (k5.cell (p := ⟨b1, 0, none⟩) (by show b1 < _; omega)).trans x0
      replace x1 := (k5.cell (p := ⟨b1, 1, none⟩) (by show b1 < _; omega)).trans x1
      replace x2 := (k5.cell (p := ⟨b1, 2, none⟩) (by show b1 < _; omega)).trans x2
      replace y0 := (k5.cell (p := ⟨b1 + 1, 0, none⟩) (by show b1 + 1 < _; omega)).trans y0
      replace y1 := (k5.cell (p := ⟨b1 + 1, 1, none⟩) (by show b1 + 1 < _; omega)).trans y1
      replace y2 := (k5.cell (p := ⟨b1 + 1, 2, none⟩) (by show b1 + 1 < _; omega)).trans y2
      have L5 := MO.out _ _ L4 k5
      have hb5 := hb4.trans (k5.mono hb4.size)
      clear L4 k5 hb4
      generalize hgb5 : w5.heap.size = b5 at *
      go_wp2_with fail
      refine (AL.out _ L5).mono ?_
      clear AL
      rintro e w6 ⟨rfl, k6⟩
      have hb6 := hb5.trans (k6.mono hb5.size)
      replace x0 := (k6.cell (p := ⟨b1, 0, none⟩) (by show b1 < _; omega)).trans x0
      replace x1 := (k6.cell (p := ⟨b1, 1, none⟩) (by show b1 < _; omega)).trans x1
      replace x2 := (k6.cell (p := ⟨b1, 2, none⟩) (by show b1 < _; omega)).trans x2
      replace y0 := (k6.cell (p := ⟨b1 + 1, 0, none⟩) (by show b1 + 1 < _; omega)).trans y0
      replace y1 := (k6.cell (p := ⟨b1 + 1, 1, none⟩) (by show b1 + 1 < _; omega)).trans y1
      replace y2 := (k6.cell (p := ⟨b1 + 1, 2, none⟩) (by show b1 + 1 < _; omega)).trans y2
      replace v0 := (k6.cell (p := ⟨b5, 0, none⟩) (by show b5 < _; omega)).trans v0
      replace v1 := (k6.cell (p := ⟨b5, 1, none⟩) (by show b5 < _; omega)).trans v1
      replace v2 := (k6.cell (p := ⟨b5, 2, none⟩) (by show b5 < _; omega)).trans v2
      replace t0 := (k6.cell (p := ⟨b5 + 1, 0, none⟩) (by show b5 + 1 < _; omega)).trans t0
      replace t1 := (k6.cell (p := ⟨b5 + 1, 1, none⟩) (by show b5 + 1 < _; omega)).trans t1
      replace t2 := (k6.cell (p := ⟨b5 + 1, 2, none⟩) (by show b5 + 1 < _; omega)).trans t2
      go_wp2
      go_ret
      exact ⟨by simp, hb6⟩
end Go.Proofs.YtnkmlfbnfndfpaaGreatDoor
