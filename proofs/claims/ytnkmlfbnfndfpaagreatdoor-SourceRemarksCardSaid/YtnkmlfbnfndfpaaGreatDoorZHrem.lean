/- Stage 10's laws: lines without fields, and remarks: the walk. -/
import Derived.Test.YtnkmlfbnfndfpaaGreatDoorZHremp
namespace Go.Proofs.YtnkmlfbnfndfpaaGreatDoor
open Go.RowKit
set_option maxRecDepth 100000 in
set_option maxHeartbeats 8000000 in
theorem remarksL {Q : World → Prop} (C : ReadP Q) (s : ByteArray) (hs : s.size ≤ maxLen) (v : Nat) (hv : v < 256) (w : World) (L : Q w) : Calls Tryz.prog 7 #[.string s, .int .u8 v] w (RetV w (.bool true)) := by
  have MO := Lib.hid C.mono
  have AL := Lib.hid (alive10 C)
  by_cases big : 20000 < s.size
  · clear C hs
    go_enter Tryz.func7, Tryz.ntmps7
    go_wp2_with (go_at_call 11; refine (AL.out _ L).mono ?_; rintro e w9 ⟨rfl, h9⟩)
    go_ret
    exact ⟨rfl, h9⟩
  have PA := Lib.hid (C.parse s hs)
  have PB := Lib.hid C.parse
  have SR := Lib.hid (fun k => src_rem (s := s) k (by omega))
  have LI := Lib.hid (linesR s (by omega))
  have ln := lns_len (s := s) s.size 0 0 (by omega)
  have LS := Lib.hid (fun t (ht : t ∈ lnsFrom s 0 0) => show t.size ≤ 20000 from Nat.le_trans (lns_small s.size 0 0 (by omega) t ht) (by omega))
  clear C hs
  generalize lnsFrom s 0 0 = ls at *
  go_enter Tryz.func7, Tryz.ntmps7
  go_wp2_with fail
  refine (LI.out _).mono ?_
  rintro e w1 ⟨A, n, c, rfl, hL, hb⟩
  clear LI
  obtain rfl : ls.length = n := hL.len
  have s1 := hb.size
  have L1 := MO.out _ _ L hb
  clear L
  go_wp2
  obtain ⟨K, hK, k0⟩ : ∃ K : Nat, (v : Int) % 5 + 1 = (K : Int) ∧ 0 < K := ⟨v % 5 + 1, by omega, by omega⟩
  simp only [hK]
  have O0 := Lib.hid (show outAt K ls 0 = ⟨#[]⟩ from rfl)
  have OZ := Lib.hid (fun i hi => out_size (k := K) (l := ls) LS.out i hi)
  have ON := Lib.hid (fun i t h => @out_next K i ls t h)
  have OA := Lib.hid (out_all K ls)
  clear hK hv
  go_loopw [7, 8] (fun a b wr => ∃ i : Nat, i ≤ ls.length ∧ a = .string (outAt K ls i) ∧ b = .int .i64 i ∧ Below w1.heap.size w1 wr) (fun _ b _ => ls.length - (intOf b).toNat)
  case atStart => exact ⟨0, by omega, by rw [O0.out], rfl, Below.refl _ _⟩
  case round =>
    clear O0
    obtain ⟨i, hi, rfl, rfl, hbel⟩ := hrel
    by_cases h1 : i < ls.length
    · obtain ⟨t, ht⟩ : ∃ t, ls[i]? = some t := ⟨_, List.getElem?_eq_getElem h1⟩
      obtain ⟨g, o, rfl, hg, ca⟩ := (hL.below hbel).cells (by omega)
      have cell : wr.cell? ⟨g, o + i, none⟩ = some (.string t) := by
        have := ca i h1
        rw [this]
        congr 2
        have e := List.getElem?_eq_getElem h1
        rw [ht] at e
        exact (Option.some.inj e).symm
      have tz := LS.out t (List.mem_of_getElem? ht)
      have oz := OZ.out i (by omega)
      have NX := ON.out i t ht
      have SP := Lib.hid (splitR t (by omega))
      clear ca ht
      rcases hr : splitRes t with ⟨fl, pl, er⟩
      rw [hr] at SP NX
      simp only at NX
      clear hr
      generalize outAt K ls i = x at *
      have m9 : more2.size = 9 := rfl
      have m5 : soT.size = 5 := rfl
      have kk : ¬ ((K : Int) = 0) := by omega
      have kb : ((K : Int) == 0) = false := beq_eq_false_iff_ne.2 kk
      by_cases hm : i % K = 0
      · rw [if_pos hm] at NX
        have mi : (((i : Int) % (K : Int)) == 0) = true := by rw [beq_iff_eq]; omega
        have mj : (((i : Int).tmod (K : Int)) == 0) = true := by rw [Int.tmod_eq_emod_of_nonneg (by omega)]; exact mi
        clear hm
        by_cases er0 : er = 0
        · subst er0
          by_cases t4 : t.size < 400
          · rw [if_pos ⟨rfl, t4⟩] at NX
            replace NX := Lib.hid NX
            go_wp2_with (go_at_call 23; refine (SP.out _).mono ?_; clear SP; rintro e w2 ⟨A2, n2, c2, rfl, _, k2⟩; have cell' := (k2.cell (p := ⟨g, o + i, none⟩) hg).trans cell; have hb2 := hbel.trans (k2.mono hbel.size))
            go_roundw
            case rel => exact ⟨i + 1, by omega, by rw [NX.out, ← ByteArray.append_assoc]; rfl, int_is (by omega), hb2⟩
            case measure => simp only [intOf]; omega
          · rw [if_neg (fun c => t4 c.2)] at NX
            replace NX := Lib.hid NX
            go_wp2_with (go_at_call 23; refine (SP.out _).mono ?_; clear SP; rintro e w2 ⟨A2, n2, c2, rfl, _, k2⟩; have cell' := (k2.cell (p := ⟨g, o + i, none⟩) hg).trans cell; have hb2 := hbel.trans (k2.mono hbel.size))
            go_roundw
            case rel => exact ⟨i + 1, by omega, by rw [NX.out]; rfl, int_is (by omega), hb2⟩
            case measure => simp only [intOf]; omega
        · rw [if_neg (fun c => er0 c.1)] at NX
          have eb : (er == 0) = false := beq_eq_false_iff_ne.2 er0
          replace NX := Lib.hid NX
          go_wp2_with (go_at_call 23; refine (SP.out _).mono ?_; clear SP; rintro e w2 ⟨A2, n2, c2, rfl, _, k2⟩; have cell' := (k2.cell (p := ⟨g, o + i, none⟩) hg).trans cell; have hb2 := hbel.trans (k2.mono hbel.size))
          go_roundw
          case rel => exact ⟨i + 1, by omega, by rw [NX.out]; rfl, int_is (by omega), hb2⟩
          case measure => simp only [intOf]; omega
      · rw [if_neg hm] at NX
        have mi : (((i : Int) % (K : Int)) == 0) = false := by rw [beq_eq_false_iff_ne]; omega
        have mj : (((i : Int).tmod (K : Int)) == 0) = false := by rw [Int.tmod_eq_emod_of_nonneg (by omega)]; exact mi
        clear hm
        by_cases er0 : er = 0
        · subst er0
          by_cases t4 : t.size < 400
          · rw [if_pos ⟨rfl, t4⟩] at NX
            replace NX := Lib.hid NX
            go_wp2_with (go_at_call 23; refine (SP.out _).mono ?_; clear SP; rintro e w2 ⟨A2, n2, c2, rfl, _, k2⟩; have cell' := (k2.cell (p := ⟨g, o + i, none⟩) hg).trans cell; have hb2 := hbel.trans (k2.mono hbel.size))
            go_roundw
            case rel => exact ⟨i + 1, by omega, by rw [NX.out, ← ByteArray.append_assoc]; rfl, int_is (by omega), hb2⟩
            case measure => simp only [intOf]; omega
          · rw [if_neg (fun c => t4 c.2)] at NX
            replace NX := Lib.hid NX
            go_wp2_with (go_at_call 23; refine (SP.out _).mono ?_; clear SP; rintro e w2 ⟨A2, n2, c2, rfl, _, k2⟩; have cell' := (k2.cell (p := ⟨g, o + i, none⟩) hg).trans cell; have hb2 := hbel.trans (k2.mono hbel.size))
            go_roundw
            case rel => exact ⟨i + 1, by omega, by rw [NX.out]; rfl, int_is (by omega), hb2⟩
            case measure => simp only [intOf]; omega
        · rw [if_neg (fun c => er0 c.1)] at NX
          have eb : (er == 0) = false := beq_eq_false_iff_ne.2 er0
          replace NX := Lib.hid NX
          go_wp2_with (go_at_call 23; refine (SP.out _).mono ?_; clear SP; rintro e w2 ⟨A2, n2, c2, rfl, _, k2⟩; have cell' := (k2.cell (p := ⟨g, o + i, none⟩) hg).trans cell; have hb2 := hbel.trans (k2.mono hbel.size))
          go_roundw
          case rel => exact ⟨i + 1, by omega, by rw [NX.out]; rfl, int_is (by omega), hb2⟩
          case measure => simp only [intOf]; omega
    · obtain rfl : i = ls.length := by omega
      have OX := OA.out
      have zz := OZ.out ls.length (Nat.le_refl _)
      have SS := SR.out K
      rw [← OX] at SS
      clear OZ ON OA SR LS OX hL
      generalize outAt K ls ls.length = u at *
      have L2 := MO.out _ _ L1 hbel
      have hb2 := hb.trans (hbel.mono s1)
      clear L1 hbel hb
      by_cases z : 100000 < u.size
      · go_wp2_with (go_at_call 11; refine (AL.out _ L2).mono ?_; rintro e w9 ⟨rfl, h9⟩)
        go_ret
        exact ⟨rfl, hb2.trans (h9.mono hb2.size)⟩
      · replace SS := SS (by omega)
        replace PB := Lib.hid (PB.out u (by unfold maxLen; omega))
        have FE := flt_err (s := s)
        have FU := flt_err (s := u)
        have FN := src_none (s := s)
        generalize srcRes u = r2 at *
        generalize srcRes s = r at *
        obtain ⟨S, ⟨e, l, a⟩⟩ := r
        obtain ⟨S2, ⟨e2, l2, a2⟩⟩ := r2
        obtain ⟨⟨sf, sg⟩, se⟩ := SS
        simp only at FE FU FN sf sg se
        subst sf se
        by_cases e0 : e = 0
        · obtain ⟨_, rfl, rfl⟩ : e = 0 ∧ l = 0 ∧ a = 0 := by simpa [Flt.no] using FE e0
          subst e0
          obtain ⟨rfl, rfl⟩ : l2 = 0 ∧ a2 = 0 := by simpa [Flt.no] using FU rfl
          clear FE FN FU sg
          go_wp2_with fail
          refine (PA.out _ L2).mono ?_
          rintro e' w3 ⟨⟨A1, n1, c1⟩, ⟨D1, p1, d1⟩, ⟨E1, q1, f1⟩, ze1, rfl, hS, k3⟩
          clear PA
          simp only [Hd.val, Flt.val]
          have L3 := MO.out _ _ L2 k3
          have hb3 := hb2.trans (k3.mono hb2.size)
          have s3 := hb3.size
          clear L2 hb2 k3
          go_upto_region 19 with (fail)
          have k4 := box2_below w3 (.cells #[.slice A1 n1 c1, .slice D1 p1 d1, .slice E1 q1 f1] 26) (.cells #[.int .i64 0, .int .i64 0, .int .i64 0] 29)
          have x0 : ((w3.alloc (.cells #[.slice A1 n1 c1, .slice D1 p1 d1, .slice E1 q1 f1] 26)).alloc (.cells #[.int .i64 0, .int .i64 0, .int .i64 0] 29)).cell? ⟨w3.heap.size, 0, none⟩ = some (.slice A1 n1 c1) := by simp
          have x1 : ((w3.alloc (.cells #[.slice A1 n1 c1, .slice D1 p1 d1, .slice E1 q1 f1] 26)).alloc (.cells #[.int .i64 0, .int .i64 0, .int .i64 0] 29)).cell? ⟨w3.heap.size, 1, none⟩ = some (.slice D1 p1 d1) := by simp
          have x2 : ((w3.alloc (.cells #[.slice A1 n1 c1, .slice D1 p1 d1, .slice E1 q1 f1] 26)).alloc (.cells #[.int .i64 0, .int .i64 0, .int .i64 0] 29)).cell? ⟨w3.heap.size, 2, none⟩ = some (.slice E1 q1 f1) := by simp
          have y0 : ((w3.alloc (.cells #[.slice A1 n1 c1, .slice D1 p1 d1, .slice E1 q1 f1] 26)).alloc (.cells #[.int .i64 0, .int .i64 0, .int .i64 0] 29)).cell? ⟨w3.heap.size + 1, 0, none⟩ = some (.int .i64 0) := by simp
          have y1 : ((w3.alloc (.cells #[.slice A1 n1 c1, .slice D1 p1 d1, .slice E1 q1 f1] 26)).alloc (.cells #[.int .i64 0, .int .i64 0, .int .i64 0] 29)).cell? ⟨w3.heap.size + 1, 1, none⟩ = some (.int .i64 0) := by simp
          have y2 : ((w3.alloc (.cells #[.slice A1 n1 c1, .slice D1 p1 d1, .slice E1 q1 f1] 26)).alloc (.cells #[.int .i64 0, .int .i64 0, .int .i64 0] 29)).cell? ⟨w3.heap.size + 1, 2, none⟩ = some (.int .i64 0) := by simp
          have zb3 : ((w3.alloc (.cells #[.slice A1 n1 c1, .slice D1 p1 d1, .slice E1 q1 f1] 26)).alloc (.cells #[.int .i64 0, .int .i64 0, .int .i64 0] 29)).heap.size = w3.heap.size + 2 := by simp
          generalize ((w3.alloc (.cells #[.slice A1 n1 c1, .slice D1 p1 d1, .slice E1 q1 f1] 26)).alloc (.cells #[.int .i64 0, .int .i64 0, .int .i64 0] 29)) = u3 at *
          replace hS := hS.below k4
          have L4 := MO.out _ _ L3 k4
          have hb4 := hb3.trans (k4.mono hb3.size)
          clear L3 k4 hb3
          generalize hgb3 : w3.heap.size = b3 at *
          go_wp2_with fail
          refine (PB.out _ L4).mono ?_
          rintro e' w5 ⟨⟨A2, n2, c2⟩, ⟨D2, p2, d2⟩, ⟨E2, q2, f2⟩, ze2, rfl, hT, k5⟩
          clear PB
          simp only [Hd.val, Flt.val]
          have L5 := MO.out _ _ L4 k5
          have hb5 := hb4.trans (k5.mono hb4.size)
          have s5 := k5.size
          replace x0 := (k5.cell (p := ⟨b3, 0, none⟩) (by show b3 < _; omega)).trans x0
          replace x1 := (k5.cell (p := ⟨b3, 1, none⟩) (by show b3 < _; omega)).trans x1
          replace x2 := (k5.cell (p := ⟨b3, 2, none⟩) (by show b3 < _; omega)).trans x2
          replace y0 := (k5.cell (p := ⟨b3 + 1, 0, none⟩) (by show b3 + 1 < _; omega)).trans y0
          replace y1 := (k5.cell (p := ⟨b3 + 1, 1, none⟩) (by show b3 + 1 < _; omega)).trans y1
          replace y2 := (k5.cell (p := ⟨b3 + 1, 2, none⟩) (by show b3 + 1 < _; omega)).trans y2
          replace hS := hS.below k5
          clear L4 hb4 k5
          go_upto_region 20 with (fail)
          have k6 := box2_below w5 (.cells #[.slice A2 n2 c2, .slice D2 p2 d2, .slice E2 q2 f2] 26) (.cells #[.int .i64 0, .int .i64 0, .int .i64 0] 29)
          have v0 : ((w5.alloc (.cells #[.slice A2 n2 c2, .slice D2 p2 d2, .slice E2 q2 f2] 26)).alloc (.cells #[.int .i64 0, .int .i64 0, .int .i64 0] 29)).cell? ⟨w5.heap.size, 0, none⟩ = some (.slice A2 n2 c2) := by simp
          have v1 : ((w5.alloc (.cells #[.slice A2 n2 c2, .slice D2 p2 d2, .slice E2 q2 f2] 26)).alloc (.cells #[.int .i64 0, .int .i64 0, .int .i64 0] 29)).cell? ⟨w5.heap.size, 1, none⟩ = some (.slice D2 p2 d2) := by simp
          have v2 : ((w5.alloc (.cells #[.slice A2 n2 c2, .slice D2 p2 d2, .slice E2 q2 f2] 26)).alloc (.cells #[.int .i64 0, .int .i64 0, .int .i64 0] 29)).cell? ⟨w5.heap.size, 2, none⟩ = some (.slice E2 q2 f2) := by simp
          have t0 : ((w5.alloc (.cells #[.slice A2 n2 c2, .slice D2 p2 d2, .slice E2 q2 f2] 26)).alloc (.cells #[.int .i64 0, .int .i64 0, .int .i64 0] 29)).cell? ⟨w5.heap.size + 1, 0, none⟩ = some (.int .i64 0) := by simp
          have t1 : ((w5.alloc (.cells #[.slice A2 n2 c2, .slice D2 p2 d2, .slice E2 q2 f2] 26)).alloc (.cells #[.int .i64 0, .int .i64 0, .int .i64 0] 29)).cell? ⟨w5.heap.size + 1, 1, none⟩ = some (.int .i64 0) := by simp
          have t2 : ((w5.alloc (.cells #[.slice A2 n2 c2, .slice D2 p2 d2, .slice E2 q2 f2] 26)).alloc (.cells #[.int .i64 0, .int .i64 0, .int .i64 0] 29)).cell? ⟨w5.heap.size + 1, 2, none⟩ = some (.int .i64 0) := by simp
          have zb5 : ((w5.alloc (.cells #[.slice A2 n2 c2, .slice D2 p2 d2, .slice E2 q2 f2] 26)).alloc (.cells #[.int .i64 0, .int .i64 0, .int .i64 0] 29)).heap.size = w5.heap.size + 2 := by simp
          generalize ((w5.alloc (.cells #[.slice A2 n2 c2, .slice D2 p2 d2, .slice E2 q2 f2] 26)).alloc (.cells #[.int .i64 0, .int .i64 0, .int .i64 0] 29)) = u5 at *
          replace x0 := (k6.cell (p := ⟨b3, 0, none⟩) (by show b3 < _; omega)).trans x0
          replace x1 := (k6.cell (p := ⟨b3, 1, none⟩) (by show b3 < _; omega)).trans x1
          replace x2 := (k6.cell (p := ⟨b3, 2, none⟩) (by show b3 < _; omega)).trans x2
          replace y0 := (k6.cell (p := ⟨b3 + 1, 0, none⟩) (by show b3 + 1 < _; omega)).trans y0
          replace y1 := (k6.cell (p := ⟨b3 + 1, 1, none⟩) (by show b3 + 1 < _; omega)).trans y1
          replace y2 := (k6.cell (p := ⟨b3 + 1, 2, none⟩) (by show b3 + 1 < _; omega)).trans y2
          replace hS := hS.below k6
          replace hT := hT.below k6
          have L6 := MO.out _ _ L5 k6
          have hb6 := hb5.trans (k6.mono hb5.size)
          clear L5 k6 hb5
          generalize hgb5 : w5.heap.size = b5 at *
          go_wp2_with fail
          refine (AL.out _ L6).mono ?_
          clear AL
          rintro e w7 ⟨rfl, k7⟩
          have hb7 := hb6.trans (k7.mono hb6.size)
          replace x0 := (k7.cell (p := ⟨b3, 0, none⟩) (by show b3 < _; omega)).trans x0
          replace x1 := (k7.cell (p := ⟨b3, 1, none⟩) (by show b3 < _; omega)).trans x1
          replace x2 := (k7.cell (p := ⟨b3, 2, none⟩) (by show b3 < _; omega)).trans x2
          replace y0 := (k7.cell (p := ⟨b3 + 1, 0, none⟩) (by show b3 + 1 < _; omega)).trans y0
          replace y1 := (k7.cell (p := ⟨b3 + 1, 1, none⟩) (by show b3 + 1 < _; omega)).trans y1
          replace y2 := (k7.cell (p := ⟨b3 + 1, 2, none⟩) (by show b3 + 1 < _; omega)).trans y2
          replace v0 := (k7.cell (p := ⟨b5, 0, none⟩) (by show b5 < _; omega)).trans v0
          replace v1 := (k7.cell (p := ⟨b5, 1, none⟩) (by show b5 < _; omega)).trans v1
          replace v2 := (k7.cell (p := ⟨b5, 2, none⟩) (by show b5 < _; omega)).trans v2
          replace t0 := (k7.cell (p := ⟨b5 + 1, 0, none⟩) (by show b5 + 1 < _; omega)).trans t0
          replace t1 := (k7.cell (p := ⟨b5 + 1, 1, none⟩) (by show b5 + 1 < _; omega)).trans t1
          replace t2 := (k7.cell (p := ⟨b5 + 1, 2, none⟩) (by show b5 + 1 < _; omega)).trans t2
          replace hS := hS.below k7
          replace hT := hT.below k7
          have SM := Lib.hid (sameS S ⟨A1, n1, c1⟩ ⟨D1, p1, d1⟩ ⟨E1, q1, f1⟩ ⟨A2, n2, c2⟩ ⟨D2, p2, d2⟩ ⟨E2, q2, f2⟩ ze1 ze2 w7 hS hT)
          simp only [Hd.val] at SM
          clear hS hT k7 L6 hb6
          go_wp2_with fail
          refine SM.out.mono ?_
          rintro e w8 ⟨rfl, k8⟩
          go_wp2
          go_ret
          exact ⟨rfl, hb7.trans (k8.mono hb7.size)⟩
        · have eb : (e == 0) = false := beq_eq_false_iff_ne.2 e0
          clear FE FU FN
          by_cases h14 : e = 14
          · subst h14
            clear sg
            go_wp2_with fail
            refine (PA.out _ L2).mono ?_
            rintro e' w3 ⟨⟨A1, n1, c1⟩, ⟨D1, p1, d1⟩, ⟨E1, q1, f1⟩, ze1, rfl, hS, k3⟩
            clear PA
            simp only [Hd.val, Flt.val]
            clear hS
            have L3 := MO.out _ _ L2 k3
            have hb3 := hb2.trans (k3.mono hb2.size)
            have s3 := hb3.size
            clear L2 hb2 k3
            go_upto_region 19 with (fail)
            have k4 := box2_below w3 (.cells #[.slice A1 n1 c1, .slice D1 p1 d1, .slice E1 q1 f1] 26) (.cells #[.int .i64 14, .int .i64 l, .int .i64 a] 29)
            have x0 : ((w3.alloc (.cells #[.slice A1 n1 c1, .slice D1 p1 d1, .slice E1 q1 f1] 26)).alloc (.cells #[.int .i64 14, .int .i64 l, .int .i64 a] 29)).cell? ⟨w3.heap.size, 0, none⟩ = some (.slice A1 n1 c1) := by simp
            have x1 : ((w3.alloc (.cells #[.slice A1 n1 c1, .slice D1 p1 d1, .slice E1 q1 f1] 26)).alloc (.cells #[.int .i64 14, .int .i64 l, .int .i64 a] 29)).cell? ⟨w3.heap.size, 1, none⟩ = some (.slice D1 p1 d1) := by simp
            have x2 : ((w3.alloc (.cells #[.slice A1 n1 c1, .slice D1 p1 d1, .slice E1 q1 f1] 26)).alloc (.cells #[.int .i64 14, .int .i64 l, .int .i64 a] 29)).cell? ⟨w3.heap.size, 2, none⟩ = some (.slice E1 q1 f1) := by simp
            have y0 : ((w3.alloc (.cells #[.slice A1 n1 c1, .slice D1 p1 d1, .slice E1 q1 f1] 26)).alloc (.cells #[.int .i64 14, .int .i64 l, .int .i64 a] 29)).cell? ⟨w3.heap.size + 1, 0, none⟩ = some (.int .i64 14) := by simp
            have y1 : ((w3.alloc (.cells #[.slice A1 n1 c1, .slice D1 p1 d1, .slice E1 q1 f1] 26)).alloc (.cells #[.int .i64 14, .int .i64 l, .int .i64 a] 29)).cell? ⟨w3.heap.size + 1, 1, none⟩ = some (.int .i64 l) := by simp
            have y2 : ((w3.alloc (.cells #[.slice A1 n1 c1, .slice D1 p1 d1, .slice E1 q1 f1] 26)).alloc (.cells #[.int .i64 14, .int .i64 l, .int .i64 a] 29)).cell? ⟨w3.heap.size + 1, 2, none⟩ = some (.int .i64 a) := by simp
            have zb3 : ((w3.alloc (.cells #[.slice A1 n1 c1, .slice D1 p1 d1, .slice E1 q1 f1] 26)).alloc (.cells #[.int .i64 14, .int .i64 l, .int .i64 a] 29)).heap.size = w3.heap.size + 2 := by simp
            generalize ((w3.alloc (.cells #[.slice A1 n1 c1, .slice D1 p1 d1, .slice E1 q1 f1] 26)).alloc (.cells #[.int .i64 14, .int .i64 l, .int .i64 a] 29)) = u3 at *
            have L4 := MO.out _ _ L3 k4
            have hb4 := hb3.trans (k4.mono hb3.size)
            clear L3 k4 hb3
            generalize hgb3 : w3.heap.size = b3 at *
            go_wp2_with fail
            refine (PB.out _ L4).mono ?_
            rintro e' w5 ⟨⟨A2, n2, c2⟩, ⟨D2, p2, d2⟩, ⟨E2, q2, f2⟩, ze2, rfl, hT, k5⟩
            clear PB
            simp only [Hd.val, Flt.val]
            clear hT
            have L5 := MO.out _ _ L4 k5
            have hb5 := hb4.trans (k5.mono hb4.size)
            have s5 := k5.size
            replace x0 := (k5.cell (p := ⟨b3, 0, none⟩) (by show b3 < _; omega)).trans x0
            replace x1 := (k5.cell (p := ⟨b3, 1, none⟩) (by show b3 < _; omega)).trans x1
            replace x2 := (k5.cell (p := ⟨b3, 2, none⟩) (by show b3 < _; omega)).trans x2
            replace y0 := (k5.cell (p := ⟨b3 + 1, 0, none⟩) (by show b3 + 1 < _; omega)).trans y0
            replace y1 := (k5.cell (p := ⟨b3 + 1, 1, none⟩) (by show b3 + 1 < _; omega)).trans y1
            replace y2 := (k5.cell (p := ⟨b3 + 1, 2, none⟩) (by show b3 + 1 < _; omega)).trans y2
            clear L4 hb4 k5
            go_upto_region 20 with (fail)
            have k6 := box2_below w5 (.cells #[.slice A2 n2 c2, .slice D2 p2 d2, .slice E2 q2 f2] 26) (.cells #[.int .i64 14, .int .i64 l2, .int .i64 a2] 29)
            have v0 : ((w5.alloc (.cells #[.slice A2 n2 c2, .slice D2 p2 d2, .slice E2 q2 f2] 26)).alloc (.cells #[.int .i64 14, .int .i64 l2, .int .i64 a2] 29)).cell? ⟨w5.heap.size, 0, none⟩ = some (.slice A2 n2 c2) := by simp
            have v1 : ((w5.alloc (.cells #[.slice A2 n2 c2, .slice D2 p2 d2, .slice E2 q2 f2] 26)).alloc (.cells #[.int .i64 14, .int .i64 l2, .int .i64 a2] 29)).cell? ⟨w5.heap.size, 1, none⟩ = some (.slice D2 p2 d2) := by simp
            have v2 : ((w5.alloc (.cells #[.slice A2 n2 c2, .slice D2 p2 d2, .slice E2 q2 f2] 26)).alloc (.cells #[.int .i64 14, .int .i64 l2, .int .i64 a2] 29)).cell? ⟨w5.heap.size, 2, none⟩ = some (.slice E2 q2 f2) := by simp
            have t0 : ((w5.alloc (.cells #[.slice A2 n2 c2, .slice D2 p2 d2, .slice E2 q2 f2] 26)).alloc (.cells #[.int .i64 14, .int .i64 l2, .int .i64 a2] 29)).cell? ⟨w5.heap.size + 1, 0, none⟩ = some (.int .i64 14) := by simp
            have t1 : ((w5.alloc (.cells #[.slice A2 n2 c2, .slice D2 p2 d2, .slice E2 q2 f2] 26)).alloc (.cells #[.int .i64 14, .int .i64 l2, .int .i64 a2] 29)).cell? ⟨w5.heap.size + 1, 1, none⟩ = some (.int .i64 l2) := by simp
            have t2 : ((w5.alloc (.cells #[.slice A2 n2 c2, .slice D2 p2 d2, .slice E2 q2 f2] 26)).alloc (.cells #[.int .i64 14, .int .i64 l2, .int .i64 a2] 29)).cell? ⟨w5.heap.size + 1, 2, none⟩ = some (.int .i64 a2) := by simp
            have zb5 : ((w5.alloc (.cells #[.slice A2 n2 c2, .slice D2 p2 d2, .slice E2 q2 f2] 26)).alloc (.cells #[.int .i64 14, .int .i64 l2, .int .i64 a2] 29)).heap.size = w5.heap.size + 2 := by simp
            generalize ((w5.alloc (.cells #[.slice A2 n2 c2, .slice D2 p2 d2, .slice E2 q2 f2] 26)).alloc (.cells #[.int .i64 14, .int .i64 l2, .int .i64 a2] 29)) = u5 at *
            replace x0 := (k6.cell (p := ⟨b3, 0, none⟩) (by show b3 < _; omega)).trans x0
            replace x1 := (k6.cell (p := ⟨b3, 1, none⟩) (by show b3 < _; omega)).trans x1
            replace x2 := (k6.cell (p := ⟨b3, 2, none⟩) (by show b3 < _; omega)).trans x2
            replace y0 := (k6.cell (p := ⟨b3 + 1, 0, none⟩) (by show b3 + 1 < _; omega)).trans y0
            replace y1 := (k6.cell (p := ⟨b3 + 1, 1, none⟩) (by show b3 + 1 < _; omega)).trans y1
            replace y2 := (k6.cell (p := ⟨b3 + 1, 2, none⟩) (by show b3 + 1 < _; omega)).trans y2
            have L6 := MO.out _ _ L5 k6
            have hb6 := hb5.trans (k6.mono hb5.size)
            clear L5 k6 hb5
            generalize hgb5 : w5.heap.size = b5 at *
            go_wp2_with fail
            refine (AL.out _ L6).mono ?_
            clear AL
            rintro e w7 ⟨rfl, k7⟩
            have hb7 := hb6.trans (k7.mono hb6.size)
            replace x0 := (k7.cell (p := ⟨b3, 0, none⟩) (by show b3 < _; omega)).trans x0
            replace x1 := (k7.cell (p := ⟨b3, 1, none⟩) (by show b3 < _; omega)).trans x1
            replace x2 := (k7.cell (p := ⟨b3, 2, none⟩) (by show b3 < _; omega)).trans x2
            replace y0 := (k7.cell (p := ⟨b3 + 1, 0, none⟩) (by show b3 + 1 < _; omega)).trans y0
            replace y1 := (k7.cell (p := ⟨b3 + 1, 1, none⟩) (by show b3 + 1 < _; omega)).trans y1
            replace y2 := (k7.cell (p := ⟨b3 + 1, 2, none⟩) (by show b3 + 1 < _; omega)).trans y2
            replace v0 := (k7.cell (p := ⟨b5, 0, none⟩) (by show b5 < _; omega)).trans v0
            replace v1 := (k7.cell (p := ⟨b5, 1, none⟩) (by show b5 < _; omega)).trans v1
            replace v2 := (k7.cell (p := ⟨b5, 2, none⟩) (by show b5 < _; omega)).trans v2
            replace t0 := (k7.cell (p := ⟨b5 + 1, 0, none⟩) (by show b5 + 1 < _; omega)).trans t0
            replace t1 := (k7.cell (p := ⟨b5 + 1, 1, none⟩) (by show b5 + 1 < _; omega)).trans t1
            replace t2 := (k7.cell (p := ⟨b5 + 1, 2, none⟩) (by show b5 + 1 < _; omega)).trans t2
            go_wp2
            go_ret
            exact ⟨by simp, hb7⟩
          · obtain rfl : a = a2 := sg.resolve_left h14
            have ec : (e == 14) = false := beq_eq_false_iff_ne.2 h14
            clear sg
            go_wp2_with fail
            refine (PA.out _ L2).mono ?_
            rintro e' w3 ⟨⟨A1, n1, c1⟩, ⟨D1, p1, d1⟩, ⟨E1, q1, f1⟩, ze1, rfl, hS, k3⟩
            clear PA
            simp only [Hd.val, Flt.val]
            clear hS
            have L3 := MO.out _ _ L2 k3
            have hb3 := hb2.trans (k3.mono hb2.size)
            have s3 := hb3.size
            clear L2 hb2 k3
            go_upto_region 19 with (fail)
            have k4 := box2_below w3 (.cells #[.slice A1 n1 c1, .slice D1 p1 d1, .slice E1 q1 f1] 26) (.cells #[.int .i64 e, .int .i64 l, .int .i64 a] 29)
            have x0 : ((w3.alloc (.cells #[.slice A1 n1 c1, .slice D1 p1 d1, .slice E1 q1 f1] 26)).alloc (.cells #[.int .i64 e, .int .i64 l, .int .i64 a] 29)).cell? ⟨w3.heap.size, 0, none⟩ = some (.slice A1 n1 c1) := by simp
            have x1 : ((w3.alloc (.cells #[.slice A1 n1 c1, .slice D1 p1 d1, .slice E1 q1 f1] 26)).alloc (.cells #[.int .i64 e, .int .i64 l, .int .i64 a] 29)).cell? ⟨w3.heap.size, 1, none⟩ = some (.slice D1 p1 d1) := by simp
            have x2 : ((w3.alloc (.cells #[.slice A1 n1 c1, .slice D1 p1 d1, .slice E1 q1 f1] 26)).alloc (.cells #[.int .i64 e, .int .i64 l, .int .i64 a] 29)).cell? ⟨w3.heap.size, 2, none⟩ = some (.slice E1 q1 f1) := by simp
            have y0 : ((w3.alloc (.cells #[.slice A1 n1 c1, .slice D1 p1 d1, .slice E1 q1 f1] 26)).alloc (.cells #[.int .i64 e, .int .i64 l, .int .i64 a] 29)).cell? ⟨w3.heap.size + 1, 0, none⟩ = some (.int .i64 e) := by simp
            have y1 : ((w3.alloc (.cells #[.slice A1 n1 c1, .slice D1 p1 d1, .slice E1 q1 f1] 26)).alloc (.cells #[.int .i64 e, .int .i64 l, .int .i64 a] 29)).cell? ⟨w3.heap.size + 1, 1, none⟩ = some (.int .i64 l) := by simp
            have y2 : ((w3.alloc (.cells #[.slice A1 n1 c1, .slice D1 p1 d1, .slice E1 q1 f1] 26)).alloc (.cells #[.int .i64 e, .int .i64 l, .int .i64 a] 29)).cell? ⟨w3.heap.size + 1, 2, none⟩ = some (.int .i64 a) := by simp
            have zb3 : ((w3.alloc (.cells #[.slice A1 n1 c1, .slice D1 p1 d1, .slice E1 q1 f1] 26)).alloc (.cells #[.int .i64 e, .int .i64 l, .int .i64 a] 29)).heap.size = w3.heap.size + 2 := by simp
            generalize ((w3.alloc (.cells #[.slice A1 n1 c1, .slice D1 p1 d1, .slice E1 q1 f1] 26)).alloc (.cells #[.int .i64 e, .int .i64 l, .int .i64 a] 29)) = u3 at *
            have L4 := MO.out _ _ L3 k4
            have hb4 := hb3.trans (k4.mono hb3.size)
            clear L3 k4 hb3
            generalize hgb3 : w3.heap.size = b3 at *
            go_wp2_with fail
            refine (PB.out _ L4).mono ?_
            rintro e' w5 ⟨⟨A2, n2, c2⟩, ⟨D2, p2, d2⟩, ⟨E2, q2, f2⟩, ze2, rfl, hT, k5⟩
            clear PB
            simp only [Hd.val, Flt.val]
            clear hT
            have L5 := MO.out _ _ L4 k5
            have hb5 := hb4.trans (k5.mono hb4.size)
            have s5 := k5.size
            replace x0 := (k5.cell (p := ⟨b3, 0, none⟩) (by show b3 < _; omega)).trans x0
            replace x1 := (k5.cell (p := ⟨b3, 1, none⟩) (by show b3 < _; omega)).trans x1
            replace x2 := (k5.cell (p := ⟨b3, 2, none⟩) (by show b3 < _; omega)).trans x2
            replace y0 := (k5.cell (p := ⟨b3 + 1, 0, none⟩) (by show b3 + 1 < _; omega)).trans y0
            replace y1 := (k5.cell (p := ⟨b3 + 1, 1, none⟩) (by show b3 + 1 < _; omega)).trans y1
            replace y2 := (k5.cell (p := ⟨b3 + 1, 2, none⟩) (by show b3 + 1 < _; omega)).trans y2
            clear L4 hb4 k5
            go_upto_region 20 with (fail)
            have k6 := box2_below w5 (.cells #[.slice A2 n2 c2, .slice D2 p2 d2, .slice E2 q2 f2] 26) (.cells #[.int .i64 e, .int .i64 l2, .int .i64 a] 29)
            have v0 : ((w5.alloc (.cells #[.slice A2 n2 c2, .slice D2 p2 d2, .slice E2 q2 f2] 26)).alloc (.cells #[.int .i64 e, .int .i64 l2, .int .i64 a] 29)).cell? ⟨w5.heap.size, 0, none⟩ = some (.slice A2 n2 c2) := by simp
            have v1 : ((w5.alloc (.cells #[.slice A2 n2 c2, .slice D2 p2 d2, .slice E2 q2 f2] 26)).alloc (.cells #[.int .i64 e, .int .i64 l2, .int .i64 a] 29)).cell? ⟨w5.heap.size, 1, none⟩ = some (.slice D2 p2 d2) := by simp
            have v2 : ((w5.alloc (.cells #[.slice A2 n2 c2, .slice D2 p2 d2, .slice E2 q2 f2] 26)).alloc (.cells #[.int .i64 e, .int .i64 l2, .int .i64 a] 29)).cell? ⟨w5.heap.size, 2, none⟩ = some (.slice E2 q2 f2) := by simp
            have t0 : ((w5.alloc (.cells #[.slice A2 n2 c2, .slice D2 p2 d2, .slice E2 q2 f2] 26)).alloc (.cells #[.int .i64 e, .int .i64 l2, .int .i64 a] 29)).cell? ⟨w5.heap.size + 1, 0, none⟩ = some (.int .i64 e) := by simp
            have t1 : ((w5.alloc (.cells #[.slice A2 n2 c2, .slice D2 p2 d2, .slice E2 q2 f2] 26)).alloc (.cells #[.int .i64 e, .int .i64 l2, .int .i64 a] 29)).cell? ⟨w5.heap.size + 1, 1, none⟩ = some (.int .i64 l2) := by simp
            have t2 : ((w5.alloc (.cells #[.slice A2 n2 c2, .slice D2 p2 d2, .slice E2 q2 f2] 26)).alloc (.cells #[.int .i64 e, .int .i64 l2, .int .i64 a] 29)).cell? ⟨w5.heap.size + 1, 2, none⟩ = some (.int .i64 a) := by simp
            have zb5 : ((w5.alloc (.cells #[.slice A2 n2 c2, .slice D2 p2 d2, .slice E2 q2 f2] 26)).alloc (.cells #[.int .i64 e, .int .i64 l2, .int .i64 a] 29)).heap.size = w5.heap.size + 2 := by simp
            generalize ((w5.alloc (.cells #[.slice A2 n2 c2, .slice D2 p2 d2, .slice E2 q2 f2] 26)).alloc (.cells #[.int .i64 e, .int .i64 l2, .int .i64 a] 29)) = u5 at *
            replace x0 := (k6.cell (p := ⟨b3, 0, none⟩) (by show b3 < _; omega)).trans x0
            replace x1 := (k6.cell (p := ⟨b3, 1, none⟩) (by show b3 < _; omega)).trans x1
            replace x2 := (k6.cell (p := ⟨b3, 2, none⟩) (by show b3 < _; omega)).trans x2
            replace y0 := (k6.cell (p := ⟨b3 + 1, 0, none⟩) (by show b3 + 1 < _; omega)).trans y0
            replace y1 := (k6.cell (p := ⟨b3 + 1, 1, none⟩) (by show b3 + 1 < _; omega)).trans y1
            replace y2 := (k6.cell (p := ⟨b3 + 1, 2, none⟩) (by show b3 + 1 < _; omega)).trans y2
            have L6 := MO.out _ _ L5 k6
            have hb6 := hb5.trans (k6.mono hb5.size)
            clear L5 k6 hb5
            generalize hgb5 : w5.heap.size = b5 at *
            go_wp2_with fail
            refine (AL.out _ L6).mono ?_
            clear AL
            rintro e w7 ⟨rfl, k7⟩
            have hb7 := hb6.trans (k7.mono hb6.size)
            replace x0 := (k7.cell (p := ⟨b3, 0, none⟩) (by show b3 < _; omega)).trans x0
            replace x1 := (k7.cell (p := ⟨b3, 1, none⟩) (by show b3 < _; omega)).trans x1
            replace x2 := (k7.cell (p := ⟨b3, 2, none⟩) (by show b3 < _; omega)).trans x2
            replace y0 := (k7.cell (p := ⟨b3 + 1, 0, none⟩) (by show b3 + 1 < _; omega)).trans y0
            replace y1 := (k7.cell (p := ⟨b3 + 1, 1, none⟩) (by show b3 + 1 < _; omega)).trans y1
            replace y2 := (k7.cell (p := ⟨b3 + 1, 2, none⟩) (by show b3 + 1 < _; omega)).trans y2
            replace v0 := (k7.cell (p := ⟨b5, 0, none⟩) (by show b5 < _; omega)).trans v0
            replace v1 := (k7.cell (p := ⟨b5, 1, none⟩) (by show b5 < _; omega)).trans v1
            replace v2 := (k7.cell (p := ⟨b5, 2, none⟩) (by show b5 < _; omega)).trans v2
            replace t0 := (k7.cell (p := ⟨b5 + 1, 0, none⟩) (by show b5 + 1 < _; omega)).trans t0
            replace t1 := (k7.cell (p := ⟨b5 + 1, 1, none⟩) (by show b5 + 1 < _; omega)).trans t1
            replace t2 := (k7.cell (p := ⟨b5 + 1, 2, none⟩) (by show b5 + 1 < _; omega)).trans t2
            go_wp2
            go_ret
            exact ⟨by simp, hb7⟩
theorem remarksK {Q : World → Prop} (C : ReadP Q) (s : ByteArray) (a : Int) (hs : s.size ≤ maxLen) (ha : 0 ≤ a ∧ a ≤ 255) (w : World) (L : Q w) : Calls Tryz.prog 7 #[.string s, .int .u8 a] w (RetV w (.bool true)) := by
  obtain ⟨v, rfl⟩ : ∃ v : Nat, a = (v : Int) := ⟨a.toNat, by omega⟩
  exact remarksL C s hs v (by omega) w L
end Go.Proofs.YtnkmlfbnfndfpaaGreatDoor
