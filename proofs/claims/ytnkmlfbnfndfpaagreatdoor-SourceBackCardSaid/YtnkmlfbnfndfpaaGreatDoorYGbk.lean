import Derived.Test.YtnkmlfbnfndfpaaGreatDoorYHalive
import Derived.Test.YtnkmlfbnfndfpaaGreatDoorYHgreat
import Derived.Test.YtnkmlfbnfndfpaaGreatDoorYHok
/- Stage 10's laws: what was written is read as it was (its text first: a fault). -/
namespace Go.Proofs.YtnkmlfbnfndfpaaGreatDoor
open Go.RowKit
set_option maxRecDepth 100000 in
set_option maxHeartbeats 16000000 in
theorem backX0 {Q : World → Prop} (C : SourceP Q) (S : Sr) (a0 b0_ c0 : Hd) (ze : List Ze) (hi : S.in64) (t : ByteArray) (ht : t.size ≤ maxLen) (w : World) (hS : SrcV w S a0 b0_ c0 ze) (L : Q w) (hok : okSr S = true) (hz : ¬ 100000 < (srcText S).size) (hf : ¬ (srcRes t).2.1 = 0) :
    Calls Tryz.prog 6 #[.agg #[a0.val, b0_.val, c0.val], .string t] w (RetV w (.bool true)) := by
  obtain ⟨A, n, c⟩ := a0
  obtain ⟨D, p, d⟩ := b0_
  obtain ⟨E, q, f⟩ := c0
  have MO := Lib.hid C.mono
  have AL := Lib.hid (alive10 C.toReadP)
  have GR := Lib.hid (fun W (h : SrcV W S ⟨A, n, c⟩ ⟨D, p, d⟩ ⟨E, q, f⟩ ze) => greatA S _ _ _ ze W h)
  simp only [Hd.val] at GR
  have hpr : printRes S = (srcText S, 0) := by unfold printRes; rw [if_pos hok, if_neg hz]
  have PS := Lib.hid (fun W (h : SrcV W S ⟨A, n, c⟩ ⟨D, p, d⟩ ⟨E, q, f⟩ ze) (L : Q W) => (hpr ▸ C.print S _ _ _ ze W h hi L))
  have PB := Lib.hid (fun W (L : Q W) => (src_back (okSr_of hok) (by omega) ▸ C.parse (srcText S) (by unfold maxLen; omega) W L : Calls Tryz.prog 9 #[.string (srcText S)] W (RetSrcF W (S, (0, 0, 0)))))
  simp only [Hd.val] at PS
  have PT := Lib.hid (C.parse t ht)
  have FN := src_none hf
  generalize srcRes t = r at *
  obtain ⟨S1, ⟨e, l, a⟩⟩ := r
  obtain rfl : S1 = .none := FN
  have ec : (e == 0) = false := beq_eq_false_iff_ne.2 hf
  have ec2 : (e != 0) = true := bne_iff_ne.2 hf
  clear C hi ht hok hz hpr hf
  generalize srcText S = T at *
  simp only [Hd.val]
  go_enter Tryz.func6, Tryz.ntmps6
  go_wp2_with fail
  have k0 : Below w.heap.size w (w.alloc (.cells #[.slice A n c, .slice D p d, .slice E q f] 26)) := (Below.refl _ w).alloc (Nat.le_refl _) _
  have x0 : (w.alloc (.cells #[.slice A n c, .slice D p d, .slice E q f] 26)).cell? ⟨w.heap.size, 0, none⟩ = some (.slice A n c) := by simp
  have x1 : (w.alloc (.cells #[.slice A n c, .slice D p d, .slice E q f] 26)).cell? ⟨w.heap.size, 1, none⟩ = some (.slice D p d) := by simp
  have x2 : (w.alloc (.cells #[.slice A n c, .slice D p d, .slice E q f] 26)).cell? ⟨w.heap.size, 2, none⟩ = some (.slice E q f) := by simp
  have z0 : (w.alloc (.cells #[.slice A n c, .slice D p d, .slice E q f] 26)).heap.size = w.heap.size + 1 := by simp
  generalize w.alloc (.cells #[.slice A n c, .slice D p d, .slice E q f] 26) = u0 at *
  have L1_ := MO.out _ _ L k0
  have hb1 := k0
  have sz1 := k0.size
  replace hS := hS.below k0
  clear k0 L
  refine (GR.out _ hS).mono ?_
  rintro e' w1 ⟨bb, rfl, k1⟩
  have L2_ := MO.out _ _ L1_ k1
  have hb2 := hb1.trans (k1.mono hb1.size)
  have sz2 := k1.size
  replace x0 := (k1.cell (p := ⟨w.heap.size, 0, none⟩) (by show w.heap.size < _; omega)).trans x0
  replace x1 := (k1.cell (p := ⟨w.heap.size, 1, none⟩) (by show w.heap.size < _; omega)).trans x1
  replace x2 := (k1.cell (p := ⟨w.heap.size, 2, none⟩) (by show w.heap.size < _; omega)).trans x2
  replace hS := hS.below k1
  clear k1 L1_ hb1
  cases bb with
  | true =>
    go_wp2_with (go_at_call 11; refine (AL.out _ L2_).mono ?_; rintro e w9 ⟨rfl, h9⟩)
    go_ret
    exact ⟨rfl, hb2.trans (h9.mono hb2.size)⟩
  | false =>
    go_wp2_with fail
    refine (PS.out _ hS L2_).mono ?_
    rintro e' w2 ⟨rfl, k2⟩
    have L3_ := MO.out _ _ L2_ k2
    have hb3 := hb2.trans (k2.mono hb2.size)
    have sz3 := k2.size
    replace x0 := (k2.cell (p := ⟨w.heap.size, 0, none⟩) (by show w.heap.size < _; omega)).trans x0
    replace x1 := (k2.cell (p := ⟨w.heap.size, 1, none⟩) (by show w.heap.size < _; omega)).trans x1
    replace x2 := (k2.cell (p := ⟨w.heap.size, 2, none⟩) (by show w.heap.size < _; omega)).trans x2
    replace hS := hS.below k2
    clear k2 L2_ hb2
    go_wp2_with fail
    refine (PB.out _ L3_).mono ?_
    rintro e' wpb1 ⟨⟨Ab1, nb1, cb1⟩, ⟨Db1, pb1, db1⟩, ⟨Eb1, qb1, fb1⟩, zeb1, rfl, hT, kpb1⟩
    simp only [Hd.val, Flt.val, Flt.no]
    have L4_ := MO.out _ _ L3_ kpb1
    have hb4 := hb3.trans (kpb1.mono hb3.size)
    have sz4 := kpb1.size
    replace x0 := (kpb1.cell (p := ⟨w.heap.size, 0, none⟩) (by show w.heap.size < _; omega)).trans x0
    replace x1 := (kpb1.cell (p := ⟨w.heap.size, 1, none⟩) (by show w.heap.size < _; omega)).trans x1
    replace x2 := (kpb1.cell (p := ⟨w.heap.size, 2, none⟩) (by show w.heap.size < _; omega)).trans x2
    replace hS := hS.below kpb1
    clear kpb1 L3_ hb3
    go_upto_region 6 with (fail)
    have k5 := box2_below wpb1 (.cells #[.slice Ab1 nb1 cb1, .slice Db1 pb1 db1, .slice Eb1 qb1 fb1] 26) (.cells #[.int .i64 0, .int .i64 0, .int .i64 0] 29)
    have y0 : ((wpb1.alloc (.cells #[.slice Ab1 nb1 cb1, .slice Db1 pb1 db1, .slice Eb1 qb1 fb1] 26)).alloc (.cells #[.int .i64 0, .int .i64 0, .int .i64 0] 29)).cell? ⟨wpb1.heap.size, 0, none⟩ = some (.slice Ab1 nb1 cb1) := by simp
    have y1 : ((wpb1.alloc (.cells #[.slice Ab1 nb1 cb1, .slice Db1 pb1 db1, .slice Eb1 qb1 fb1] 26)).alloc (.cells #[.int .i64 0, .int .i64 0, .int .i64 0] 29)).cell? ⟨wpb1.heap.size, 1, none⟩ = some (.slice Db1 pb1 db1) := by simp
    have y2 : ((wpb1.alloc (.cells #[.slice Ab1 nb1 cb1, .slice Db1 pb1 db1, .slice Eb1 qb1 fb1] 26)).alloc (.cells #[.int .i64 0, .int .i64 0, .int .i64 0] 29)).cell? ⟨wpb1.heap.size, 2, none⟩ = some (.slice Eb1 qb1 fb1) := by simp
    have m0 : ((wpb1.alloc (.cells #[.slice Ab1 nb1 cb1, .slice Db1 pb1 db1, .slice Eb1 qb1 fb1] 26)).alloc (.cells #[.int .i64 0, .int .i64 0, .int .i64 0] 29)).cell? ⟨wpb1.heap.size + 1, 0, none⟩ = some (.int .i64 0) := by simp
    have m1 : ((wpb1.alloc (.cells #[.slice Ab1 nb1 cb1, .slice Db1 pb1 db1, .slice Eb1 qb1 fb1] 26)).alloc (.cells #[.int .i64 0, .int .i64 0, .int .i64 0] 29)).cell? ⟨wpb1.heap.size + 1, 1, none⟩ = some (.int .i64 0) := by simp
    have m2 : ((wpb1.alloc (.cells #[.slice Ab1 nb1 cb1, .slice Db1 pb1 db1, .slice Eb1 qb1 fb1] 26)).alloc (.cells #[.int .i64 0, .int .i64 0, .int .i64 0] 29)).cell? ⟨wpb1.heap.size + 1, 2, none⟩ = some (.int .i64 0) := by simp
    have zb1 : ((wpb1.alloc (.cells #[.slice Ab1 nb1 cb1, .slice Db1 pb1 db1, .slice Eb1 qb1 fb1] 26)).alloc (.cells #[.int .i64 0, .int .i64 0, .int .i64 0] 29)).heap.size = wpb1.heap.size + 2 := by simp
    generalize ((wpb1.alloc (.cells #[.slice Ab1 nb1 cb1, .slice Db1 pb1 db1, .slice Eb1 qb1 fb1] 26)).alloc (.cells #[.int .i64 0, .int .i64 0, .int .i64 0] 29)) = u5 at *
    have L5_ := MO.out _ _ L4_ k5
    have hb5 := hb4.trans (k5.mono hb4.size)
    have sz5 := k5.size
    replace x0 := (k5.cell (p := ⟨w.heap.size, 0, none⟩) (by show w.heap.size < _; omega)).trans x0
    replace x1 := (k5.cell (p := ⟨w.heap.size, 1, none⟩) (by show w.heap.size < _; omega)).trans x1
    replace x2 := (k5.cell (p := ⟨w.heap.size, 2, none⟩) (by show w.heap.size < _; omega)).trans x2
    replace hS := hS.below k5
    replace hT := hT.below k5
    clear k5 L4_ hb4
    generalize hgb1 : wpb1.heap.size = b1 at *
    have SM := Lib.hid (sameS S ⟨Ab1, nb1, cb1⟩ ⟨Db1, pb1, db1⟩ ⟨Eb1, qb1, fb1⟩ ⟨A, n, c⟩ ⟨D, p, d⟩ ⟨E, q, f⟩ zeb1 ze u5 hT hS)
    simp only [Hd.val] at SM
    clear hT hS
    go_wp2_with fail
    refine SM.out.mono ?_
    rintro e' w3 ⟨rfl, k3⟩
    clear SM
    have L6_ := MO.out _ _ L5_ k3
    have hb6 := hb5.trans (k3.mono hb5.size)
    have sz6 := k3.size
    replace x0 := (k3.cell (p := ⟨w.heap.size, 0, none⟩) (by show w.heap.size < _; omega)).trans x0
    replace x1 := (k3.cell (p := ⟨w.heap.size, 1, none⟩) (by show w.heap.size < _; omega)).trans x1
    replace x2 := (k3.cell (p := ⟨w.heap.size, 2, none⟩) (by show w.heap.size < _; omega)).trans x2
    replace y0 := (k3.cell (p := ⟨b1, 0, none⟩) (by show b1 < _; omega)).trans y0
    replace y1 := (k3.cell (p := ⟨b1, 1, none⟩) (by show b1 < _; omega)).trans y1
    replace y2 := (k3.cell (p := ⟨b1, 2, none⟩) (by show b1 < _; omega)).trans y2
    replace m0 := (k3.cell (p := ⟨b1 + 1, 0, none⟩) (by show b1 + 1 < _; omega)).trans m0
    replace m1 := (k3.cell (p := ⟨b1 + 1, 1, none⟩) (by show b1 + 1 < _; omega)).trans m1
    replace m2 := (k3.cell (p := ⟨b1 + 1, 2, none⟩) (by show b1 + 1 < _; omega)).trans m2
    clear k3 L5_ hb5
    go_wp2_with fail
    refine (PT.out _ L6_).mono ?_
    rintro e' wpb2 ⟨⟨Ab2, nb2, cb2⟩, ⟨Db2, pb2, db2⟩, ⟨Eb2, qb2, fb2⟩, zeb2, rfl, hV, kpb2⟩
    simp only [Hd.val, Flt.val]
    obtain rfl : (0 : Nat) = nb2 := hV.rules.len
    obtain rfl : (0 : Nat) = pb2 := by have h2 : zeb2 = [] := List.map_eq_nil_iff.1 hV.all; have h1 := hV.zones.len; rw [h2] at h1; exact h1
    obtain rfl : (0 : Nat) = qb2 := hV.links.len
    clear hV
    have L7_ := MO.out _ _ L6_ kpb2
    have hb7 := hb6.trans (kpb2.mono hb6.size)
    have sz7 := kpb2.size
    replace x0 := (kpb2.cell (p := ⟨w.heap.size, 0, none⟩) (by show w.heap.size < _; omega)).trans x0
    replace x1 := (kpb2.cell (p := ⟨w.heap.size, 1, none⟩) (by show w.heap.size < _; omega)).trans x1
    replace x2 := (kpb2.cell (p := ⟨w.heap.size, 2, none⟩) (by show w.heap.size < _; omega)).trans x2
    replace y0 := (kpb2.cell (p := ⟨b1, 0, none⟩) (by show b1 < _; omega)).trans y0
    replace y1 := (kpb2.cell (p := ⟨b1, 1, none⟩) (by show b1 < _; omega)).trans y1
    replace y2 := (kpb2.cell (p := ⟨b1, 2, none⟩) (by show b1 < _; omega)).trans y2
    replace m0 := (kpb2.cell (p := ⟨b1 + 1, 0, none⟩) (by show b1 + 1 < _; omega)).trans m0
    replace m1 := (kpb2.cell (p := ⟨b1 + 1, 1, none⟩) (by show b1 + 1 < _; omega)).trans m1
    replace m2 := (kpb2.cell (p := ⟨b1 + 1, 2, none⟩) (by show b1 + 1 < _; omega)).trans m2
    clear kpb2 L6_ hb6
    go_upto_region 9 with (fail)
    have k8 := box2_below wpb2 (.cells #[.slice Ab2 0 cb2, .slice Db2 0 db2, .slice Eb2 0 fb2] 26) (.cells #[.int .i64 e, .int .i64 l, .int .i64 a] 29)
    have v0 : ((wpb2.alloc (.cells #[.slice Ab2 0 cb2, .slice Db2 0 db2, .slice Eb2 0 fb2] 26)).alloc (.cells #[.int .i64 e, .int .i64 l, .int .i64 a] 29)).cell? ⟨wpb2.heap.size, 0, none⟩ = some (.slice Ab2 0 cb2) := by simp
    have v1 : ((wpb2.alloc (.cells #[.slice Ab2 0 cb2, .slice Db2 0 db2, .slice Eb2 0 fb2] 26)).alloc (.cells #[.int .i64 e, .int .i64 l, .int .i64 a] 29)).cell? ⟨wpb2.heap.size, 1, none⟩ = some (.slice Db2 0 db2) := by simp
    have v2 : ((wpb2.alloc (.cells #[.slice Ab2 0 cb2, .slice Db2 0 db2, .slice Eb2 0 fb2] 26)).alloc (.cells #[.int .i64 e, .int .i64 l, .int .i64 a] 29)).cell? ⟨wpb2.heap.size, 2, none⟩ = some (.slice Eb2 0 fb2) := by simp
    have t0 : ((wpb2.alloc (.cells #[.slice Ab2 0 cb2, .slice Db2 0 db2, .slice Eb2 0 fb2] 26)).alloc (.cells #[.int .i64 e, .int .i64 l, .int .i64 a] 29)).cell? ⟨wpb2.heap.size + 1, 0, none⟩ = some (.int .i64 e) := by simp
    have t1 : ((wpb2.alloc (.cells #[.slice Ab2 0 cb2, .slice Db2 0 db2, .slice Eb2 0 fb2] 26)).alloc (.cells #[.int .i64 e, .int .i64 l, .int .i64 a] 29)).cell? ⟨wpb2.heap.size + 1, 1, none⟩ = some (.int .i64 l) := by simp
    have t2 : ((wpb2.alloc (.cells #[.slice Ab2 0 cb2, .slice Db2 0 db2, .slice Eb2 0 fb2] 26)).alloc (.cells #[.int .i64 e, .int .i64 l, .int .i64 a] 29)).cell? ⟨wpb2.heap.size + 1, 2, none⟩ = some (.int .i64 a) := by simp
    have zb2 : ((wpb2.alloc (.cells #[.slice Ab2 0 cb2, .slice Db2 0 db2, .slice Eb2 0 fb2] 26)).alloc (.cells #[.int .i64 e, .int .i64 l, .int .i64 a] 29)).heap.size = wpb2.heap.size + 2 := by simp
    generalize ((wpb2.alloc (.cells #[.slice Ab2 0 cb2, .slice Db2 0 db2, .slice Eb2 0 fb2] 26)).alloc (.cells #[.int .i64 e, .int .i64 l, .int .i64 a] 29)) = u8 at *
    have L8_ := MO.out _ _ L7_ k8
    have hb8 := hb7.trans (k8.mono hb7.size)
    have sz8 := k8.size
    replace x0 := (k8.cell (p := ⟨w.heap.size, 0, none⟩) (by show w.heap.size < _; omega)).trans x0
    replace x1 := (k8.cell (p := ⟨w.heap.size, 1, none⟩) (by show w.heap.size < _; omega)).trans x1
    replace x2 := (k8.cell (p := ⟨w.heap.size, 2, none⟩) (by show w.heap.size < _; omega)).trans x2
    replace y0 := (k8.cell (p := ⟨b1, 0, none⟩) (by show b1 < _; omega)).trans y0
    replace y1 := (k8.cell (p := ⟨b1, 1, none⟩) (by show b1 < _; omega)).trans y1
    replace y2 := (k8.cell (p := ⟨b1, 2, none⟩) (by show b1 < _; omega)).trans y2
    replace m0 := (k8.cell (p := ⟨b1 + 1, 0, none⟩) (by show b1 + 1 < _; omega)).trans m0
    replace m1 := (k8.cell (p := ⟨b1 + 1, 1, none⟩) (by show b1 + 1 < _; omega)).trans m1
    replace m2 := (k8.cell (p := ⟨b1 + 1, 2, none⟩) (by show b1 + 1 < _; omega)).trans m2
    clear k8 L7_ hb7
    generalize hgb2 : wpb2.heap.size = b2 at *
    go_wp2_with fail
    refine (AL.out _ L8_).mono ?_
    rintro e' w9 ⟨rfl, k9⟩
    have L9_ := MO.out _ _ L8_ k9
    have hb9 := hb8.trans (k9.mono hb8.size)
    have sz9 := k9.size
    replace x0 := (k9.cell (p := ⟨w.heap.size, 0, none⟩) (by show w.heap.size < _; omega)).trans x0
    replace x1 := (k9.cell (p := ⟨w.heap.size, 1, none⟩) (by show w.heap.size < _; omega)).trans x1
    replace x2 := (k9.cell (p := ⟨w.heap.size, 2, none⟩) (by show w.heap.size < _; omega)).trans x2
    replace y0 := (k9.cell (p := ⟨b1, 0, none⟩) (by show b1 < _; omega)).trans y0
    replace y1 := (k9.cell (p := ⟨b1, 1, none⟩) (by show b1 < _; omega)).trans y1
    replace y2 := (k9.cell (p := ⟨b1, 2, none⟩) (by show b1 < _; omega)).trans y2
    replace m0 := (k9.cell (p := ⟨b1 + 1, 0, none⟩) (by show b1 + 1 < _; omega)).trans m0
    replace m1 := (k9.cell (p := ⟨b1 + 1, 1, none⟩) (by show b1 + 1 < _; omega)).trans m1
    replace m2 := (k9.cell (p := ⟨b1 + 1, 2, none⟩) (by show b1 + 1 < _; omega)).trans m2
    replace v0 := (k9.cell (p := ⟨b2, 0, none⟩) (by show b2 < _; omega)).trans v0
    replace v1 := (k9.cell (p := ⟨b2, 1, none⟩) (by show b2 < _; omega)).trans v1
    replace v2 := (k9.cell (p := ⟨b2, 2, none⟩) (by show b2 < _; omega)).trans v2
    replace t0 := (k9.cell (p := ⟨b2 + 1, 0, none⟩) (by show b2 + 1 < _; omega)).trans t0
    replace t1 := (k9.cell (p := ⟨b2 + 1, 1, none⟩) (by show b2 + 1 < _; omega)).trans t1
    replace t2 := (k9.cell (p := ⟨b2 + 1, 2, none⟩) (by show b2 + 1 < _; omega)).trans t2
    clear k9 L8_ hb8
    go_wp2
    go_ret
    exact ⟨rfl, hb9⟩
set_option maxRecDepth 100000 in
set_option maxHeartbeats 16000000 in
theorem backY0 {Q : World → Prop} (C : SourceP Q) (S : Sr) (a0 b0_ c0 : Hd) (ze : List Ze) (hi : S.in64) (t : ByteArray) (ht : t.size ≤ maxLen) (w : World) (hS : SrcV w S a0 b0_ c0 ze) (L : Q w) (T : ByteArray) (er : Int) (her : ¬ er = 0) (hpr : printRes S = (T, er)) (hf : ¬ (srcRes t).2.1 = 0) :
    Calls Tryz.prog 6 #[.agg #[a0.val, b0_.val, c0.val], .string t] w (RetV w (.bool true)) := by
  obtain ⟨A, n, c⟩ := a0
  obtain ⟨D, p, d⟩ := b0_
  obtain ⟨E, q, f⟩ := c0
  have MO := Lib.hid C.mono
  have AL := Lib.hid (alive10 C.toReadP)
  have GR := Lib.hid (fun W (h : SrcV W S ⟨A, n, c⟩ ⟨D, p, d⟩ ⟨E, q, f⟩ ze) => greatA S _ _ _ ze W h)
  simp only [Hd.val] at GR
  have eb : (er == 0) = false := beq_eq_false_iff_ne.2 her
  have PS := Lib.hid (fun W (h : SrcV W S ⟨A, n, c⟩ ⟨D, p, d⟩ ⟨E, q, f⟩ ze) (L : Q W) => (hpr ▸ C.print S _ _ _ ze W h hi L))
  simp only [Hd.val] at PS
  have PT := Lib.hid (C.parse t ht)
  have FN := src_none hf
  generalize srcRes t = r at *
  obtain ⟨S1, ⟨e, l, a⟩⟩ := r
  obtain rfl : S1 = .none := FN
  have ec : (e == 0) = false := beq_eq_false_iff_ne.2 hf
  have ec2 : (e != 0) = true := bne_iff_ne.2 hf
  clear C hi ht hpr her hf
  simp only [Hd.val]
  go_enter Tryz.func6, Tryz.ntmps6
  go_wp2_with fail
  have k0 : Below w.heap.size w (w.alloc (.cells #[.slice A n c, .slice D p d, .slice E q f] 26)) := (Below.refl _ w).alloc (Nat.le_refl _) _
  have x0 : (w.alloc (.cells #[.slice A n c, .slice D p d, .slice E q f] 26)).cell? ⟨w.heap.size, 0, none⟩ = some (.slice A n c) := by simp
  have x1 : (w.alloc (.cells #[.slice A n c, .slice D p d, .slice E q f] 26)).cell? ⟨w.heap.size, 1, none⟩ = some (.slice D p d) := by simp
  have x2 : (w.alloc (.cells #[.slice A n c, .slice D p d, .slice E q f] 26)).cell? ⟨w.heap.size, 2, none⟩ = some (.slice E q f) := by simp
  have z0 : (w.alloc (.cells #[.slice A n c, .slice D p d, .slice E q f] 26)).heap.size = w.heap.size + 1 := by simp
  generalize w.alloc (.cells #[.slice A n c, .slice D p d, .slice E q f] 26) = u0 at *
  have L1_ := MO.out _ _ L k0
  have hb1 := k0
  have sz1 := k0.size
  replace hS := hS.below k0
  clear k0 L
  refine (GR.out _ hS).mono ?_
  rintro e' w1 ⟨bb, rfl, k1⟩
  have L2_ := MO.out _ _ L1_ k1
  have hb2 := hb1.trans (k1.mono hb1.size)
  have sz2 := k1.size
  replace x0 := (k1.cell (p := ⟨w.heap.size, 0, none⟩) (by show w.heap.size < _; omega)).trans x0
  replace x1 := (k1.cell (p := ⟨w.heap.size, 1, none⟩) (by show w.heap.size < _; omega)).trans x1
  replace x2 := (k1.cell (p := ⟨w.heap.size, 2, none⟩) (by show w.heap.size < _; omega)).trans x2
  replace hS := hS.below k1
  clear k1 L1_ hb1
  cases bb with
  | true =>
    go_wp2_with (go_at_call 11; refine (AL.out _ L2_).mono ?_; rintro e w9 ⟨rfl, h9⟩)
    go_ret
    exact ⟨rfl, hb2.trans (h9.mono hb2.size)⟩
  | false =>
    go_wp2_with fail
    refine (PS.out _ hS L2_).mono ?_
    rintro e' w2 ⟨rfl, k2⟩
    have L3_ := MO.out _ _ L2_ k2
    have hb3 := hb2.trans (k2.mono hb2.size)
    have sz3 := k2.size
    replace x0 := (k2.cell (p := ⟨w.heap.size, 0, none⟩) (by show w.heap.size < _; omega)).trans x0
    replace x1 := (k2.cell (p := ⟨w.heap.size, 1, none⟩) (by show w.heap.size < _; omega)).trans x1
    replace x2 := (k2.cell (p := ⟨w.heap.size, 2, none⟩) (by show w.heap.size < _; omega)).trans x2
    replace hS := hS.below k2
    clear k2 L2_ hb2
    clear hS
    go_wp2_with fail
    refine (PT.out _ L3_).mono ?_
    rintro e' wpb2 ⟨⟨Ab2, nb2, cb2⟩, ⟨Db2, pb2, db2⟩, ⟨Eb2, qb2, fb2⟩, zeb2, rfl, hV, kpb2⟩
    simp only [Hd.val, Flt.val]
    obtain rfl : (0 : Nat) = nb2 := hV.rules.len
    obtain rfl : (0 : Nat) = pb2 := by have h2 : zeb2 = [] := List.map_eq_nil_iff.1 hV.all; have h1 := hV.zones.len; rw [h2] at h1; exact h1
    obtain rfl : (0 : Nat) = qb2 := hV.links.len
    clear hV
    have L4_ := MO.out _ _ L3_ kpb2
    have hb4 := hb3.trans (kpb2.mono hb3.size)
    have sz4 := kpb2.size
    replace x0 := (kpb2.cell (p := ⟨w.heap.size, 0, none⟩) (by show w.heap.size < _; omega)).trans x0
    replace x1 := (kpb2.cell (p := ⟨w.heap.size, 1, none⟩) (by show w.heap.size < _; omega)).trans x1
    replace x2 := (kpb2.cell (p := ⟨w.heap.size, 2, none⟩) (by show w.heap.size < _; omega)).trans x2
    clear kpb2 L3_ hb3
    go_upto_region 9 with (fail)
    have k5 := box2_below wpb2 (.cells #[.slice Ab2 0 cb2, .slice Db2 0 db2, .slice Eb2 0 fb2] 26) (.cells #[.int .i64 e, .int .i64 l, .int .i64 a] 29)
    have v0 : ((wpb2.alloc (.cells #[.slice Ab2 0 cb2, .slice Db2 0 db2, .slice Eb2 0 fb2] 26)).alloc (.cells #[.int .i64 e, .int .i64 l, .int .i64 a] 29)).cell? ⟨wpb2.heap.size, 0, none⟩ = some (.slice Ab2 0 cb2) := by simp
    have v1 : ((wpb2.alloc (.cells #[.slice Ab2 0 cb2, .slice Db2 0 db2, .slice Eb2 0 fb2] 26)).alloc (.cells #[.int .i64 e, .int .i64 l, .int .i64 a] 29)).cell? ⟨wpb2.heap.size, 1, none⟩ = some (.slice Db2 0 db2) := by simp
    have v2 : ((wpb2.alloc (.cells #[.slice Ab2 0 cb2, .slice Db2 0 db2, .slice Eb2 0 fb2] 26)).alloc (.cells #[.int .i64 e, .int .i64 l, .int .i64 a] 29)).cell? ⟨wpb2.heap.size, 2, none⟩ = some (.slice Eb2 0 fb2) := by simp
    have t0 : ((wpb2.alloc (.cells #[.slice Ab2 0 cb2, .slice Db2 0 db2, .slice Eb2 0 fb2] 26)).alloc (.cells #[.int .i64 e, .int .i64 l, .int .i64 a] 29)).cell? ⟨wpb2.heap.size + 1, 0, none⟩ = some (.int .i64 e) := by simp
    have t1 : ((wpb2.alloc (.cells #[.slice Ab2 0 cb2, .slice Db2 0 db2, .slice Eb2 0 fb2] 26)).alloc (.cells #[.int .i64 e, .int .i64 l, .int .i64 a] 29)).cell? ⟨wpb2.heap.size + 1, 1, none⟩ = some (.int .i64 l) := by simp
    have t2 : ((wpb2.alloc (.cells #[.slice Ab2 0 cb2, .slice Db2 0 db2, .slice Eb2 0 fb2] 26)).alloc (.cells #[.int .i64 e, .int .i64 l, .int .i64 a] 29)).cell? ⟨wpb2.heap.size + 1, 2, none⟩ = some (.int .i64 a) := by simp
    have zb2 : ((wpb2.alloc (.cells #[.slice Ab2 0 cb2, .slice Db2 0 db2, .slice Eb2 0 fb2] 26)).alloc (.cells #[.int .i64 e, .int .i64 l, .int .i64 a] 29)).heap.size = wpb2.heap.size + 2 := by simp
    generalize ((wpb2.alloc (.cells #[.slice Ab2 0 cb2, .slice Db2 0 db2, .slice Eb2 0 fb2] 26)).alloc (.cells #[.int .i64 e, .int .i64 l, .int .i64 a] 29)) = u5 at *
    have L5_ := MO.out _ _ L4_ k5
    have hb5 := hb4.trans (k5.mono hb4.size)
    have sz5 := k5.size
    replace x0 := (k5.cell (p := ⟨w.heap.size, 0, none⟩) (by show w.heap.size < _; omega)).trans x0
    replace x1 := (k5.cell (p := ⟨w.heap.size, 1, none⟩) (by show w.heap.size < _; omega)).trans x1
    replace x2 := (k5.cell (p := ⟨w.heap.size, 2, none⟩) (by show w.heap.size < _; omega)).trans x2
    clear k5 L4_ hb4
    generalize hgb2 : wpb2.heap.size = b2 at *
    go_wp2_with fail
    refine (AL.out _ L5_).mono ?_
    rintro e' w9 ⟨rfl, k9⟩
    have L6_ := MO.out _ _ L5_ k9
    have hb6 := hb5.trans (k9.mono hb5.size)
    have sz6 := k9.size
    replace x0 := (k9.cell (p := ⟨w.heap.size, 0, none⟩) (by show w.heap.size < _; omega)).trans x0
    replace x1 := (k9.cell (p := ⟨w.heap.size, 1, none⟩) (by show w.heap.size < _; omega)).trans x1
    replace x2 := (k9.cell (p := ⟨w.heap.size, 2, none⟩) (by show w.heap.size < _; omega)).trans x2
    replace v0 := (k9.cell (p := ⟨b2, 0, none⟩) (by show b2 < _; omega)).trans v0
    replace v1 := (k9.cell (p := ⟨b2, 1, none⟩) (by show b2 < _; omega)).trans v1
    replace v2 := (k9.cell (p := ⟨b2, 2, none⟩) (by show b2 < _; omega)).trans v2
    replace t0 := (k9.cell (p := ⟨b2 + 1, 0, none⟩) (by show b2 + 1 < _; omega)).trans t0
    replace t1 := (k9.cell (p := ⟨b2 + 1, 1, none⟩) (by show b2 + 1 < _; omega)).trans t1
    replace t2 := (k9.cell (p := ⟨b2 + 1, 2, none⟩) (by show b2 + 1 < _; omega)).trans t2
    clear k9 L5_ hb5
    go_wp2
    go_ret
    exact ⟨rfl, hb6⟩
end Go.Proofs.YtnkmlfbnfndfpaaGreatDoor
/- Stage 10's laws: what was written is read as it was (too long). -/
namespace Go.Proofs.YtnkmlfbnfndfpaaGreatDoor
open Go.RowKit
set_option maxRecDepth 100000 in
set_option maxHeartbeats 16000000 in
theorem backX1 {Q : World → Prop} (C : SourceP Q) (S : Sr) (a0 b0_ c0 : Hd) (ze : List Ze) (hi : S.in64) (t : ByteArray) (ht : t.size ≤ maxLen) (w : World) (hS : SrcV w S a0 b0_ c0 ze) (L : Q w) (hok : okSr S = true) (hz : ¬ 100000 < (srcText S).size) (hf : (srcRes t).2.1 = 0) (hlong : 100000 < (srcText (srcRes t).1).size) :
    Calls Tryz.prog 6 #[.agg #[a0.val, b0_.val, c0.val], .string t] w (RetV w (.bool true)) := by
  obtain ⟨A, n, c⟩ := a0
  obtain ⟨D, p, d⟩ := b0_
  obtain ⟨E, q, f⟩ := c0
  have MO := Lib.hid C.mono
  have AL := Lib.hid (alive10 C.toReadP)
  have GR := Lib.hid (fun W (h : SrcV W S ⟨A, n, c⟩ ⟨D, p, d⟩ ⟨E, q, f⟩ ze) => greatA S _ _ _ ze W h)
  simp only [Hd.val] at GR
  have hpr : printRes S = (srcText S, 0) := by unfold printRes; rw [if_pos hok, if_neg hz]
  have PS := Lib.hid (fun W (h : SrcV W S ⟨A, n, c⟩ ⟨D, p, d⟩ ⟨E, q, f⟩ ze) (L : Q W) => (hpr ▸ C.print S _ _ _ ze W h hi L))
  have PB := Lib.hid (fun W (L : Q W) => (src_back (okSr_of hok) (by omega) ▸ C.parse (srcText S) (by unfold maxLen; omega) W L : Calls Tryz.prog 9 #[.string (srcText S)] W (RetSrcF W (S, (0, 0, 0)))))
  simp only [Hd.val] at PS
  have FE := flt_err hf
  have OK := src_right hf
  have I1 := ok_in64 OK
  have PT := Lib.hid (C.parse t ht)
  have SH : 1000 < t.size := Nat.lt_of_not_le fun c => absurd (src_short hf c) (by omega)
  have SD := Lib.hid (show decide ((1000 : Int) < (t.size : Int)) = true from decide_eq_true (by omega))
  generalize srcRes t = r at *
  obtain ⟨S1, fl⟩ := r
  obtain rfl : fl = (0, 0, 0) := FE
  simp only at OK I1 hlong PT
  have hp1 : printRes S1 = (⟨#[]⟩, 12) := by unfold printRes; rw [if_pos (okSr_yes OK), if_pos hlong]
  have PV := Lib.hid (fun (A : Option Addr) (n c : Nat) (D : Option Addr) (p d : Nat) (E : Option Addr) (q f : Nat) (ze : List Ze) W (h : SrcV W S1 ⟨A, n, c⟩ ⟨D, p, d⟩ ⟨E, q, f⟩ ze) (L : Q W) => (hp1 ▸ C.print S1 ⟨A, n, c⟩ ⟨D, p, d⟩ ⟨E, q, f⟩ ze W h I1 L))
  simp only [Hd.val] at PV
  clear C hi ht hok hz hpr OK I1 hf hlong hp1
  generalize srcText S = T at *
  simp only [Hd.val]
  go_enter Tryz.func6, Tryz.ntmps6
  go_wp2_with fail
  have k0 : Below w.heap.size w (w.alloc (.cells #[.slice A n c, .slice D p d, .slice E q f] 26)) := (Below.refl _ w).alloc (Nat.le_refl _) _
  have x0 : (w.alloc (.cells #[.slice A n c, .slice D p d, .slice E q f] 26)).cell? ⟨w.heap.size, 0, none⟩ = some (.slice A n c) := by simp
  have x1 : (w.alloc (.cells #[.slice A n c, .slice D p d, .slice E q f] 26)).cell? ⟨w.heap.size, 1, none⟩ = some (.slice D p d) := by simp
  have x2 : (w.alloc (.cells #[.slice A n c, .slice D p d, .slice E q f] 26)).cell? ⟨w.heap.size, 2, none⟩ = some (.slice E q f) := by simp
  have z0 : (w.alloc (.cells #[.slice A n c, .slice D p d, .slice E q f] 26)).heap.size = w.heap.size + 1 := by simp
  generalize w.alloc (.cells #[.slice A n c, .slice D p d, .slice E q f] 26) = u0 at *
  have L1_ := MO.out _ _ L k0
  have hb1 := k0
  have sz1 := k0.size
  replace hS := hS.below k0
  clear k0 L
  refine (GR.out _ hS).mono ?_
  rintro e' w1 ⟨bb, rfl, k1⟩
  have L2_ := MO.out _ _ L1_ k1
  have hb2 := hb1.trans (k1.mono hb1.size)
  have sz2 := k1.size
  replace x0 := (k1.cell (p := ⟨w.heap.size, 0, none⟩) (by show w.heap.size < _; omega)).trans x0
  replace x1 := (k1.cell (p := ⟨w.heap.size, 1, none⟩) (by show w.heap.size < _; omega)).trans x1
  replace x2 := (k1.cell (p := ⟨w.heap.size, 2, none⟩) (by show w.heap.size < _; omega)).trans x2
  replace hS := hS.below k1
  clear k1 L1_ hb1
  cases bb with
  | true =>
    go_wp2_with (go_at_call 11; refine (AL.out _ L2_).mono ?_; rintro e w9 ⟨rfl, h9⟩)
    go_ret
    exact ⟨rfl, hb2.trans (h9.mono hb2.size)⟩
  | false =>
    go_wp2_with fail
    refine (PS.out _ hS L2_).mono ?_
    rintro e' w2 ⟨rfl, k2⟩
    have L3_ := MO.out _ _ L2_ k2
    have hb3 := hb2.trans (k2.mono hb2.size)
    have sz3 := k2.size
    replace x0 := (k2.cell (p := ⟨w.heap.size, 0, none⟩) (by show w.heap.size < _; omega)).trans x0
    replace x1 := (k2.cell (p := ⟨w.heap.size, 1, none⟩) (by show w.heap.size < _; omega)).trans x1
    replace x2 := (k2.cell (p := ⟨w.heap.size, 2, none⟩) (by show w.heap.size < _; omega)).trans x2
    replace hS := hS.below k2
    clear k2 L2_ hb2
    go_wp2_with fail
    refine (PB.out _ L3_).mono ?_
    rintro e' wpb1 ⟨⟨Ab1, nb1, cb1⟩, ⟨Db1, pb1, db1⟩, ⟨Eb1, qb1, fb1⟩, zeb1, rfl, hT, kpb1⟩
    simp only [Hd.val, Flt.val, Flt.no]
    have L4_ := MO.out _ _ L3_ kpb1
    have hb4 := hb3.trans (kpb1.mono hb3.size)
    have sz4 := kpb1.size
    replace x0 := (kpb1.cell (p := ⟨w.heap.size, 0, none⟩) (by show w.heap.size < _; omega)).trans x0
    replace x1 := (kpb1.cell (p := ⟨w.heap.size, 1, none⟩) (by show w.heap.size < _; omega)).trans x1
    replace x2 := (kpb1.cell (p := ⟨w.heap.size, 2, none⟩) (by show w.heap.size < _; omega)).trans x2
    replace hS := hS.below kpb1
    clear kpb1 L3_ hb3
    go_upto_region 6 with (fail)
    have k5 := box2_below wpb1 (.cells #[.slice Ab1 nb1 cb1, .slice Db1 pb1 db1, .slice Eb1 qb1 fb1] 26) (.cells #[.int .i64 0, .int .i64 0, .int .i64 0] 29)
    have y0 : ((wpb1.alloc (.cells #[.slice Ab1 nb1 cb1, .slice Db1 pb1 db1, .slice Eb1 qb1 fb1] 26)).alloc (.cells #[.int .i64 0, .int .i64 0, .int .i64 0] 29)).cell? ⟨wpb1.heap.size, 0, none⟩ = some (.slice Ab1 nb1 cb1) := by simp
    have y1 : ((wpb1.alloc (.cells #[.slice Ab1 nb1 cb1, .slice Db1 pb1 db1, .slice Eb1 qb1 fb1] 26)).alloc (.cells #[.int .i64 0, .int .i64 0, .int .i64 0] 29)).cell? ⟨wpb1.heap.size, 1, none⟩ = some (.slice Db1 pb1 db1) := by simp
    have y2 : ((wpb1.alloc (.cells #[.slice Ab1 nb1 cb1, .slice Db1 pb1 db1, .slice Eb1 qb1 fb1] 26)).alloc (.cells #[.int .i64 0, .int .i64 0, .int .i64 0] 29)).cell? ⟨wpb1.heap.size, 2, none⟩ = some (.slice Eb1 qb1 fb1) := by simp
    have m0 : ((wpb1.alloc (.cells #[.slice Ab1 nb1 cb1, .slice Db1 pb1 db1, .slice Eb1 qb1 fb1] 26)).alloc (.cells #[.int .i64 0, .int .i64 0, .int .i64 0] 29)).cell? ⟨wpb1.heap.size + 1, 0, none⟩ = some (.int .i64 0) := by simp
    have m1 : ((wpb1.alloc (.cells #[.slice Ab1 nb1 cb1, .slice Db1 pb1 db1, .slice Eb1 qb1 fb1] 26)).alloc (.cells #[.int .i64 0, .int .i64 0, .int .i64 0] 29)).cell? ⟨wpb1.heap.size + 1, 1, none⟩ = some (.int .i64 0) := by simp
    have m2 : ((wpb1.alloc (.cells #[.slice Ab1 nb1 cb1, .slice Db1 pb1 db1, .slice Eb1 qb1 fb1] 26)).alloc (.cells #[.int .i64 0, .int .i64 0, .int .i64 0] 29)).cell? ⟨wpb1.heap.size + 1, 2, none⟩ = some (.int .i64 0) := by simp
    have zb1 : ((wpb1.alloc (.cells #[.slice Ab1 nb1 cb1, .slice Db1 pb1 db1, .slice Eb1 qb1 fb1] 26)).alloc (.cells #[.int .i64 0, .int .i64 0, .int .i64 0] 29)).heap.size = wpb1.heap.size + 2 := by simp
    generalize ((wpb1.alloc (.cells #[.slice Ab1 nb1 cb1, .slice Db1 pb1 db1, .slice Eb1 qb1 fb1] 26)).alloc (.cells #[.int .i64 0, .int .i64 0, .int .i64 0] 29)) = u5 at *
    have L5_ := MO.out _ _ L4_ k5
    have hb5 := hb4.trans (k5.mono hb4.size)
    have sz5 := k5.size
    replace x0 := (k5.cell (p := ⟨w.heap.size, 0, none⟩) (by show w.heap.size < _; omega)).trans x0
    replace x1 := (k5.cell (p := ⟨w.heap.size, 1, none⟩) (by show w.heap.size < _; omega)).trans x1
    replace x2 := (k5.cell (p := ⟨w.heap.size, 2, none⟩) (by show w.heap.size < _; omega)).trans x2
    replace hS := hS.below k5
    replace hT := hT.below k5
    clear k5 L4_ hb4
    generalize hgb1 : wpb1.heap.size = b1 at *
    have SM := Lib.hid (sameS S ⟨Ab1, nb1, cb1⟩ ⟨Db1, pb1, db1⟩ ⟨Eb1, qb1, fb1⟩ ⟨A, n, c⟩ ⟨D, p, d⟩ ⟨E, q, f⟩ zeb1 ze u5 hT hS)
    simp only [Hd.val] at SM
    clear hT hS
    go_wp2_with fail
    refine SM.out.mono ?_
    rintro e' w3 ⟨rfl, k3⟩
    clear SM
    have L6_ := MO.out _ _ L5_ k3
    have hb6 := hb5.trans (k3.mono hb5.size)
    have sz6 := k3.size
    replace x0 := (k3.cell (p := ⟨w.heap.size, 0, none⟩) (by show w.heap.size < _; omega)).trans x0
    replace x1 := (k3.cell (p := ⟨w.heap.size, 1, none⟩) (by show w.heap.size < _; omega)).trans x1
    replace x2 := (k3.cell (p := ⟨w.heap.size, 2, none⟩) (by show w.heap.size < _; omega)).trans x2
    replace y0 := (k3.cell (p := ⟨b1, 0, none⟩) (by show b1 < _; omega)).trans y0
    replace y1 := (k3.cell (p := ⟨b1, 1, none⟩) (by show b1 < _; omega)).trans y1
    replace y2 := (k3.cell (p := ⟨b1, 2, none⟩) (by show b1 < _; omega)).trans y2
    replace m0 := (k3.cell (p := ⟨b1 + 1, 0, none⟩) (by show b1 + 1 < _; omega)).trans m0
    replace m1 := (k3.cell (p := ⟨b1 + 1, 1, none⟩) (by show b1 + 1 < _; omega)).trans m1
    replace m2 := (k3.cell (p := ⟨b1 + 1, 2, none⟩) (by show b1 + 1 < _; omega)).trans m2
    clear k3 L5_ hb5
    go_wp2_with fail
    refine (PT.out _ L6_).mono ?_
    rintro e' wpb2 ⟨⟨Ab2, nb2, cb2⟩, ⟨Db2, pb2, db2⟩, ⟨Eb2, qb2, fb2⟩, zeb2, rfl, hV, kpb2⟩
    simp only [Hd.val, Flt.val]
    have L7_ := MO.out _ _ L6_ kpb2
    have hb7 := hb6.trans (kpb2.mono hb6.size)
    have sz7 := kpb2.size
    replace x0 := (kpb2.cell (p := ⟨w.heap.size, 0, none⟩) (by show w.heap.size < _; omega)).trans x0
    replace x1 := (kpb2.cell (p := ⟨w.heap.size, 1, none⟩) (by show w.heap.size < _; omega)).trans x1
    replace x2 := (kpb2.cell (p := ⟨w.heap.size, 2, none⟩) (by show w.heap.size < _; omega)).trans x2
    replace y0 := (kpb2.cell (p := ⟨b1, 0, none⟩) (by show b1 < _; omega)).trans y0
    replace y1 := (kpb2.cell (p := ⟨b1, 1, none⟩) (by show b1 < _; omega)).trans y1
    replace y2 := (kpb2.cell (p := ⟨b1, 2, none⟩) (by show b1 < _; omega)).trans y2
    replace m0 := (kpb2.cell (p := ⟨b1 + 1, 0, none⟩) (by show b1 + 1 < _; omega)).trans m0
    replace m1 := (kpb2.cell (p := ⟨b1 + 1, 1, none⟩) (by show b1 + 1 < _; omega)).trans m1
    replace m2 := (kpb2.cell (p := ⟨b1 + 1, 2, none⟩) (by show b1 + 1 < _; omega)).trans m2
    clear kpb2 L6_ hb6
    go_upto_region 9 with (fail)
    have k8 := box2_below wpb2 (.cells #[.slice Ab2 nb2 cb2, .slice Db2 pb2 db2, .slice Eb2 qb2 fb2] 26) (.cells #[.int .i64 0, .int .i64 0, .int .i64 0] 29)
    have v0 : ((wpb2.alloc (.cells #[.slice Ab2 nb2 cb2, .slice Db2 pb2 db2, .slice Eb2 qb2 fb2] 26)).alloc (.cells #[.int .i64 0, .int .i64 0, .int .i64 0] 29)).cell? ⟨wpb2.heap.size, 0, none⟩ = some (.slice Ab2 nb2 cb2) := by simp
    have v1 : ((wpb2.alloc (.cells #[.slice Ab2 nb2 cb2, .slice Db2 pb2 db2, .slice Eb2 qb2 fb2] 26)).alloc (.cells #[.int .i64 0, .int .i64 0, .int .i64 0] 29)).cell? ⟨wpb2.heap.size, 1, none⟩ = some (.slice Db2 pb2 db2) := by simp
    have v2 : ((wpb2.alloc (.cells #[.slice Ab2 nb2 cb2, .slice Db2 pb2 db2, .slice Eb2 qb2 fb2] 26)).alloc (.cells #[.int .i64 0, .int .i64 0, .int .i64 0] 29)).cell? ⟨wpb2.heap.size, 2, none⟩ = some (.slice Eb2 qb2 fb2) := by simp
    have t0 : ((wpb2.alloc (.cells #[.slice Ab2 nb2 cb2, .slice Db2 pb2 db2, .slice Eb2 qb2 fb2] 26)).alloc (.cells #[.int .i64 0, .int .i64 0, .int .i64 0] 29)).cell? ⟨wpb2.heap.size + 1, 0, none⟩ = some (.int .i64 0) := by simp
    have t1 : ((wpb2.alloc (.cells #[.slice Ab2 nb2 cb2, .slice Db2 pb2 db2, .slice Eb2 qb2 fb2] 26)).alloc (.cells #[.int .i64 0, .int .i64 0, .int .i64 0] 29)).cell? ⟨wpb2.heap.size + 1, 1, none⟩ = some (.int .i64 0) := by simp
    have t2 : ((wpb2.alloc (.cells #[.slice Ab2 nb2 cb2, .slice Db2 pb2 db2, .slice Eb2 qb2 fb2] 26)).alloc (.cells #[.int .i64 0, .int .i64 0, .int .i64 0] 29)).cell? ⟨wpb2.heap.size + 1, 2, none⟩ = some (.int .i64 0) := by simp
    have zb2 : ((wpb2.alloc (.cells #[.slice Ab2 nb2 cb2, .slice Db2 pb2 db2, .slice Eb2 qb2 fb2] 26)).alloc (.cells #[.int .i64 0, .int .i64 0, .int .i64 0] 29)).heap.size = wpb2.heap.size + 2 := by simp
    generalize ((wpb2.alloc (.cells #[.slice Ab2 nb2 cb2, .slice Db2 pb2 db2, .slice Eb2 qb2 fb2] 26)).alloc (.cells #[.int .i64 0, .int .i64 0, .int .i64 0] 29)) = u8 at *
    have L8_ := MO.out _ _ L7_ k8
    have hb8 := hb7.trans (k8.mono hb7.size)
    have sz8 := k8.size
    replace x0 := (k8.cell (p := ⟨w.heap.size, 0, none⟩) (by show w.heap.size < _; omega)).trans x0
    replace x1 := (k8.cell (p := ⟨w.heap.size, 1, none⟩) (by show w.heap.size < _; omega)).trans x1
    replace x2 := (k8.cell (p := ⟨w.heap.size, 2, none⟩) (by show w.heap.size < _; omega)).trans x2
    replace y0 := (k8.cell (p := ⟨b1, 0, none⟩) (by show b1 < _; omega)).trans y0
    replace y1 := (k8.cell (p := ⟨b1, 1, none⟩) (by show b1 < _; omega)).trans y1
    replace y2 := (k8.cell (p := ⟨b1, 2, none⟩) (by show b1 < _; omega)).trans y2
    replace m0 := (k8.cell (p := ⟨b1 + 1, 0, none⟩) (by show b1 + 1 < _; omega)).trans m0
    replace m1 := (k8.cell (p := ⟨b1 + 1, 1, none⟩) (by show b1 + 1 < _; omega)).trans m1
    replace m2 := (k8.cell (p := ⟨b1 + 1, 2, none⟩) (by show b1 + 1 < _; omega)).trans m2
    replace hV := hV.below k8
    clear k8 L7_ hb7
    generalize hgb2 : wpb2.heap.size = b2 at *
    go_wp2_with fail
    refine (PV.out Ab2 nb2 cb2 Db2 pb2 db2 Eb2 qb2 fb2 zeb2 _ hV L8_).mono ?_
    rintro e' w5 ⟨rfl, k5⟩
    have L9_ := MO.out _ _ L8_ k5
    have hb9 := hb8.trans (k5.mono hb8.size)
    have sz9 := k5.size
    replace x0 := (k5.cell (p := ⟨w.heap.size, 0, none⟩) (by show w.heap.size < _; omega)).trans x0
    replace x1 := (k5.cell (p := ⟨w.heap.size, 1, none⟩) (by show w.heap.size < _; omega)).trans x1
    replace x2 := (k5.cell (p := ⟨w.heap.size, 2, none⟩) (by show w.heap.size < _; omega)).trans x2
    replace y0 := (k5.cell (p := ⟨b1, 0, none⟩) (by show b1 < _; omega)).trans y0
    replace y1 := (k5.cell (p := ⟨b1, 1, none⟩) (by show b1 < _; omega)).trans y1
    replace y2 := (k5.cell (p := ⟨b1, 2, none⟩) (by show b1 < _; omega)).trans y2
    replace m0 := (k5.cell (p := ⟨b1 + 1, 0, none⟩) (by show b1 + 1 < _; omega)).trans m0
    replace m1 := (k5.cell (p := ⟨b1 + 1, 1, none⟩) (by show b1 + 1 < _; omega)).trans m1
    replace m2 := (k5.cell (p := ⟨b1 + 1, 2, none⟩) (by show b1 + 1 < _; omega)).trans m2
    replace v0 := (k5.cell (p := ⟨b2, 0, none⟩) (by show b2 < _; omega)).trans v0
    replace v1 := (k5.cell (p := ⟨b2, 1, none⟩) (by show b2 < _; omega)).trans v1
    replace v2 := (k5.cell (p := ⟨b2, 2, none⟩) (by show b2 < _; omega)).trans v2
    replace t0 := (k5.cell (p := ⟨b2 + 1, 0, none⟩) (by show b2 + 1 < _; omega)).trans t0
    replace t1 := (k5.cell (p := ⟨b2 + 1, 1, none⟩) (by show b2 + 1 < _; omega)).trans t1
    replace t2 := (k5.cell (p := ⟨b2 + 1, 2, none⟩) (by show b2 + 1 < _; omega)).trans t2
    replace hV := hV.below k5
    clear k5 L8_ hb8
    go_wp2_with (go_at_call 11; refine (AL.out _ L9_).mono ?_; rintro e w9 ⟨rfl, h9⟩)
    go_ret
    exact ⟨by rw [SD.out]; rfl, hb9.trans (h9.mono hb9.size)⟩
set_option maxRecDepth 100000 in
set_option maxHeartbeats 16000000 in
theorem backY1 {Q : World → Prop} (C : SourceP Q) (S : Sr) (a0 b0_ c0 : Hd) (ze : List Ze) (hi : S.in64) (t : ByteArray) (ht : t.size ≤ maxLen) (w : World) (hS : SrcV w S a0 b0_ c0 ze) (L : Q w) (T : ByteArray) (er : Int) (her : ¬ er = 0) (hpr : printRes S = (T, er)) (hf : (srcRes t).2.1 = 0) (hlong : 100000 < (srcText (srcRes t).1).size) :
    Calls Tryz.prog 6 #[.agg #[a0.val, b0_.val, c0.val], .string t] w (RetV w (.bool true)) := by
  obtain ⟨A, n, c⟩ := a0
  obtain ⟨D, p, d⟩ := b0_
  obtain ⟨E, q, f⟩ := c0
  have MO := Lib.hid C.mono
  have AL := Lib.hid (alive10 C.toReadP)
  have GR := Lib.hid (fun W (h : SrcV W S ⟨A, n, c⟩ ⟨D, p, d⟩ ⟨E, q, f⟩ ze) => greatA S _ _ _ ze W h)
  simp only [Hd.val] at GR
  have eb : (er == 0) = false := beq_eq_false_iff_ne.2 her
  have PS := Lib.hid (fun W (h : SrcV W S ⟨A, n, c⟩ ⟨D, p, d⟩ ⟨E, q, f⟩ ze) (L : Q W) => (hpr ▸ C.print S _ _ _ ze W h hi L))
  simp only [Hd.val] at PS
  have FE := flt_err hf
  have OK := src_right hf
  have I1 := ok_in64 OK
  have PT := Lib.hid (C.parse t ht)
  have SH : 1000 < t.size := Nat.lt_of_not_le fun c => absurd (src_short hf c) (by omega)
  have SD := Lib.hid (show decide ((1000 : Int) < (t.size : Int)) = true from decide_eq_true (by omega))
  generalize srcRes t = r at *
  obtain ⟨S1, fl⟩ := r
  obtain rfl : fl = (0, 0, 0) := FE
  simp only at OK I1 hlong PT
  have hp1 : printRes S1 = (⟨#[]⟩, 12) := by unfold printRes; rw [if_pos (okSr_yes OK), if_pos hlong]
  have PV := Lib.hid (fun (A : Option Addr) (n c : Nat) (D : Option Addr) (p d : Nat) (E : Option Addr) (q f : Nat) (ze : List Ze) W (h : SrcV W S1 ⟨A, n, c⟩ ⟨D, p, d⟩ ⟨E, q, f⟩ ze) (L : Q W) => (hp1 ▸ C.print S1 ⟨A, n, c⟩ ⟨D, p, d⟩ ⟨E, q, f⟩ ze W h I1 L))
  simp only [Hd.val] at PV
  clear C hi ht hpr her OK I1 hf hlong hp1
  simp only [Hd.val]
  go_enter Tryz.func6, Tryz.ntmps6
  go_wp2_with fail
  have k0 : Below w.heap.size w (w.alloc (.cells #[.slice A n c, .slice D p d, .slice E q f] 26)) := (Below.refl _ w).alloc (Nat.le_refl _) _
  have x0 : (w.alloc (.cells #[.slice A n c, .slice D p d, .slice E q f] 26)).cell? ⟨w.heap.size, 0, none⟩ = some (.slice A n c) := by simp
  have x1 : (w.alloc (.cells #[.slice A n c, .slice D p d, .slice E q f] 26)).cell? ⟨w.heap.size, 1, none⟩ = some (.slice D p d) := by simp
  have x2 : (w.alloc (.cells #[.slice A n c, .slice D p d, .slice E q f] 26)).cell? ⟨w.heap.size, 2, none⟩ = some (.slice E q f) := by simp
  have z0 : (w.alloc (.cells #[.slice A n c, .slice D p d, .slice E q f] 26)).heap.size = w.heap.size + 1 := by simp
  generalize w.alloc (.cells #[.slice A n c, .slice D p d, .slice E q f] 26) = u0 at *
  have L1_ := MO.out _ _ L k0
  have hb1 := k0
  have sz1 := k0.size
  replace hS := hS.below k0
  clear k0 L
  refine (GR.out _ hS).mono ?_
  rintro e' w1 ⟨bb, rfl, k1⟩
  have L2_ := MO.out _ _ L1_ k1
  have hb2 := hb1.trans (k1.mono hb1.size)
  have sz2 := k1.size
  replace x0 := (k1.cell (p := ⟨w.heap.size, 0, none⟩) (by show w.heap.size < _; omega)).trans x0
  replace x1 := (k1.cell (p := ⟨w.heap.size, 1, none⟩) (by show w.heap.size < _; omega)).trans x1
  replace x2 := (k1.cell (p := ⟨w.heap.size, 2, none⟩) (by show w.heap.size < _; omega)).trans x2
  replace hS := hS.below k1
  clear k1 L1_ hb1
  cases bb with
  | true =>
    go_wp2_with (go_at_call 11; refine (AL.out _ L2_).mono ?_; rintro e w9 ⟨rfl, h9⟩)
    go_ret
    exact ⟨rfl, hb2.trans (h9.mono hb2.size)⟩
  | false =>
    go_wp2_with fail
    refine (PS.out _ hS L2_).mono ?_
    rintro e' w2 ⟨rfl, k2⟩
    have L3_ := MO.out _ _ L2_ k2
    have hb3 := hb2.trans (k2.mono hb2.size)
    have sz3 := k2.size
    replace x0 := (k2.cell (p := ⟨w.heap.size, 0, none⟩) (by show w.heap.size < _; omega)).trans x0
    replace x1 := (k2.cell (p := ⟨w.heap.size, 1, none⟩) (by show w.heap.size < _; omega)).trans x1
    replace x2 := (k2.cell (p := ⟨w.heap.size, 2, none⟩) (by show w.heap.size < _; omega)).trans x2
    replace hS := hS.below k2
    clear k2 L2_ hb2
    clear hS
    go_wp2_with fail
    refine (PT.out _ L3_).mono ?_
    rintro e' wpb2 ⟨⟨Ab2, nb2, cb2⟩, ⟨Db2, pb2, db2⟩, ⟨Eb2, qb2, fb2⟩, zeb2, rfl, hV, kpb2⟩
    simp only [Hd.val, Flt.val]
    have L4_ := MO.out _ _ L3_ kpb2
    have hb4 := hb3.trans (kpb2.mono hb3.size)
    have sz4 := kpb2.size
    replace x0 := (kpb2.cell (p := ⟨w.heap.size, 0, none⟩) (by show w.heap.size < _; omega)).trans x0
    replace x1 := (kpb2.cell (p := ⟨w.heap.size, 1, none⟩) (by show w.heap.size < _; omega)).trans x1
    replace x2 := (kpb2.cell (p := ⟨w.heap.size, 2, none⟩) (by show w.heap.size < _; omega)).trans x2
    clear kpb2 L3_ hb3
    go_upto_region 9 with (fail)
    have k5 := box2_below wpb2 (.cells #[.slice Ab2 nb2 cb2, .slice Db2 pb2 db2, .slice Eb2 qb2 fb2] 26) (.cells #[.int .i64 0, .int .i64 0, .int .i64 0] 29)
    have v0 : ((wpb2.alloc (.cells #[.slice Ab2 nb2 cb2, .slice Db2 pb2 db2, .slice Eb2 qb2 fb2] 26)).alloc (.cells #[.int .i64 0, .int .i64 0, .int .i64 0] 29)).cell? ⟨wpb2.heap.size, 0, none⟩ = some (.slice Ab2 nb2 cb2) := by simp
    have v1 : ((wpb2.alloc (.cells #[.slice Ab2 nb2 cb2, .slice Db2 pb2 db2, .slice Eb2 qb2 fb2] 26)).alloc (.cells #[.int .i64 0, .int .i64 0, .int .i64 0] 29)).cell? ⟨wpb2.heap.size, 1, none⟩ = some (.slice Db2 pb2 db2) := by simp
    have v2 : ((wpb2.alloc (.cells #[.slice Ab2 nb2 cb2, .slice Db2 pb2 db2, .slice Eb2 qb2 fb2] 26)).alloc (.cells #[.int .i64 0, .int .i64 0, .int .i64 0] 29)).cell? ⟨wpb2.heap.size, 2, none⟩ = some (.slice Eb2 qb2 fb2) := by simp
    have t0 : ((wpb2.alloc (.cells #[.slice Ab2 nb2 cb2, .slice Db2 pb2 db2, .slice Eb2 qb2 fb2] 26)).alloc (.cells #[.int .i64 0, .int .i64 0, .int .i64 0] 29)).cell? ⟨wpb2.heap.size + 1, 0, none⟩ = some (.int .i64 0) := by simp
    have t1 : ((wpb2.alloc (.cells #[.slice Ab2 nb2 cb2, .slice Db2 pb2 db2, .slice Eb2 qb2 fb2] 26)).alloc (.cells #[.int .i64 0, .int .i64 0, .int .i64 0] 29)).cell? ⟨wpb2.heap.size + 1, 1, none⟩ = some (.int .i64 0) := by simp
    have t2 : ((wpb2.alloc (.cells #[.slice Ab2 nb2 cb2, .slice Db2 pb2 db2, .slice Eb2 qb2 fb2] 26)).alloc (.cells #[.int .i64 0, .int .i64 0, .int .i64 0] 29)).cell? ⟨wpb2.heap.size + 1, 2, none⟩ = some (.int .i64 0) := by simp
    have zb2 : ((wpb2.alloc (.cells #[.slice Ab2 nb2 cb2, .slice Db2 pb2 db2, .slice Eb2 qb2 fb2] 26)).alloc (.cells #[.int .i64 0, .int .i64 0, .int .i64 0] 29)).heap.size = wpb2.heap.size + 2 := by simp
    generalize ((wpb2.alloc (.cells #[.slice Ab2 nb2 cb2, .slice Db2 pb2 db2, .slice Eb2 qb2 fb2] 26)).alloc (.cells #[.int .i64 0, .int .i64 0, .int .i64 0] 29)) = u5 at *
    have L5_ := MO.out _ _ L4_ k5
    have hb5 := hb4.trans (k5.mono hb4.size)
    have sz5 := k5.size
    replace x0 := (k5.cell (p := ⟨w.heap.size, 0, none⟩) (by show w.heap.size < _; omega)).trans x0
    replace x1 := (k5.cell (p := ⟨w.heap.size, 1, none⟩) (by show w.heap.size < _; omega)).trans x1
    replace x2 := (k5.cell (p := ⟨w.heap.size, 2, none⟩) (by show w.heap.size < _; omega)).trans x2
    replace hV := hV.below k5
    clear k5 L4_ hb4
    generalize hgb2 : wpb2.heap.size = b2 at *
    go_wp2_with fail
    refine (PV.out Ab2 nb2 cb2 Db2 pb2 db2 Eb2 qb2 fb2 zeb2 _ hV L5_).mono ?_
    rintro e' w5 ⟨rfl, k5⟩
    have L6_ := MO.out _ _ L5_ k5
    have hb6 := hb5.trans (k5.mono hb5.size)
    have sz6 := k5.size
    replace x0 := (k5.cell (p := ⟨w.heap.size, 0, none⟩) (by show w.heap.size < _; omega)).trans x0
    replace x1 := (k5.cell (p := ⟨w.heap.size, 1, none⟩) (by show w.heap.size < _; omega)).trans x1
    replace x2 := (k5.cell (p := ⟨w.heap.size, 2, none⟩) (by show w.heap.size < _; omega)).trans x2
    replace v0 := (k5.cell (p := ⟨b2, 0, none⟩) (by show b2 < _; omega)).trans v0
    replace v1 := (k5.cell (p := ⟨b2, 1, none⟩) (by show b2 < _; omega)).trans v1
    replace v2 := (k5.cell (p := ⟨b2, 2, none⟩) (by show b2 < _; omega)).trans v2
    replace t0 := (k5.cell (p := ⟨b2 + 1, 0, none⟩) (by show b2 + 1 < _; omega)).trans t0
    replace t1 := (k5.cell (p := ⟨b2 + 1, 1, none⟩) (by show b2 + 1 < _; omega)).trans t1
    replace t2 := (k5.cell (p := ⟨b2 + 1, 2, none⟩) (by show b2 + 1 < _; omega)).trans t2
    replace hV := hV.below k5
    clear k5 L5_ hb5
    go_wp2_with (go_at_call 11; refine (AL.out _ L6_).mono ?_; rintro e w9 ⟨rfl, h9⟩)
    go_ret
    exact ⟨by rw [SD.out]; rfl, hb6.trans (h9.mono hb6.size)⟩
end Go.Proofs.YtnkmlfbnfndfpaaGreatDoor
/- Stage 10's laws: what was written is read as it was (all well). -/
namespace Go.Proofs.YtnkmlfbnfndfpaaGreatDoor
open Go.RowKit
set_option maxRecDepth 100000 in
set_option maxHeartbeats 16000000 in
theorem backX2 {Q : World → Prop} (C : SourceP Q) (S : Sr) (a0 b0_ c0 : Hd) (ze : List Ze) (hi : S.in64) (t : ByteArray) (ht : t.size ≤ maxLen) (w : World) (hS : SrcV w S a0 b0_ c0 ze) (L : Q w) (hok : okSr S = true) (hz : ¬ 100000 < (srcText S).size) (hf : (srcRes t).2.1 = 0) (hlong : ¬ 100000 < (srcText (srcRes t).1).size) :
    Calls Tryz.prog 6 #[.agg #[a0.val, b0_.val, c0.val], .string t] w (RetV w (.bool true)) := by
  obtain ⟨A, n, c⟩ := a0
  obtain ⟨D, p, d⟩ := b0_
  obtain ⟨E, q, f⟩ := c0
  have MO := Lib.hid C.mono
  have AL := Lib.hid (alive10 C.toReadP)
  have GR := Lib.hid (fun W (h : SrcV W S ⟨A, n, c⟩ ⟨D, p, d⟩ ⟨E, q, f⟩ ze) => greatA S _ _ _ ze W h)
  simp only [Hd.val] at GR
  have hpr : printRes S = (srcText S, 0) := by unfold printRes; rw [if_pos hok, if_neg hz]
  have PS := Lib.hid (fun W (h : SrcV W S ⟨A, n, c⟩ ⟨D, p, d⟩ ⟨E, q, f⟩ ze) (L : Q W) => (hpr ▸ C.print S _ _ _ ze W h hi L))
  have PB := Lib.hid (fun W (L : Q W) => (src_back (okSr_of hok) (by omega) ▸ C.parse (srcText S) (by unfold maxLen; omega) W L : Calls Tryz.prog 9 #[.string (srcText S)] W (RetSrcF W (S, (0, 0, 0)))))
  simp only [Hd.val] at PS
  have FE := flt_err hf
  have OK := src_right hf
  have I1 := ok_in64 OK
  have PT := Lib.hid (C.parse t ht)
  generalize srcRes t = r at *
  obtain ⟨S1, fl⟩ := r
  obtain rfl : fl = (0, 0, 0) := FE
  simp only at OK I1 hlong PT
  have hp1 : printRes S1 = (srcText S1, 0) := by unfold printRes; rw [if_pos (okSr_yes OK), if_neg hlong]
  have PV := Lib.hid (fun (A : Option Addr) (n c : Nat) (D : Option Addr) (p d : Nat) (E : Option Addr) (q f : Nat) (ze : List Ze) W (h : SrcV W S1 ⟨A, n, c⟩ ⟨D, p, d⟩ ⟨E, q, f⟩ ze) (L : Q W) => (hp1 ▸ C.print S1 ⟨A, n, c⟩ ⟨D, p, d⟩ ⟨E, q, f⟩ ze W h I1 L))
  have RV := Lib.hid (fun (A : Option Addr) (n c : Nat) (D : Option Addr) (p d : Nat) (E : Option Addr) (q f : Nat) (ze : List Ze) W (h : SrcV W S1 ⟨A, n, c⟩ ⟨D, p, d⟩ ⟨E, q, f⟩ ze) (L : Q W) => (okSr_yes OK ▸ C.right S1 ⟨A, n, c⟩ ⟨D, p, d⟩ ⟨E, q, f⟩ ze W h I1 L))
  have PU := Lib.hid (fun W (L : Q W) => (src_back OK (by omega) ▸ C.parse (srcText S1) (by unfold maxLen; omega) W L : Calls Tryz.prog 9 #[.string (srcText S1)] W (RetSrcF W (S1, (0, 0, 0)))))
  simp only [Hd.val] at PV RV
  clear C hi ht hok hz hpr OK I1 hf hlong hp1
  generalize srcText S = T at *
  generalize srcText S1 = T1 at *
  simp only [Hd.val]
  go_enter Tryz.func6, Tryz.ntmps6
  go_wp2_with fail
  have k0 : Below w.heap.size w (w.alloc (.cells #[.slice A n c, .slice D p d, .slice E q f] 26)) := (Below.refl _ w).alloc (Nat.le_refl _) _
  have x0 : (w.alloc (.cells #[.slice A n c, .slice D p d, .slice E q f] 26)).cell? ⟨w.heap.size, 0, none⟩ = some (.slice A n c) := by simp
  have x1 : (w.alloc (.cells #[.slice A n c, .slice D p d, .slice E q f] 26)).cell? ⟨w.heap.size, 1, none⟩ = some (.slice D p d) := by simp
  have x2 : (w.alloc (.cells #[.slice A n c, .slice D p d, .slice E q f] 26)).cell? ⟨w.heap.size, 2, none⟩ = some (.slice E q f) := by simp
  have z0 : (w.alloc (.cells #[.slice A n c, .slice D p d, .slice E q f] 26)).heap.size = w.heap.size + 1 := by simp
  generalize w.alloc (.cells #[.slice A n c, .slice D p d, .slice E q f] 26) = u0 at *
  have L1_ := MO.out _ _ L k0
  have hb1 := k0
  have sz1 := k0.size
  replace hS := hS.below k0
  clear k0 L
  refine (GR.out _ hS).mono ?_
  rintro e' w1 ⟨bb, rfl, k1⟩
  have L2_ := MO.out _ _ L1_ k1
  have hb2 := hb1.trans (k1.mono hb1.size)
  have sz2 := k1.size
  replace x0 := (k1.cell (p := ⟨w.heap.size, 0, none⟩) (by show w.heap.size < _; omega)).trans x0
  replace x1 := (k1.cell (p := ⟨w.heap.size, 1, none⟩) (by show w.heap.size < _; omega)).trans x1
  replace x2 := (k1.cell (p := ⟨w.heap.size, 2, none⟩) (by show w.heap.size < _; omega)).trans x2
  replace hS := hS.below k1
  clear k1 L1_ hb1
  cases bb with
  | true =>
    go_wp2_with (go_at_call 11; refine (AL.out _ L2_).mono ?_; rintro e w9 ⟨rfl, h9⟩)
    go_ret
    exact ⟨rfl, hb2.trans (h9.mono hb2.size)⟩
  | false =>
    go_wp2_with fail
    refine (PS.out _ hS L2_).mono ?_
    rintro e' w2 ⟨rfl, k2⟩
    have L3_ := MO.out _ _ L2_ k2
    have hb3 := hb2.trans (k2.mono hb2.size)
    have sz3 := k2.size
    replace x0 := (k2.cell (p := ⟨w.heap.size, 0, none⟩) (by show w.heap.size < _; omega)).trans x0
    replace x1 := (k2.cell (p := ⟨w.heap.size, 1, none⟩) (by show w.heap.size < _; omega)).trans x1
    replace x2 := (k2.cell (p := ⟨w.heap.size, 2, none⟩) (by show w.heap.size < _; omega)).trans x2
    replace hS := hS.below k2
    clear k2 L2_ hb2
    go_wp2_with fail
    refine (PB.out _ L3_).mono ?_
    rintro e' wpb1 ⟨⟨Ab1, nb1, cb1⟩, ⟨Db1, pb1, db1⟩, ⟨Eb1, qb1, fb1⟩, zeb1, rfl, hT, kpb1⟩
    simp only [Hd.val, Flt.val, Flt.no]
    have L4_ := MO.out _ _ L3_ kpb1
    have hb4 := hb3.trans (kpb1.mono hb3.size)
    have sz4 := kpb1.size
    replace x0 := (kpb1.cell (p := ⟨w.heap.size, 0, none⟩) (by show w.heap.size < _; omega)).trans x0
    replace x1 := (kpb1.cell (p := ⟨w.heap.size, 1, none⟩) (by show w.heap.size < _; omega)).trans x1
    replace x2 := (kpb1.cell (p := ⟨w.heap.size, 2, none⟩) (by show w.heap.size < _; omega)).trans x2
    replace hS := hS.below kpb1
    clear kpb1 L3_ hb3
    go_upto_region 6 with (fail)
    have k5 := box2_below wpb1 (.cells #[.slice Ab1 nb1 cb1, .slice Db1 pb1 db1, .slice Eb1 qb1 fb1] 26) (.cells #[.int .i64 0, .int .i64 0, .int .i64 0] 29)
    have y0 : ((wpb1.alloc (.cells #[.slice Ab1 nb1 cb1, .slice Db1 pb1 db1, .slice Eb1 qb1 fb1] 26)).alloc (.cells #[.int .i64 0, .int .i64 0, .int .i64 0] 29)).cell? ⟨wpb1.heap.size, 0, none⟩ = some (.slice Ab1 nb1 cb1) := by simp
    have y1 : ((wpb1.alloc (.cells #[.slice Ab1 nb1 cb1, .slice Db1 pb1 db1, .slice Eb1 qb1 fb1] 26)).alloc (.cells #[.int .i64 0, .int .i64 0, .int .i64 0] 29)).cell? ⟨wpb1.heap.size, 1, none⟩ = some (.slice Db1 pb1 db1) := by simp
    have y2 : ((wpb1.alloc (.cells #[.slice Ab1 nb1 cb1, .slice Db1 pb1 db1, .slice Eb1 qb1 fb1] 26)).alloc (.cells #[.int .i64 0, .int .i64 0, .int .i64 0] 29)).cell? ⟨wpb1.heap.size, 2, none⟩ = some (.slice Eb1 qb1 fb1) := by simp
    have m0 : ((wpb1.alloc (.cells #[.slice Ab1 nb1 cb1, .slice Db1 pb1 db1, .slice Eb1 qb1 fb1] 26)).alloc (.cells #[.int .i64 0, .int .i64 0, .int .i64 0] 29)).cell? ⟨wpb1.heap.size + 1, 0, none⟩ = some (.int .i64 0) := by simp
    have m1 : ((wpb1.alloc (.cells #[.slice Ab1 nb1 cb1, .slice Db1 pb1 db1, .slice Eb1 qb1 fb1] 26)).alloc (.cells #[.int .i64 0, .int .i64 0, .int .i64 0] 29)).cell? ⟨wpb1.heap.size + 1, 1, none⟩ = some (.int .i64 0) := by simp
    have m2 : ((wpb1.alloc (.cells #[.slice Ab1 nb1 cb1, .slice Db1 pb1 db1, .slice Eb1 qb1 fb1] 26)).alloc (.cells #[.int .i64 0, .int .i64 0, .int .i64 0] 29)).cell? ⟨wpb1.heap.size + 1, 2, none⟩ = some (.int .i64 0) := by simp
    have zb1 : ((wpb1.alloc (.cells #[.slice Ab1 nb1 cb1, .slice Db1 pb1 db1, .slice Eb1 qb1 fb1] 26)).alloc (.cells #[.int .i64 0, .int .i64 0, .int .i64 0] 29)).heap.size = wpb1.heap.size + 2 := by simp
    generalize ((wpb1.alloc (.cells #[.slice Ab1 nb1 cb1, .slice Db1 pb1 db1, .slice Eb1 qb1 fb1] 26)).alloc (.cells #[.int .i64 0, .int .i64 0, .int .i64 0] 29)) = u5 at *
    have L5_ := MO.out _ _ L4_ k5
    have hb5 := hb4.trans (k5.mono hb4.size)
    have sz5 := k5.size
    replace x0 := (k5.cell (p := ⟨w.heap.size, 0, none⟩) (by show w.heap.size < _; omega)).trans x0
    replace x1 := (k5.cell (p := ⟨w.heap.size, 1, none⟩) (by show w.heap.size < _; omega)).trans x1
    replace x2 := (k5.cell (p := ⟨w.heap.size, 2, none⟩) (by show w.heap.size < _; omega)).trans x2
    replace hS := hS.below k5
    replace hT := hT.below k5
    clear k5 L4_ hb4
    generalize hgb1 : wpb1.heap.size = b1 at *
    have SM := Lib.hid (sameS S ⟨Ab1, nb1, cb1⟩ ⟨Db1, pb1, db1⟩ ⟨Eb1, qb1, fb1⟩ ⟨A, n, c⟩ ⟨D, p, d⟩ ⟨E, q, f⟩ zeb1 ze u5 hT hS)
    simp only [Hd.val] at SM
    clear hT hS
    go_wp2_with fail
    refine SM.out.mono ?_
    rintro e' w3 ⟨rfl, k3⟩
    clear SM
    have L6_ := MO.out _ _ L5_ k3
    have hb6 := hb5.trans (k3.mono hb5.size)
    have sz6 := k3.size
    replace x0 := (k3.cell (p := ⟨w.heap.size, 0, none⟩) (by show w.heap.size < _; omega)).trans x0
    replace x1 := (k3.cell (p := ⟨w.heap.size, 1, none⟩) (by show w.heap.size < _; omega)).trans x1
    replace x2 := (k3.cell (p := ⟨w.heap.size, 2, none⟩) (by show w.heap.size < _; omega)).trans x2
    replace y0 := (k3.cell (p := ⟨b1, 0, none⟩) (by show b1 < _; omega)).trans y0
    replace y1 := (k3.cell (p := ⟨b1, 1, none⟩) (by show b1 < _; omega)).trans y1
    replace y2 := (k3.cell (p := ⟨b1, 2, none⟩) (by show b1 < _; omega)).trans y2
    replace m0 := (k3.cell (p := ⟨b1 + 1, 0, none⟩) (by show b1 + 1 < _; omega)).trans m0
    replace m1 := (k3.cell (p := ⟨b1 + 1, 1, none⟩) (by show b1 + 1 < _; omega)).trans m1
    replace m2 := (k3.cell (p := ⟨b1 + 1, 2, none⟩) (by show b1 + 1 < _; omega)).trans m2
    clear k3 L5_ hb5
    go_wp2_with fail
    refine (PT.out _ L6_).mono ?_
    rintro e' wpb2 ⟨⟨Ab2, nb2, cb2⟩, ⟨Db2, pb2, db2⟩, ⟨Eb2, qb2, fb2⟩, zeb2, rfl, hV, kpb2⟩
    simp only [Hd.val, Flt.val]
    have L7_ := MO.out _ _ L6_ kpb2
    have hb7 := hb6.trans (kpb2.mono hb6.size)
    have sz7 := kpb2.size
    replace x0 := (kpb2.cell (p := ⟨w.heap.size, 0, none⟩) (by show w.heap.size < _; omega)).trans x0
    replace x1 := (kpb2.cell (p := ⟨w.heap.size, 1, none⟩) (by show w.heap.size < _; omega)).trans x1
    replace x2 := (kpb2.cell (p := ⟨w.heap.size, 2, none⟩) (by show w.heap.size < _; omega)).trans x2
    replace y0 := (kpb2.cell (p := ⟨b1, 0, none⟩) (by show b1 < _; omega)).trans y0
    replace y1 := (kpb2.cell (p := ⟨b1, 1, none⟩) (by show b1 < _; omega)).trans y1
    replace y2 := (kpb2.cell (p := ⟨b1, 2, none⟩) (by show b1 < _; omega)).trans y2
    replace m0 := (kpb2.cell (p := ⟨b1 + 1, 0, none⟩) (by show b1 + 1 < _; omega)).trans m0
    replace m1 := (kpb2.cell (p := ⟨b1 + 1, 1, none⟩) (by show b1 + 1 < _; omega)).trans m1
    replace m2 := (kpb2.cell (p := ⟨b1 + 1, 2, none⟩) (by show b1 + 1 < _; omega)).trans m2
    clear kpb2 L6_ hb6
    go_upto_region 9 with (fail)
    have k8 := box2_below wpb2 (.cells #[.slice Ab2 nb2 cb2, .slice Db2 pb2 db2, .slice Eb2 qb2 fb2] 26) (.cells #[.int .i64 0, .int .i64 0, .int .i64 0] 29)
    have v0 : ((wpb2.alloc (.cells #[.slice Ab2 nb2 cb2, .slice Db2 pb2 db2, .slice Eb2 qb2 fb2] 26)).alloc (.cells #[.int .i64 0, .int .i64 0, .int .i64 0] 29)).cell? ⟨wpb2.heap.size, 0, none⟩ = some (.slice Ab2 nb2 cb2) := by simp
    have v1 : ((wpb2.alloc (.cells #[.slice Ab2 nb2 cb2, .slice Db2 pb2 db2, .slice Eb2 qb2 fb2] 26)).alloc (.cells #[.int .i64 0, .int .i64 0, .int .i64 0] 29)).cell? ⟨wpb2.heap.size, 1, none⟩ = some (.slice Db2 pb2 db2) := by simp
    have v2 : ((wpb2.alloc (.cells #[.slice Ab2 nb2 cb2, .slice Db2 pb2 db2, .slice Eb2 qb2 fb2] 26)).alloc (.cells #[.int .i64 0, .int .i64 0, .int .i64 0] 29)).cell? ⟨wpb2.heap.size, 2, none⟩ = some (.slice Eb2 qb2 fb2) := by simp
    have t0 : ((wpb2.alloc (.cells #[.slice Ab2 nb2 cb2, .slice Db2 pb2 db2, .slice Eb2 qb2 fb2] 26)).alloc (.cells #[.int .i64 0, .int .i64 0, .int .i64 0] 29)).cell? ⟨wpb2.heap.size + 1, 0, none⟩ = some (.int .i64 0) := by simp
    have t1 : ((wpb2.alloc (.cells #[.slice Ab2 nb2 cb2, .slice Db2 pb2 db2, .slice Eb2 qb2 fb2] 26)).alloc (.cells #[.int .i64 0, .int .i64 0, .int .i64 0] 29)).cell? ⟨wpb2.heap.size + 1, 1, none⟩ = some (.int .i64 0) := by simp
    have t2 : ((wpb2.alloc (.cells #[.slice Ab2 nb2 cb2, .slice Db2 pb2 db2, .slice Eb2 qb2 fb2] 26)).alloc (.cells #[.int .i64 0, .int .i64 0, .int .i64 0] 29)).cell? ⟨wpb2.heap.size + 1, 2, none⟩ = some (.int .i64 0) := by simp
    have zb2 : ((wpb2.alloc (.cells #[.slice Ab2 nb2 cb2, .slice Db2 pb2 db2, .slice Eb2 qb2 fb2] 26)).alloc (.cells #[.int .i64 0, .int .i64 0, .int .i64 0] 29)).heap.size = wpb2.heap.size + 2 := by simp
    generalize ((wpb2.alloc (.cells #[.slice Ab2 nb2 cb2, .slice Db2 pb2 db2, .slice Eb2 qb2 fb2] 26)).alloc (.cells #[.int .i64 0, .int .i64 0, .int .i64 0] 29)) = u8 at *
    have L8_ := MO.out _ _ L7_ k8
    have hb8 := hb7.trans (k8.mono hb7.size)
    have sz8 := k8.size
    replace x0 := (k8.cell (p := ⟨w.heap.size, 0, none⟩) (by show w.heap.size < _; omega)).trans x0
    replace x1 := (k8.cell (p := ⟨w.heap.size, 1, none⟩) (by show w.heap.size < _; omega)).trans x1
    replace x2 := (k8.cell (p := ⟨w.heap.size, 2, none⟩) (by show w.heap.size < _; omega)).trans x2
    replace y0 := (k8.cell (p := ⟨b1, 0, none⟩) (by show b1 < _; omega)).trans y0
    replace y1 := (k8.cell (p := ⟨b1, 1, none⟩) (by show b1 < _; omega)).trans y1
    replace y2 := (k8.cell (p := ⟨b1, 2, none⟩) (by show b1 < _; omega)).trans y2
    replace m0 := (k8.cell (p := ⟨b1 + 1, 0, none⟩) (by show b1 + 1 < _; omega)).trans m0
    replace m1 := (k8.cell (p := ⟨b1 + 1, 1, none⟩) (by show b1 + 1 < _; omega)).trans m1
    replace m2 := (k8.cell (p := ⟨b1 + 1, 2, none⟩) (by show b1 + 1 < _; omega)).trans m2
    replace hV := hV.below k8
    clear k8 L7_ hb7
    generalize hgb2 : wpb2.heap.size = b2 at *
    go_wp2_with fail
    refine (PV.out Ab2 nb2 cb2 Db2 pb2 db2 Eb2 qb2 fb2 zeb2 _ hV L8_).mono ?_
    rintro e' w5 ⟨rfl, k5⟩
    have L9_ := MO.out _ _ L8_ k5
    have hb9 := hb8.trans (k5.mono hb8.size)
    have sz9 := k5.size
    replace x0 := (k5.cell (p := ⟨w.heap.size, 0, none⟩) (by show w.heap.size < _; omega)).trans x0
    replace x1 := (k5.cell (p := ⟨w.heap.size, 1, none⟩) (by show w.heap.size < _; omega)).trans x1
    replace x2 := (k5.cell (p := ⟨w.heap.size, 2, none⟩) (by show w.heap.size < _; omega)).trans x2
    replace y0 := (k5.cell (p := ⟨b1, 0, none⟩) (by show b1 < _; omega)).trans y0
    replace y1 := (k5.cell (p := ⟨b1, 1, none⟩) (by show b1 < _; omega)).trans y1
    replace y2 := (k5.cell (p := ⟨b1, 2, none⟩) (by show b1 < _; omega)).trans y2
    replace m0 := (k5.cell (p := ⟨b1 + 1, 0, none⟩) (by show b1 + 1 < _; omega)).trans m0
    replace m1 := (k5.cell (p := ⟨b1 + 1, 1, none⟩) (by show b1 + 1 < _; omega)).trans m1
    replace m2 := (k5.cell (p := ⟨b1 + 1, 2, none⟩) (by show b1 + 1 < _; omega)).trans m2
    replace v0 := (k5.cell (p := ⟨b2, 0, none⟩) (by show b2 < _; omega)).trans v0
    replace v1 := (k5.cell (p := ⟨b2, 1, none⟩) (by show b2 < _; omega)).trans v1
    replace v2 := (k5.cell (p := ⟨b2, 2, none⟩) (by show b2 < _; omega)).trans v2
    replace t0 := (k5.cell (p := ⟨b2 + 1, 0, none⟩) (by show b2 + 1 < _; omega)).trans t0
    replace t1 := (k5.cell (p := ⟨b2 + 1, 1, none⟩) (by show b2 + 1 < _; omega)).trans t1
    replace t2 := (k5.cell (p := ⟨b2 + 1, 2, none⟩) (by show b2 + 1 < _; omega)).trans t2
    replace hV := hV.below k5
    clear k5 L8_ hb8
    go_wp2_with fail
    refine (PU.out _ L9_).mono ?_
    rintro e' wpb4 ⟨⟨Ab4, nb4, cb4⟩, ⟨Db4, pb4, db4⟩, ⟨Eb4, qb4, fb4⟩, zeb4, rfl, hU, kpb4⟩
    simp only [Hd.val, Flt.val, Flt.no]
    have L10_ := MO.out _ _ L9_ kpb4
    have hb10 := hb9.trans (kpb4.mono hb9.size)
    have sz10 := kpb4.size
    replace x0 := (kpb4.cell (p := ⟨w.heap.size, 0, none⟩) (by show w.heap.size < _; omega)).trans x0
    replace x1 := (kpb4.cell (p := ⟨w.heap.size, 1, none⟩) (by show w.heap.size < _; omega)).trans x1
    replace x2 := (kpb4.cell (p := ⟨w.heap.size, 2, none⟩) (by show w.heap.size < _; omega)).trans x2
    replace y0 := (kpb4.cell (p := ⟨b1, 0, none⟩) (by show b1 < _; omega)).trans y0
    replace y1 := (kpb4.cell (p := ⟨b1, 1, none⟩) (by show b1 < _; omega)).trans y1
    replace y2 := (kpb4.cell (p := ⟨b1, 2, none⟩) (by show b1 < _; omega)).trans y2
    replace m0 := (kpb4.cell (p := ⟨b1 + 1, 0, none⟩) (by show b1 + 1 < _; omega)).trans m0
    replace m1 := (kpb4.cell (p := ⟨b1 + 1, 1, none⟩) (by show b1 + 1 < _; omega)).trans m1
    replace m2 := (kpb4.cell (p := ⟨b1 + 1, 2, none⟩) (by show b1 + 1 < _; omega)).trans m2
    replace v0 := (kpb4.cell (p := ⟨b2, 0, none⟩) (by show b2 < _; omega)).trans v0
    replace v1 := (kpb4.cell (p := ⟨b2, 1, none⟩) (by show b2 < _; omega)).trans v1
    replace v2 := (kpb4.cell (p := ⟨b2, 2, none⟩) (by show b2 < _; omega)).trans v2
    replace t0 := (kpb4.cell (p := ⟨b2 + 1, 0, none⟩) (by show b2 + 1 < _; omega)).trans t0
    replace t1 := (kpb4.cell (p := ⟨b2 + 1, 1, none⟩) (by show b2 + 1 < _; omega)).trans t1
    replace t2 := (kpb4.cell (p := ⟨b2 + 1, 2, none⟩) (by show b2 + 1 < _; omega)).trans t2
    replace hV := hV.below kpb4
    clear kpb4 L9_ hb9
    go_upto_region 15 with (fail)
    have k11 := box2_below wpb4 (.cells #[.slice Ab4 nb4 cb4, .slice Db4 pb4 db4, .slice Eb4 qb4 fb4] 26) (.cells #[.int .i64 0, .int .i64 0, .int .i64 0] 29)
    have r0 : ((wpb4.alloc (.cells #[.slice Ab4 nb4 cb4, .slice Db4 pb4 db4, .slice Eb4 qb4 fb4] 26)).alloc (.cells #[.int .i64 0, .int .i64 0, .int .i64 0] 29)).cell? ⟨wpb4.heap.size, 0, none⟩ = some (.slice Ab4 nb4 cb4) := by simp
    have r1 : ((wpb4.alloc (.cells #[.slice Ab4 nb4 cb4, .slice Db4 pb4 db4, .slice Eb4 qb4 fb4] 26)).alloc (.cells #[.int .i64 0, .int .i64 0, .int .i64 0] 29)).cell? ⟨wpb4.heap.size, 1, none⟩ = some (.slice Db4 pb4 db4) := by simp
    have r2 : ((wpb4.alloc (.cells #[.slice Ab4 nb4 cb4, .slice Db4 pb4 db4, .slice Eb4 qb4 fb4] 26)).alloc (.cells #[.int .i64 0, .int .i64 0, .int .i64 0] 29)).cell? ⟨wpb4.heap.size, 2, none⟩ = some (.slice Eb4 qb4 fb4) := by simp
    have o0 : ((wpb4.alloc (.cells #[.slice Ab4 nb4 cb4, .slice Db4 pb4 db4, .slice Eb4 qb4 fb4] 26)).alloc (.cells #[.int .i64 0, .int .i64 0, .int .i64 0] 29)).cell? ⟨wpb4.heap.size + 1, 0, none⟩ = some (.int .i64 0) := by simp
    have o1 : ((wpb4.alloc (.cells #[.slice Ab4 nb4 cb4, .slice Db4 pb4 db4, .slice Eb4 qb4 fb4] 26)).alloc (.cells #[.int .i64 0, .int .i64 0, .int .i64 0] 29)).cell? ⟨wpb4.heap.size + 1, 1, none⟩ = some (.int .i64 0) := by simp
    have o2 : ((wpb4.alloc (.cells #[.slice Ab4 nb4 cb4, .slice Db4 pb4 db4, .slice Eb4 qb4 fb4] 26)).alloc (.cells #[.int .i64 0, .int .i64 0, .int .i64 0] 29)).cell? ⟨wpb4.heap.size + 1, 2, none⟩ = some (.int .i64 0) := by simp
    have zb4 : ((wpb4.alloc (.cells #[.slice Ab4 nb4 cb4, .slice Db4 pb4 db4, .slice Eb4 qb4 fb4] 26)).alloc (.cells #[.int .i64 0, .int .i64 0, .int .i64 0] 29)).heap.size = wpb4.heap.size + 2 := by simp
    generalize ((wpb4.alloc (.cells #[.slice Ab4 nb4 cb4, .slice Db4 pb4 db4, .slice Eb4 qb4 fb4] 26)).alloc (.cells #[.int .i64 0, .int .i64 0, .int .i64 0] 29)) = u11 at *
    have L11_ := MO.out _ _ L10_ k11
    have hb11 := hb10.trans (k11.mono hb10.size)
    have sz11 := k11.size
    replace x0 := (k11.cell (p := ⟨w.heap.size, 0, none⟩) (by show w.heap.size < _; omega)).trans x0
    replace x1 := (k11.cell (p := ⟨w.heap.size, 1, none⟩) (by show w.heap.size < _; omega)).trans x1
    replace x2 := (k11.cell (p := ⟨w.heap.size, 2, none⟩) (by show w.heap.size < _; omega)).trans x2
    replace y0 := (k11.cell (p := ⟨b1, 0, none⟩) (by show b1 < _; omega)).trans y0
    replace y1 := (k11.cell (p := ⟨b1, 1, none⟩) (by show b1 < _; omega)).trans y1
    replace y2 := (k11.cell (p := ⟨b1, 2, none⟩) (by show b1 < _; omega)).trans y2
    replace m0 := (k11.cell (p := ⟨b1 + 1, 0, none⟩) (by show b1 + 1 < _; omega)).trans m0
    replace m1 := (k11.cell (p := ⟨b1 + 1, 1, none⟩) (by show b1 + 1 < _; omega)).trans m1
    replace m2 := (k11.cell (p := ⟨b1 + 1, 2, none⟩) (by show b1 + 1 < _; omega)).trans m2
    replace v0 := (k11.cell (p := ⟨b2, 0, none⟩) (by show b2 < _; omega)).trans v0
    replace v1 := (k11.cell (p := ⟨b2, 1, none⟩) (by show b2 < _; omega)).trans v1
    replace v2 := (k11.cell (p := ⟨b2, 2, none⟩) (by show b2 < _; omega)).trans v2
    replace t0 := (k11.cell (p := ⟨b2 + 1, 0, none⟩) (by show b2 + 1 < _; omega)).trans t0
    replace t1 := (k11.cell (p := ⟨b2 + 1, 1, none⟩) (by show b2 + 1 < _; omega)).trans t1
    replace t2 := (k11.cell (p := ⟨b2 + 1, 2, none⟩) (by show b2 + 1 < _; omega)).trans t2
    replace hV := hV.below k11
    replace hU := hU.below k11
    clear k11 L10_ hb10
    generalize hgb4 : wpb4.heap.size = b4 at *
    go_wp2_with fail
    refine (AL.out _ L11_).mono ?_
    rintro e' w9 ⟨rfl, k9⟩
    have L12_ := MO.out _ _ L11_ k9
    have hb12 := hb11.trans (k9.mono hb11.size)
    have sz12 := k9.size
    replace x0 := (k9.cell (p := ⟨w.heap.size, 0, none⟩) (by show w.heap.size < _; omega)).trans x0
    replace x1 := (k9.cell (p := ⟨w.heap.size, 1, none⟩) (by show w.heap.size < _; omega)).trans x1
    replace x2 := (k9.cell (p := ⟨w.heap.size, 2, none⟩) (by show w.heap.size < _; omega)).trans x2
    replace y0 := (k9.cell (p := ⟨b1, 0, none⟩) (by show b1 < _; omega)).trans y0
    replace y1 := (k9.cell (p := ⟨b1, 1, none⟩) (by show b1 < _; omega)).trans y1
    replace y2 := (k9.cell (p := ⟨b1, 2, none⟩) (by show b1 < _; omega)).trans y2
    replace m0 := (k9.cell (p := ⟨b1 + 1, 0, none⟩) (by show b1 + 1 < _; omega)).trans m0
    replace m1 := (k9.cell (p := ⟨b1 + 1, 1, none⟩) (by show b1 + 1 < _; omega)).trans m1
    replace m2 := (k9.cell (p := ⟨b1 + 1, 2, none⟩) (by show b1 + 1 < _; omega)).trans m2
    replace v0 := (k9.cell (p := ⟨b2, 0, none⟩) (by show b2 < _; omega)).trans v0
    replace v1 := (k9.cell (p := ⟨b2, 1, none⟩) (by show b2 < _; omega)).trans v1
    replace v2 := (k9.cell (p := ⟨b2, 2, none⟩) (by show b2 < _; omega)).trans v2
    replace t0 := (k9.cell (p := ⟨b2 + 1, 0, none⟩) (by show b2 + 1 < _; omega)).trans t0
    replace t1 := (k9.cell (p := ⟨b2 + 1, 1, none⟩) (by show b2 + 1 < _; omega)).trans t1
    replace t2 := (k9.cell (p := ⟨b2 + 1, 2, none⟩) (by show b2 + 1 < _; omega)).trans t2
    replace r0 := (k9.cell (p := ⟨b4, 0, none⟩) (by show b4 < _; omega)).trans r0
    replace r1 := (k9.cell (p := ⟨b4, 1, none⟩) (by show b4 < _; omega)).trans r1
    replace r2 := (k9.cell (p := ⟨b4, 2, none⟩) (by show b4 < _; omega)).trans r2
    replace o0 := (k9.cell (p := ⟨b4 + 1, 0, none⟩) (by show b4 + 1 < _; omega)).trans o0
    replace o1 := (k9.cell (p := ⟨b4 + 1, 1, none⟩) (by show b4 + 1 < _; omega)).trans o1
    replace o2 := (k9.cell (p := ⟨b4 + 1, 2, none⟩) (by show b4 + 1 < _; omega)).trans o2
    replace hV := hV.below k9
    replace hU := hU.below k9
    clear k9 L11_ hb11
    go_wp2_with fail
    refine (RV.out Ab2 nb2 cb2 Db2 pb2 db2 Eb2 qb2 fb2 zeb2 _ hV L12_).mono ?_
    rintro e' w10 ⟨rfl, k10⟩
    have L13_ := MO.out _ _ L12_ k10
    have hb13 := hb12.trans (k10.mono hb12.size)
    have sz13 := k10.size
    replace x0 := (k10.cell (p := ⟨w.heap.size, 0, none⟩) (by show w.heap.size < _; omega)).trans x0
    replace x1 := (k10.cell (p := ⟨w.heap.size, 1, none⟩) (by show w.heap.size < _; omega)).trans x1
    replace x2 := (k10.cell (p := ⟨w.heap.size, 2, none⟩) (by show w.heap.size < _; omega)).trans x2
    replace y0 := (k10.cell (p := ⟨b1, 0, none⟩) (by show b1 < _; omega)).trans y0
    replace y1 := (k10.cell (p := ⟨b1, 1, none⟩) (by show b1 < _; omega)).trans y1
    replace y2 := (k10.cell (p := ⟨b1, 2, none⟩) (by show b1 < _; omega)).trans y2
    replace m0 := (k10.cell (p := ⟨b1 + 1, 0, none⟩) (by show b1 + 1 < _; omega)).trans m0
    replace m1 := (k10.cell (p := ⟨b1 + 1, 1, none⟩) (by show b1 + 1 < _; omega)).trans m1
    replace m2 := (k10.cell (p := ⟨b1 + 1, 2, none⟩) (by show b1 + 1 < _; omega)).trans m2
    replace v0 := (k10.cell (p := ⟨b2, 0, none⟩) (by show b2 < _; omega)).trans v0
    replace v1 := (k10.cell (p := ⟨b2, 1, none⟩) (by show b2 < _; omega)).trans v1
    replace v2 := (k10.cell (p := ⟨b2, 2, none⟩) (by show b2 < _; omega)).trans v2
    replace t0 := (k10.cell (p := ⟨b2 + 1, 0, none⟩) (by show b2 + 1 < _; omega)).trans t0
    replace t1 := (k10.cell (p := ⟨b2 + 1, 1, none⟩) (by show b2 + 1 < _; omega)).trans t1
    replace t2 := (k10.cell (p := ⟨b2 + 1, 2, none⟩) (by show b2 + 1 < _; omega)).trans t2
    replace r0 := (k10.cell (p := ⟨b4, 0, none⟩) (by show b4 < _; omega)).trans r0
    replace r1 := (k10.cell (p := ⟨b4, 1, none⟩) (by show b4 < _; omega)).trans r1
    replace r2 := (k10.cell (p := ⟨b4, 2, none⟩) (by show b4 < _; omega)).trans r2
    replace o0 := (k10.cell (p := ⟨b4 + 1, 0, none⟩) (by show b4 + 1 < _; omega)).trans o0
    replace o1 := (k10.cell (p := ⟨b4 + 1, 1, none⟩) (by show b4 + 1 < _; omega)).trans o1
    replace o2 := (k10.cell (p := ⟨b4 + 1, 2, none⟩) (by show b4 + 1 < _; omega)).trans o2
    replace hV := hV.below k10
    replace hU := hU.below k10
    clear k10 L12_ hb12
    have SM := Lib.hid (sameS S1 ⟨Ab2, nb2, cb2⟩ ⟨Db2, pb2, db2⟩ ⟨Eb2, qb2, fb2⟩ ⟨Ab4, nb4, cb4⟩ ⟨Db4, pb4, db4⟩ ⟨Eb4, qb4, fb4⟩ zeb2 zeb4 w10 hV hU)
    simp only [Hd.val] at SM
    clear hV hU
    go_wp2_with fail
    refine SM.out.mono ?_
    rintro e' w11 ⟨rfl, k11⟩
    go_wp2
    go_ret
    exact ⟨rfl, hb13.trans (k11.mono hb13.size)⟩
set_option maxRecDepth 100000 in
set_option maxHeartbeats 16000000 in
theorem backY2 {Q : World → Prop} (C : SourceP Q) (S : Sr) (a0 b0_ c0 : Hd) (ze : List Ze) (hi : S.in64) (t : ByteArray) (ht : t.size ≤ maxLen) (w : World) (hS : SrcV w S a0 b0_ c0 ze) (L : Q w) (T : ByteArray) (er : Int) (her : ¬ er = 0) (hpr : printRes S = (T, er)) (hf : (srcRes t).2.1 = 0) (hlong : ¬ 100000 < (srcText (srcRes t).1).size) :
    Calls Tryz.prog 6 #[.agg #[a0.val, b0_.val, c0.val], .string t] w (RetV w (.bool true)) := by
  obtain ⟨A, n, c⟩ := a0
  obtain ⟨D, p, d⟩ := b0_
  obtain ⟨E, q, f⟩ := c0
  have MO := Lib.hid C.mono
  have AL := Lib.hid (alive10 C.toReadP)
  have GR := Lib.hid (fun W (h : SrcV W S ⟨A, n, c⟩ ⟨D, p, d⟩ ⟨E, q, f⟩ ze) => greatA S _ _ _ ze W h)
  simp only [Hd.val] at GR
  have eb : (er == 0) = false := beq_eq_false_iff_ne.2 her
  have PS := Lib.hid (fun W (h : SrcV W S ⟨A, n, c⟩ ⟨D, p, d⟩ ⟨E, q, f⟩ ze) (L : Q W) => (hpr ▸ C.print S _ _ _ ze W h hi L))
  simp only [Hd.val] at PS
  have FE := flt_err hf
  have OK := src_right hf
  have I1 := ok_in64 OK
  have PT := Lib.hid (C.parse t ht)
  generalize srcRes t = r at *
  obtain ⟨S1, fl⟩ := r
  obtain rfl : fl = (0, 0, 0) := FE
  simp only at OK I1 hlong PT
  have hp1 : printRes S1 = (srcText S1, 0) := by unfold printRes; rw [if_pos (okSr_yes OK), if_neg hlong]
  have PV := Lib.hid (fun (A : Option Addr) (n c : Nat) (D : Option Addr) (p d : Nat) (E : Option Addr) (q f : Nat) (ze : List Ze) W (h : SrcV W S1 ⟨A, n, c⟩ ⟨D, p, d⟩ ⟨E, q, f⟩ ze) (L : Q W) => (hp1 ▸ C.print S1 ⟨A, n, c⟩ ⟨D, p, d⟩ ⟨E, q, f⟩ ze W h I1 L))
  have RV := Lib.hid (fun (A : Option Addr) (n c : Nat) (D : Option Addr) (p d : Nat) (E : Option Addr) (q f : Nat) (ze : List Ze) W (h : SrcV W S1 ⟨A, n, c⟩ ⟨D, p, d⟩ ⟨E, q, f⟩ ze) (L : Q W) => (okSr_yes OK ▸ C.right S1 ⟨A, n, c⟩ ⟨D, p, d⟩ ⟨E, q, f⟩ ze W h I1 L))
  have PU := Lib.hid (fun W (L : Q W) => (src_back OK (by omega) ▸ C.parse (srcText S1) (by unfold maxLen; omega) W L : Calls Tryz.prog 9 #[.string (srcText S1)] W (RetSrcF W (S1, (0, 0, 0)))))
  simp only [Hd.val] at PV RV
  clear C hi ht hpr her OK I1 hf hlong hp1
  generalize srcText S1 = T1 at *
  simp only [Hd.val]
  go_enter Tryz.func6, Tryz.ntmps6
  go_wp2_with fail
  have k0 : Below w.heap.size w (w.alloc (.cells #[.slice A n c, .slice D p d, .slice E q f] 26)) := (Below.refl _ w).alloc (Nat.le_refl _) _
  have x0 : (w.alloc (.cells #[.slice A n c, .slice D p d, .slice E q f] 26)).cell? ⟨w.heap.size, 0, none⟩ = some (.slice A n c) := by simp
  have x1 : (w.alloc (.cells #[.slice A n c, .slice D p d, .slice E q f] 26)).cell? ⟨w.heap.size, 1, none⟩ = some (.slice D p d) := by simp
  have x2 : (w.alloc (.cells #[.slice A n c, .slice D p d, .slice E q f] 26)).cell? ⟨w.heap.size, 2, none⟩ = some (.slice E q f) := by simp
  have z0 : (w.alloc (.cells #[.slice A n c, .slice D p d, .slice E q f] 26)).heap.size = w.heap.size + 1 := by simp
  generalize w.alloc (.cells #[.slice A n c, .slice D p d, .slice E q f] 26) = u0 at *
  have L1_ := MO.out _ _ L k0
  have hb1 := k0
  have sz1 := k0.size
  replace hS := hS.below k0
  clear k0 L
  refine (GR.out _ hS).mono ?_
  rintro e' w1 ⟨bb, rfl, k1⟩
  have L2_ := MO.out _ _ L1_ k1
  have hb2 := hb1.trans (k1.mono hb1.size)
  have sz2 := k1.size
  replace x0 := (k1.cell (p := ⟨w.heap.size, 0, none⟩) (by show w.heap.size < _; omega)).trans x0
  replace x1 := (k1.cell (p := ⟨w.heap.size, 1, none⟩) (by show w.heap.size < _; omega)).trans x1
  replace x2 := (k1.cell (p := ⟨w.heap.size, 2, none⟩) (by show w.heap.size < _; omega)).trans x2
  replace hS := hS.below k1
  clear k1 L1_ hb1
  cases bb with
  | true =>
    go_wp2_with (go_at_call 11; refine (AL.out _ L2_).mono ?_; rintro e w9 ⟨rfl, h9⟩)
    go_ret
    exact ⟨rfl, hb2.trans (h9.mono hb2.size)⟩
  | false =>
    go_wp2_with fail
    refine (PS.out _ hS L2_).mono ?_
    rintro e' w2 ⟨rfl, k2⟩
    have L3_ := MO.out _ _ L2_ k2
    have hb3 := hb2.trans (k2.mono hb2.size)
    have sz3 := k2.size
    replace x0 := (k2.cell (p := ⟨w.heap.size, 0, none⟩) (by show w.heap.size < _; omega)).trans x0
    replace x1 := (k2.cell (p := ⟨w.heap.size, 1, none⟩) (by show w.heap.size < _; omega)).trans x1
    replace x2 := (k2.cell (p := ⟨w.heap.size, 2, none⟩) (by show w.heap.size < _; omega)).trans x2
    replace hS := hS.below k2
    clear k2 L2_ hb2
    clear hS
    go_wp2_with fail
    refine (PT.out _ L3_).mono ?_
    rintro e' wpb2 ⟨⟨Ab2, nb2, cb2⟩, ⟨Db2, pb2, db2⟩, ⟨Eb2, qb2, fb2⟩, zeb2, rfl, hV, kpb2⟩
    simp only [Hd.val, Flt.val]
    have L4_ := MO.out _ _ L3_ kpb2
    have hb4 := hb3.trans (kpb2.mono hb3.size)
    have sz4 := kpb2.size
    replace x0 := (kpb2.cell (p := ⟨w.heap.size, 0, none⟩) (by show w.heap.size < _; omega)).trans x0
    replace x1 := (kpb2.cell (p := ⟨w.heap.size, 1, none⟩) (by show w.heap.size < _; omega)).trans x1
    replace x2 := (kpb2.cell (p := ⟨w.heap.size, 2, none⟩) (by show w.heap.size < _; omega)).trans x2
    clear kpb2 L3_ hb3
    go_upto_region 9 with (fail)
    have k5 := box2_below wpb2 (.cells #[.slice Ab2 nb2 cb2, .slice Db2 pb2 db2, .slice Eb2 qb2 fb2] 26) (.cells #[.int .i64 0, .int .i64 0, .int .i64 0] 29)
    have v0 : ((wpb2.alloc (.cells #[.slice Ab2 nb2 cb2, .slice Db2 pb2 db2, .slice Eb2 qb2 fb2] 26)).alloc (.cells #[.int .i64 0, .int .i64 0, .int .i64 0] 29)).cell? ⟨wpb2.heap.size, 0, none⟩ = some (.slice Ab2 nb2 cb2) := by simp
    have v1 : ((wpb2.alloc (.cells #[.slice Ab2 nb2 cb2, .slice Db2 pb2 db2, .slice Eb2 qb2 fb2] 26)).alloc (.cells #[.int .i64 0, .int .i64 0, .int .i64 0] 29)).cell? ⟨wpb2.heap.size, 1, none⟩ = some (.slice Db2 pb2 db2) := by simp
    have v2 : ((wpb2.alloc (.cells #[.slice Ab2 nb2 cb2, .slice Db2 pb2 db2, .slice Eb2 qb2 fb2] 26)).alloc (.cells #[.int .i64 0, .int .i64 0, .int .i64 0] 29)).cell? ⟨wpb2.heap.size, 2, none⟩ = some (.slice Eb2 qb2 fb2) := by simp
    have t0 : ((wpb2.alloc (.cells #[.slice Ab2 nb2 cb2, .slice Db2 pb2 db2, .slice Eb2 qb2 fb2] 26)).alloc (.cells #[.int .i64 0, .int .i64 0, .int .i64 0] 29)).cell? ⟨wpb2.heap.size + 1, 0, none⟩ = some (.int .i64 0) := by simp
    have t1 : ((wpb2.alloc (.cells #[.slice Ab2 nb2 cb2, .slice Db2 pb2 db2, .slice Eb2 qb2 fb2] 26)).alloc (.cells #[.int .i64 0, .int .i64 0, .int .i64 0] 29)).cell? ⟨wpb2.heap.size + 1, 1, none⟩ = some (.int .i64 0) := by simp
    have t2 : ((wpb2.alloc (.cells #[.slice Ab2 nb2 cb2, .slice Db2 pb2 db2, .slice Eb2 qb2 fb2] 26)).alloc (.cells #[.int .i64 0, .int .i64 0, .int .i64 0] 29)).cell? ⟨wpb2.heap.size + 1, 2, none⟩ = some (.int .i64 0) := by simp
    have zb2 : ((wpb2.alloc (.cells #[.slice Ab2 nb2 cb2, .slice Db2 pb2 db2, .slice Eb2 qb2 fb2] 26)).alloc (.cells #[.int .i64 0, .int .i64 0, .int .i64 0] 29)).heap.size = wpb2.heap.size + 2 := by simp
    generalize ((wpb2.alloc (.cells #[.slice Ab2 nb2 cb2, .slice Db2 pb2 db2, .slice Eb2 qb2 fb2] 26)).alloc (.cells #[.int .i64 0, .int .i64 0, .int .i64 0] 29)) = u5 at *
    have L5_ := MO.out _ _ L4_ k5
    have hb5 := hb4.trans (k5.mono hb4.size)
    have sz5 := k5.size
    replace x0 := (k5.cell (p := ⟨w.heap.size, 0, none⟩) (by show w.heap.size < _; omega)).trans x0
    replace x1 := (k5.cell (p := ⟨w.heap.size, 1, none⟩) (by show w.heap.size < _; omega)).trans x1
    replace x2 := (k5.cell (p := ⟨w.heap.size, 2, none⟩) (by show w.heap.size < _; omega)).trans x2
    replace hV := hV.below k5
    clear k5 L4_ hb4
    generalize hgb2 : wpb2.heap.size = b2 at *
    go_wp2_with fail
    refine (PV.out Ab2 nb2 cb2 Db2 pb2 db2 Eb2 qb2 fb2 zeb2 _ hV L5_).mono ?_
    rintro e' w5 ⟨rfl, k5⟩
    have L6_ := MO.out _ _ L5_ k5
    have hb6 := hb5.trans (k5.mono hb5.size)
    have sz6 := k5.size
    replace x0 := (k5.cell (p := ⟨w.heap.size, 0, none⟩) (by show w.heap.size < _; omega)).trans x0
    replace x1 := (k5.cell (p := ⟨w.heap.size, 1, none⟩) (by show w.heap.size < _; omega)).trans x1
    replace x2 := (k5.cell (p := ⟨w.heap.size, 2, none⟩) (by show w.heap.size < _; omega)).trans x2
    replace v0 := (k5.cell (p := ⟨b2, 0, none⟩) (by show b2 < _; omega)).trans v0
    replace v1 := (k5.cell (p := ⟨b2, 1, none⟩) (by show b2 < _; omega)).trans v1
    replace v2 := (k5.cell (p := ⟨b2, 2, none⟩) (by show b2 < _; omega)).trans v2
    replace t0 := (k5.cell (p := ⟨b2 + 1, 0, none⟩) (by show b2 + 1 < _; omega)).trans t0
    replace t1 := (k5.cell (p := ⟨b2 + 1, 1, none⟩) (by show b2 + 1 < _; omega)).trans t1
    replace t2 := (k5.cell (p := ⟨b2 + 1, 2, none⟩) (by show b2 + 1 < _; omega)).trans t2
    replace hV := hV.below k5
    clear k5 L5_ hb5
    go_wp2_with fail
    refine (PU.out _ L6_).mono ?_
    rintro e' wpb4 ⟨⟨Ab4, nb4, cb4⟩, ⟨Db4, pb4, db4⟩, ⟨Eb4, qb4, fb4⟩, zeb4, rfl, hU, kpb4⟩
    simp only [Hd.val, Flt.val, Flt.no]
    have L7_ := MO.out _ _ L6_ kpb4
    have hb7 := hb6.trans (kpb4.mono hb6.size)
    have sz7 := kpb4.size
    replace x0 := (kpb4.cell (p := ⟨w.heap.size, 0, none⟩) (by show w.heap.size < _; omega)).trans x0
    replace x1 := (kpb4.cell (p := ⟨w.heap.size, 1, none⟩) (by show w.heap.size < _; omega)).trans x1
    replace x2 := (kpb4.cell (p := ⟨w.heap.size, 2, none⟩) (by show w.heap.size < _; omega)).trans x2
    replace v0 := (kpb4.cell (p := ⟨b2, 0, none⟩) (by show b2 < _; omega)).trans v0
    replace v1 := (kpb4.cell (p := ⟨b2, 1, none⟩) (by show b2 < _; omega)).trans v1
    replace v2 := (kpb4.cell (p := ⟨b2, 2, none⟩) (by show b2 < _; omega)).trans v2
    replace t0 := (kpb4.cell (p := ⟨b2 + 1, 0, none⟩) (by show b2 + 1 < _; omega)).trans t0
    replace t1 := (kpb4.cell (p := ⟨b2 + 1, 1, none⟩) (by show b2 + 1 < _; omega)).trans t1
    replace t2 := (kpb4.cell (p := ⟨b2 + 1, 2, none⟩) (by show b2 + 1 < _; omega)).trans t2
    replace hV := hV.below kpb4
    clear kpb4 L6_ hb6
    go_upto_region 15 with (fail)
    have k8 := box2_below wpb4 (.cells #[.slice Ab4 nb4 cb4, .slice Db4 pb4 db4, .slice Eb4 qb4 fb4] 26) (.cells #[.int .i64 0, .int .i64 0, .int .i64 0] 29)
    have r0 : ((wpb4.alloc (.cells #[.slice Ab4 nb4 cb4, .slice Db4 pb4 db4, .slice Eb4 qb4 fb4] 26)).alloc (.cells #[.int .i64 0, .int .i64 0, .int .i64 0] 29)).cell? ⟨wpb4.heap.size, 0, none⟩ = some (.slice Ab4 nb4 cb4) := by simp
    have r1 : ((wpb4.alloc (.cells #[.slice Ab4 nb4 cb4, .slice Db4 pb4 db4, .slice Eb4 qb4 fb4] 26)).alloc (.cells #[.int .i64 0, .int .i64 0, .int .i64 0] 29)).cell? ⟨wpb4.heap.size, 1, none⟩ = some (.slice Db4 pb4 db4) := by simp
    have r2 : ((wpb4.alloc (.cells #[.slice Ab4 nb4 cb4, .slice Db4 pb4 db4, .slice Eb4 qb4 fb4] 26)).alloc (.cells #[.int .i64 0, .int .i64 0, .int .i64 0] 29)).cell? ⟨wpb4.heap.size, 2, none⟩ = some (.slice Eb4 qb4 fb4) := by simp
    have o0 : ((wpb4.alloc (.cells #[.slice Ab4 nb4 cb4, .slice Db4 pb4 db4, .slice Eb4 qb4 fb4] 26)).alloc (.cells #[.int .i64 0, .int .i64 0, .int .i64 0] 29)).cell? ⟨wpb4.heap.size + 1, 0, none⟩ = some (.int .i64 0) := by simp
    have o1 : ((wpb4.alloc (.cells #[.slice Ab4 nb4 cb4, .slice Db4 pb4 db4, .slice Eb4 qb4 fb4] 26)).alloc (.cells #[.int .i64 0, .int .i64 0, .int .i64 0] 29)).cell? ⟨wpb4.heap.size + 1, 1, none⟩ = some (.int .i64 0) := by simp
    have o2 : ((wpb4.alloc (.cells #[.slice Ab4 nb4 cb4, .slice Db4 pb4 db4, .slice Eb4 qb4 fb4] 26)).alloc (.cells #[.int .i64 0, .int .i64 0, .int .i64 0] 29)).cell? ⟨wpb4.heap.size + 1, 2, none⟩ = some (.int .i64 0) := by simp
    have zb4 : ((wpb4.alloc (.cells #[.slice Ab4 nb4 cb4, .slice Db4 pb4 db4, .slice Eb4 qb4 fb4] 26)).alloc (.cells #[.int .i64 0, .int .i64 0, .int .i64 0] 29)).heap.size = wpb4.heap.size + 2 := by simp
    generalize ((wpb4.alloc (.cells #[.slice Ab4 nb4 cb4, .slice Db4 pb4 db4, .slice Eb4 qb4 fb4] 26)).alloc (.cells #[.int .i64 0, .int .i64 0, .int .i64 0] 29)) = u8 at *
    have L8_ := MO.out _ _ L7_ k8
    have hb8 := hb7.trans (k8.mono hb7.size)
    have sz8 := k8.size
    replace x0 := (k8.cell (p := ⟨w.heap.size, 0, none⟩) (by show w.heap.size < _; omega)).trans x0
    replace x1 := (k8.cell (p := ⟨w.heap.size, 1, none⟩) (by show w.heap.size < _; omega)).trans x1
    replace x2 := (k8.cell (p := ⟨w.heap.size, 2, none⟩) (by show w.heap.size < _; omega)).trans x2
    replace v0 := (k8.cell (p := ⟨b2, 0, none⟩) (by show b2 < _; omega)).trans v0
    replace v1 := (k8.cell (p := ⟨b2, 1, none⟩) (by show b2 < _; omega)).trans v1
    replace v2 := (k8.cell (p := ⟨b2, 2, none⟩) (by show b2 < _; omega)).trans v2
    replace t0 := (k8.cell (p := ⟨b2 + 1, 0, none⟩) (by show b2 + 1 < _; omega)).trans t0
    replace t1 := (k8.cell (p := ⟨b2 + 1, 1, none⟩) (by show b2 + 1 < _; omega)).trans t1
    replace t2 := (k8.cell (p := ⟨b2 + 1, 2, none⟩) (by show b2 + 1 < _; omega)).trans t2
    replace hV := hV.below k8
    replace hU := hU.below k8
    clear k8 L7_ hb7
    generalize hgb4 : wpb4.heap.size = b4 at *
    go_wp2_with fail
    refine (AL.out _ L8_).mono ?_
    rintro e' w9 ⟨rfl, k9⟩
    have L9_ := MO.out _ _ L8_ k9
    have hb9 := hb8.trans (k9.mono hb8.size)
    have sz9 := k9.size
    replace x0 := (k9.cell (p := ⟨w.heap.size, 0, none⟩) (by show w.heap.size < _; omega)).trans x0
    replace x1 := (k9.cell (p := ⟨w.heap.size, 1, none⟩) (by show w.heap.size < _; omega)).trans x1
    replace x2 := (k9.cell (p := ⟨w.heap.size, 2, none⟩) (by show w.heap.size < _; omega)).trans x2
    replace v0 := (k9.cell (p := ⟨b2, 0, none⟩) (by show b2 < _; omega)).trans v0
    replace v1 := (k9.cell (p := ⟨b2, 1, none⟩) (by show b2 < _; omega)).trans v1
    replace v2 := (k9.cell (p := ⟨b2, 2, none⟩) (by show b2 < _; omega)).trans v2
    replace t0 := (k9.cell (p := ⟨b2 + 1, 0, none⟩) (by show b2 + 1 < _; omega)).trans t0
    replace t1 := (k9.cell (p := ⟨b2 + 1, 1, none⟩) (by show b2 + 1 < _; omega)).trans t1
    replace t2 := (k9.cell (p := ⟨b2 + 1, 2, none⟩) (by show b2 + 1 < _; omega)).trans t2
    replace r0 := (k9.cell (p := ⟨b4, 0, none⟩) (by show b4 < _; omega)).trans r0
    replace r1 := (k9.cell (p := ⟨b4, 1, none⟩) (by show b4 < _; omega)).trans r1
    replace r2 := (k9.cell (p := ⟨b4, 2, none⟩) (by show b4 < _; omega)).trans r2
    replace o0 := (k9.cell (p := ⟨b4 + 1, 0, none⟩) (by show b4 + 1 < _; omega)).trans o0
    replace o1 := (k9.cell (p := ⟨b4 + 1, 1, none⟩) (by show b4 + 1 < _; omega)).trans o1
    replace o2 := (k9.cell (p := ⟨b4 + 1, 2, none⟩) (by show b4 + 1 < _; omega)).trans o2
    replace hV := hV.below k9
    replace hU := hU.below k9
    clear k9 L8_ hb8
    go_wp2_with fail
    refine (RV.out Ab2 nb2 cb2 Db2 pb2 db2 Eb2 qb2 fb2 zeb2 _ hV L9_).mono ?_
    rintro e' w10 ⟨rfl, k10⟩
    have L10_ := MO.out _ _ L9_ k10
    have hb10 := hb9.trans (k10.mono hb9.size)
    have sz10 := k10.size
    replace x0 := (k10.cell (p := ⟨w.heap.size, 0, none⟩) (by show w.heap.size < _; omega)).trans x0
    replace x1 := (k10.cell (p := ⟨w.heap.size, 1, none⟩) (by show w.heap.size < _; omega)).trans x1
    replace x2 := (k10.cell (p := ⟨w.heap.size, 2, none⟩) (by show w.heap.size < _; omega)).trans x2
    replace v0 := (k10.cell (p := ⟨b2, 0, none⟩) (by show b2 < _; omega)).trans v0
    replace v1 := (k10.cell (p := ⟨b2, 1, none⟩) (by show b2 < _; omega)).trans v1
    replace v2 := (k10.cell (p := ⟨b2, 2, none⟩) (by show b2 < _; omega)).trans v2
    replace t0 := (k10.cell (p := ⟨b2 + 1, 0, none⟩) (by show b2 + 1 < _; omega)).trans t0
    replace t1 := (k10.cell (p := ⟨b2 + 1, 1, none⟩) (by show b2 + 1 < _; omega)).trans t1
    replace t2 := (k10.cell (p := ⟨b2 + 1, 2, none⟩) (by show b2 + 1 < _; omega)).trans t2
    replace r0 := (k10.cell (p := ⟨b4, 0, none⟩) (by show b4 < _; omega)).trans r0
    replace r1 := (k10.cell (p := ⟨b4, 1, none⟩) (by show b4 < _; omega)).trans r1
    replace r2 := (k10.cell (p := ⟨b4, 2, none⟩) (by show b4 < _; omega)).trans r2
    replace o0 := (k10.cell (p := ⟨b4 + 1, 0, none⟩) (by show b4 + 1 < _; omega)).trans o0
    replace o1 := (k10.cell (p := ⟨b4 + 1, 1, none⟩) (by show b4 + 1 < _; omega)).trans o1
    replace o2 := (k10.cell (p := ⟨b4 + 1, 2, none⟩) (by show b4 + 1 < _; omega)).trans o2
    replace hV := hV.below k10
    replace hU := hU.below k10
    clear k10 L9_ hb9
    have SM := Lib.hid (sameS S1 ⟨Ab2, nb2, cb2⟩ ⟨Db2, pb2, db2⟩ ⟨Eb2, qb2, fb2⟩ ⟨Ab4, nb4, cb4⟩ ⟨Db4, pb4, db4⟩ ⟨Eb4, qb4, fb4⟩ zeb2 zeb4 w10 hV hU)
    simp only [Hd.val] at SM
    clear hV hU
    go_wp2_with fail
    refine SM.out.mono ?_
    rintro e' w11 ⟨rfl, k11⟩
    go_wp2
    go_ret
    exact ⟨rfl, hb10.trans (k11.mono hb10.size)⟩
end Go.Proofs.YtnkmlfbnfndfpaaGreatDoor
/- Stage 10's laws: what was written is read as it was. -/
namespace Go.Proofs.YtnkmlfbnfndfpaaGreatDoor
open Go.RowKit
theorem sBackL {Q : World → Prop} (C : SourceP Q) (S : Sr) (a b c : Hd) (ze : List Ze) (hi : S.in64) (t : ByteArray) (ht : t.size ≤ maxLen) (w : World) (hS : SrcV w S a b c ze) (L : Q w) :
    Calls Tryz.prog 6 #[.agg #[a.val, b.val, c.val], .string t] w (RetV w (.bool true)) := by
  have two : (okSr S = true ∧ ¬ 100000 < (srcText S).size) ∨ ∃ (T : ByteArray) (er : Int), ¬ er = 0 ∧ printRes S = (T, er) := by
    by_cases h1 : okSr S = true
    · by_cases h2 : 100000 < (srcText S).size
      · exact .inr ⟨_, 12, by decide, by unfold printRes; rw [if_pos h1, if_pos h2]⟩
      · exact .inl ⟨h1, h2⟩
    · exact .inr ⟨_, 1, by decide, by unfold printRes; rw [if_neg h1]⟩
  by_cases hf : (srcRes t).2.1 = 0
  · by_cases hl : 100000 < (srcText (srcRes t).1).size
    · rcases two with ⟨h1, h2⟩ | ⟨T, er, h1, h2⟩
      · exact backX1 C S a b c ze hi t ht w hS L h1 h2 hf hl
      · exact backY1 C S a b c ze hi t ht w hS L T er h1 h2 hf hl
    · rcases two with ⟨h1, h2⟩ | ⟨T, er, h1, h2⟩
      · exact backX2 C S a b c ze hi t ht w hS L h1 h2 hf hl
      · exact backY2 C S a b c ze hi t ht w hS L T er h1 h2 hf hl
  · rcases two with ⟨h1, h2⟩ | ⟨T, er, h1, h2⟩
    · exact backX0 C S a b c ze hi t ht w hS L h1 h2 hf
    · exact backY0 C S a b c ze hi t ht w hS L T er h1 h2 hf
theorem sBackK {Q : World → Prop} (C : SourceP Q) (S : Sr) (a b c : Hd) (ze : List Ze) (t : ByteArray) (w : World) (hS : SrcV w S a b c ze) (hi : S.in64) (ht : t.size ≤ maxLen) (L : Q w) :
    Calls Tryz.prog 6 #[.agg #[a.val, b.val, c.val], .string t] w (RetV w (.bool true)) := sBackL C S a b c ze hi t ht w hS L
end Go.Proofs.YtnkmlfbnfndfpaaGreatDoor
