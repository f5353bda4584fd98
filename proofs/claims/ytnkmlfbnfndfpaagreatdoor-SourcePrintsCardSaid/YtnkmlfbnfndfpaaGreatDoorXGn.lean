import Derived.Test.YtnkmlfbnfndfpaaGreatDoorXGi
import Derived.Test.YtnkmlfbnfndfpaaGreatDoorXGf
import Derived.Defers
import Derived.Recover
import Derived.Test.YtnkmlfbnfndfpaaGreatDoorXHspec
set_option maxRecDepth 100000
set_option maxHeartbeats 64000000
namespace Go.Proofs.YtnkmlfbnfndfpaaGreatDoor
open Go.RowKit
def TkL (w0 : World) (R : Nat) (V : World) (vr vz vl : Value) (ln st en : Int) (n : Int) (t : ByteArray) (a : Int) (l : List (ByteArray × Int)) (v x : Int) : Prop := ∀ (g : Nat) (X : World), Rdr w0 R V vr vz vl ln st en ((t, a) :: l) X → g ≠ R → X.cell? ⟨g, 0, none⟩ = some (.int .i64 n) → g < X.heap.size →
  Calls Tryz.prog 136 #[.pointer (some ⟨R, 0, none⟩), .func (.func 166) #[] #[.pointer (some ⟨g, 0, none⟩)]] X (Out w0 (x, ln, a) fun e W' => e = .returned (.int .i64 v) ∧ Rdr w0 R V vr vz vl ln st en l W' ∧ Gr R X W')
def TkS (w0 : World) (R : Nat) (V : World) (vr vz vl : Value) (ln st en : Int) (K : FuncId) (t : ByteArray) (a : Int) (l : List (ByteArray × Int)) (v : ByteArray) (x : Int) : Prop := ∀ X, Rdr w0 R V vr vz vl ln st en ((t, a) :: l) X →
  Calls Tryz.prog 140 #[.pointer (some ⟨R, 0, none⟩), .func (.func K) #[] #[]] X (Out w0 (x, ln, a) fun e W' => e = .returned (.string v) ∧ Rdr w0 R V vr vz vl ln st en l W' ∧ Gr R X W')
theorem rule_inf : (Tryz.prog.info? 57).map (fun i => (i.zero, i.size, i.bytes)) = some (some (.agg #[.string ⟨#[]⟩, .int .i64 0, .int .i64 0, .int .i64 0, .int .i64 0, .int .i64 0, .int .i64 0, .int .i64 0, .int .i64 0, .int .i64 0, .string ⟨#[]⟩]), 11, 104) := by kernel_rfl
theorem grew_rule {W w3 X w4 : World} {R hi : Nat} {S : Sr} {vz vl : Value} {Ar : Option Addr} {nr cr : Nat} {vs : List Value} (G : Gr R W w3) (SA : SrcAt W hi S (.slice Ar nr cr) vz vl) (lt : R < hi) (le : hi ≤ W.heap.size) (HN : S.rules.length = nr) (HB : Blk w3 R vs) (HX : Below w3.heap.size w3 X) (hX : X.heap.size = w3.heap.size + 1)
    (x : Rl) (g cap : Nat) (hown : w4.ownsRow hi 57 11 (.slice (some ⟨g, 0, none⟩) (nr + 1) cap) (nr + 1) (S.rules.flatMap Rl.vals ++ x.vals)) (hgrow : X.grownBy w4 (Value.slice Ar nr cr).ownBlock) (hat : (Value.slice Ar nr cr).ownBlock = some g ∨ g = w3.heap.size + 1) :
    Blk w4 R vs ∧ SrcAt w4 hi ⟨S.rules ++ [x], S.zones, S.links⟩ (.slice (some ⟨g, 0, none⟩) (nr + 1) cap) vz vl ∧ Keep hi R W w4 := by
  have S3 := SA.gr G lt
  have lo : ∀ r, (Value.slice Ar nr cr).ownBlock = some r → hi ≤ r := fun r e => (S3.rules.lt r e).1
  refine ⟨blk_grown hgrow (fun r e => by have := lo r e; omega) (HB.below HX), ?_, ?_⟩
  · refine (S3.grown (below_own HX)).rule x (by rw [HN]; exact hown) hgrow ?_
    rcases hat with h | h
    · exact .inl h.symm
    · exact .inr (by rw [hX, ← h]; rfl)
  · exact ((Keep.of_gr G le).trans (Keep.of_gr (Gr.of_below HX) (by have := G.size; omega))).trans (Keep.grown hgrow (by have := G.size; have := HX.size; omega) fun r e => .inl (lo r e))
theorem Blk.elevenR {W : World} {b : Nat} {v0 v1 v2 v3 v4 v5 v6 v7 v8 v9 v10 : Value} (h : Blk W b [v0, v1, v2, v3, v4, v5, v6, v7, v8, v9, v10]) : b < W.heap.size ∧ (W.cell? ⟨b, 0, none⟩ = some v0 ∧ W.cell? ⟨b, 1, none⟩ = some v1 ∧ W.cell? ⟨b, 2, none⟩ = some v2 ∧ W.cell? ⟨b, 3, none⟩ = some v3 ∧ W.cell? ⟨b, 4, none⟩ = some v4 ∧ W.cell? ⟨b, 5, none⟩ = some v5 ∧ W.cell? ⟨b, 6, none⟩ = some v6 ∧ W.cell? ⟨b, 7, none⟩ = some v7 ∧ W.cell? ⟨b, 8, none⟩ = some v8 ∧ W.cell? ⟨b, 9, none⟩ = some v9 ∧ W.cell? ⟨b, 10, none⟩ = some v10) ∧ (W.frozen? ⟨b, 0, none⟩ = false ∧ W.frozen? ⟨b, 1, none⟩ = false ∧ W.frozen? ⟨b, 2, none⟩ = false ∧ W.frozen? ⟨b, 3, none⟩ = false ∧ W.frozen? ⟨b, 4, none⟩ = false ∧ W.frozen? ⟨b, 5, none⟩ = false ∧ W.frozen? ⟨b, 6, none⟩ = false ∧ W.frozen? ⟨b, 7, none⟩ = false ∧ W.frozen? ⟨b, 8, none⟩ = false ∧ W.frozen? ⟨b, 9, none⟩ = false ∧ W.frozen? ⟨b, 10, none⟩ = false) :=
  ⟨h.lt, ⟨h.cs.1, h.cs.2.2.1, h.cs.2.2.2.2.1, h.cs.2.2.2.2.2.2.1, h.cs.2.2.2.2.2.2.2.2.1, h.cs.2.2.2.2.2.2.2.2.2.2.1, h.cs.2.2.2.2.2.2.2.2.2.2.2.2.1, h.cs.2.2.2.2.2.2.2.2.2.2.2.2.2.2.1, h.cs.2.2.2.2.2.2.2.2.2.2.2.2.2.2.2.2.1, h.cs.2.2.2.2.2.2.2.2.2.2.2.2.2.2.2.2.2.2.1, h.cs.2.2.2.2.2.2.2.2.2.2.2.2.2.2.2.2.2.2.2.2.1⟩, ⟨h.cs.2.1, h.cs.2.2.2.1, h.cs.2.2.2.2.2.1, h.cs.2.2.2.2.2.2.2.1, h.cs.2.2.2.2.2.2.2.2.2.1, h.cs.2.2.2.2.2.2.2.2.2.2.2.1, h.cs.2.2.2.2.2.2.2.2.2.2.2.2.2.1, h.cs.2.2.2.2.2.2.2.2.2.2.2.2.2.2.2.1, h.cs.2.2.2.2.2.2.2.2.2.2.2.2.2.2.2.2.2.1, h.cs.2.2.2.2.2.2.2.2.2.2.2.2.2.2.2.2.2.2.2.1, h.cs.2.2.2.2.2.2.2.2.2.2.2.2.2.2.2.2.2.2.2.2.2.1⟩⟩
theorem rule_coreI (w0 : World) (R hi : Nat) (V : World) (S : Sr) (vz vl : Value) (Ar : Option Addr) (nr cr : Nat) (ln st en : Int) (t1 t2 t3 t4 t5 t6 t7 t8 t9 : ByteArray) (a1 a2 a3 a4 a5 a6 a7 a8 a9 : Int) (v1 v4 v9 : ByteArray) (fr la mo ki wd da ti re sv x1 x2 x3 x4 x8 x9 : Int) (f5 : Flt)
    (T1 : Hid (TkN w0 R V (.slice Ar nr cr) vz vl ln st en 18 t1 a1 [(t2, a2), (t3, a3), (t4, a4), (t5, a5), (t6, a6), (t7, a7), (t8, a8), (t9, a9)] v1 x1)) (T2 : Hid (TkI w0 R V (.slice Ar nr cr) vz vl ln st en 142 t2 a2 [(t3, a3), (t4, a4), (t5, a5), (t6, a6), (t7, a7), (t8, a8), (t9, a9)] fr x2)) (T3 : Hid (TkL w0 R V (.slice Ar nr cr) vz vl ln st en fr t3 a3 [(t4, a4), (t5, a5), (t6, a6), (t7, a7), (t8, a8), (t9, a9)] la x3)) (T4 : Hid (TkN w0 R V (.slice Ar nr cr) vz vl ln st en 145 t4 a4 [(t5, a5), (t6, a6), (t7, a7), (t8, a8), (t9, a9)] v4 x4)) (T5 : Hid (TkP w0 R V (.slice Ar nr cr) vz vl ln st en [(t5, a5), (t6, a6), (t7, a7), (t8, a8), (t9, a9)] [(t8, a8), (t9, a9)] 3 f5 mo ki wd da ti re))
    (T8 : Hid (TkI w0 R V (.slice Ar nr cr) vz vl ln st en 146 t8 a8 [(t9, a9)] sv x8)) (T9 : Hid (TkS w0 R V (.slice Ar nr cr) vz vl ln st en 147 t9 a9 [] v9 x9)) (lt : R < hi) (hiV : hi ≤ V.heap.size)
    (W : World) (h : Rdr w0 R V (.slice Ar nr cr) vz vl ln st en [(t1, a1), (t2, a2), (t3, a3), (t4, a4), (t5, a5), (t6, a6), (t7, a7), (t8, a8), (t9, a9)] W) (SA : SrcAt W hi S (.slice Ar nr cr) vz vl) (hn : S.rules.length = nr) (hn9 : nr ≤ 1000) :
    Calls Tryz.prog 111 #[.pointer (some ⟨R, 0, none⟩)] W (Out w0 (orF (chk (decide ((nr : Int) < 200)) (12, ln, st)) (orF (x1, ln, a1) (orF (x2, ln, a2) (orF (x3, ln, a3) (orF (x4, ln, a4) (orF f5 (orF (x8, ln, a8) (x9, ln, a9)))))))) (LnOk w0 R hi ⟨S.rules ++ [⟨v1, fr, la, ⟨mo, ki, wd, da, ti, re⟩, sv, v9⟩], S.zones, S.links⟩ ln st en W)) := by
  obtain ⟨i0, hi0, hz0, hz1, hz2⟩ := info_partsS rule_inf
  have NM := Lib.hid nameP
  have LS := Lib.hid lastP
  have RM := Lib.hid (fun X => roomP w0 R (.slice Ar nr cr) vz vl ln st en [(t1, a1), (t2, a2), (t3, a3), (t4, a4), (t5, a5), (t6, a6), (t7, a7), (t8, a8), (t9, a9)] nr 200 V X)
  have SZ := Lib.hid (fun X => sizedP w0 R (.slice Ar nr cr) vz vl ln st en [(t1, a1), (t2, a2), (t3, a3), (t4, a4), (t5, a5), (t6, a6), (t7, a7), (t8, a8), (t9, a9)] 9 9 (by decide) (by decide) V X)
  have ge := h.ge
  have szV := h.gr.size
  have H0 := Lib.hid h
  have HBW := Lib.hid h.hb
  have SA0 := Lib.hid SA
  have HN := Lib.hid hn
  obtain ⟨A, n, c, hB, hW⟩ := h.at_
  obtain ⟨ltR, ⟨c0, c1, c2, c3, c4, c5, c6⟩, _⟩ := hB.sevenR
  have szw := h.hb.size
  clear h hB hW SA hn
  go_enter Tryz.func111, Tryz.ntmps111
  go_wp2_with fail
  refine (RM.out _ H0.out).mono ?_
  rintro e w1 (⟨hx, rfl, hb⟩ | ⟨hx0, rfl, rfl⟩)
  · exact ⟨rfl, .inl ⟨by rw [orF_yes hx]; exact hx, by rw [orF_yes hx]; exact ⟨rfl, hb⟩⟩⟩
  have X0 := Lib.hid hx0
  clear hx0 RM
  go_wp2_with fail
  refine (SZ.out _ H0.out).mono ?_
  rintro e w1 (⟨hx, rfl, hb⟩ | ⟨hx0, rfl, rfl⟩)
  · exact absurd (show (szFlt [(t1, a1), (t2, a2), (t3, a3), (t4, a4), (t5, a5), (t6, a6), (t7, a7), (t8, a8), (t9, a9)] en ln 9 9).1 = 0 from rfl) hx
  clear hx0 SZ
  go_wp2_with (go_at_call 141; refine (NM.out _ _).mono ?_; rintro e w' ⟨rfl, rfl⟩)
  have b1 := below_box W (.cells #[.string ⟨#[]⟩, .int .i64 0, .int .i64 0, .int .i64 0, .int .i64 0, .int .i64 0, .int .i64 0, .int .i64 0, .int .i64 0, .int .i64 0, .string ⟨#[]⟩] 57)
  have b2 := below_box (W.alloc (.cells #[.string ⟨#[]⟩, .int .i64 0, .int .i64 0, .int .i64 0, .int .i64 0, .int .i64 0, .int .i64 0, .int .i64 0, .int .i64 0, .int .i64 0, .string ⟨#[]⟩] 57)) (.cells #[.func (.func 18) #[] #[]] 34)
  have kx := (blk_lit W 57 [.string ⟨#[]⟩, .int .i64 0, .int .i64 0, .int .i64 0, .int .i64 0, .int .i64 0, .int .i64 0, .int .i64 0, .int .i64 0, .int .i64 0, .string ⟨#[]⟩]).more (.cells #[.func (.func 18) #[] #[]] 34)
  have kb := blk_lit (W.alloc (.cells #[.string ⟨#[]⟩, .int .i64 0, .int .i64 0, .int .i64 0, .int .i64 0, .int .i64 0, .int .i64 0, .int .i64 0, .int .i64 0, .int .i64 0, .string ⟨#[]⟩] 57)) 34 [.func (.func 18) #[] #[]]
  rw [World.size_alloc] at kb
  have szb : ((W.alloc (.cells #[.string ⟨#[]⟩, .int .i64 0, .int .i64 0, .int .i64 0, .int .i64 0, .int .i64 0, .int .i64 0, .int .i64 0, .int .i64 0, .int .i64 0, .string ⟨#[]⟩] 57)).alloc (.cells #[.func (.func 18) #[] #[]] 34)).heap.size = W.heap.size + 2 := by simp
  refine (T1.out (W.heap.size + 1) _ ((H0.out.below b1).below b2) (by omega) kb.one.2.1 (by rw [szb]; omega)).mono ?_
  have G0 := Lib.hid ((Gr.of_below (R := R) b1).trans (Gr.of_below b2))
  have KX := Lib.hid kx
  clear b1 b2 kx kb H0 T1
  rintro e w1 (⟨hx, rfl, hb⟩ | ⟨hxx, rfl, hr, hg⟩)
  · exact ⟨rfl, .inl ⟨by rw [orF_no X0.out, orF_yes hx]; exact hx, by rw [orF_no X0.out, orF_yes hx]; exact ⟨rfl, hb⟩⟩⟩
  have X1 := Lib.hid hxx
  have H1 := Lib.hid hr
  have sz1 := hg.size
  rw [szb] at sz1
  have kx := KX.out.gr hg (by omega)
  clear KX
  have KX := Lib.hid kx
  have gg := G0.out.trans hg
  clear G0
  have G0 := Lib.hid gg
  clear hr hg hxx gg szb
  obtain ⟨ltx1, ⟨e0, e1, e2, e3, e4, e5, e6, e7, e8, e9, e10⟩, ⟨z0, z1, z2, z3, z4, z5, z6, z7, z8, z9, z10⟩⟩ := kx.elevenR
  clear kx
  go_wp2_with fail
  have hs := (H1.out.store (b := W.heap.size) (by omega) (by omega) (by omega) 0 (.string v1))
  have kx2 := (KX.out.upd 0 (.string v1) (by simp) [.string v1, .int .i64 0, .int .i64 0, .int .i64 0, .int .i64 0, .int .i64 0, .int .i64 0, .int .i64 0, .int .i64 0, .int .i64 0, .string ⟨#[]⟩] rfl)
  have gg := (G0.out.store (b := W.heap.size) (Nat.le_refl _) 0 (.string v1))
  have szb : (w1.setCell ⟨W.heap.size, 0, none⟩ (.string v1)).heap.size = w1.heap.size := by simp [World.setCell]
  refine (T2.out _ hs).mono ?_
  clear G0 KX
  have G0 := Lib.hid gg
  have KX := Lib.hid kx2
  clear hs kx2 gg H1 T2 e0 z0 e1 z1 e2 z2 e3 z3 e4 z4 e5 z5 e6 z6 e7 z7 e8 z8 e9 z9 e10 z10
  rintro e w2 (⟨hx, rfl, hb⟩ | ⟨hxx, rfl, hr, hg⟩)
  · exact ⟨rfl, .inl ⟨by rw [orF_no X0.out, orF_no X1.out, orF_yes hx]; exact hx, by rw [orF_no X0.out, orF_no X1.out, orF_yes hx]; exact ⟨rfl, hb⟩⟩⟩
  have X2 := Lib.hid hxx
  have H2 := Lib.hid hr
  have sz2 := hg.size
  rw [szb] at sz2
  have kx := KX.out.gr hg (by omega)
  clear KX
  have KX := Lib.hid kx
  have gg := G0.out.trans hg
  clear G0
  have G0 := Lib.hid gg
  clear hr hg hxx gg szb
  obtain ⟨ltx2, ⟨e0, e1, e2, e3, e4, e5, e6, e7, e8, e9, e10⟩, ⟨z0, z1, z2, z3, z4, z5, z6, z7, z8, z9, z10⟩⟩ := kx.elevenR
  clear kx
  go_wp2_with (go_at_call 144; refine (LS.out _ _).mono ?_; rintro e w' ⟨rfl, rfl⟩)
  have hs := (H2.out.store (b := W.heap.size) (by omega) (by omega) (by omega) 1 (.int .i64 fr))
  have szs : (w2.setCell ⟨W.heap.size, 1, none⟩ (.int .i64 fr)).heap.size = w2.heap.size := by simp [World.setCell]
  have b1 := below_box (w2.setCell ⟨W.heap.size, 1, none⟩ (.int .i64 fr)) (.cells #[.int .i64 fr] 3)
  have kx2 := (KX.out.upd 1 (.int .i64 fr) (by simp) [.string v1, .int .i64 fr, .int .i64 0, .int .i64 0, .int .i64 0, .int .i64 0, .int .i64 0, .int .i64 0, .int .i64 0, .int .i64 0, .string ⟨#[]⟩] rfl).more (.cells #[.int .i64 fr] 3)
  have kb := blk_lit (w2.setCell ⟨W.heap.size, 1, none⟩ (.int .i64 fr)) 3 [.int .i64 fr]
  rw [szs] at kb
  have szb : ((w2.setCell ⟨W.heap.size, 1, none⟩ (.int .i64 fr)).alloc (.cells #[.int .i64 fr] 3)).heap.size = w2.heap.size + 1 := by simp
  refine (T3.out w2.heap.size _ (hs.below b1) (by omega) kb.one.2.1 (by rw [szb]; omega)).mono ?_
  have gg := (G0.out.store (b := W.heap.size) (Nat.le_refl _) 1 (.int .i64 fr)).trans (Gr.of_below b1)
  clear G0 KX
  have G0 := Lib.hid gg
  have KX := Lib.hid kx2
  clear hs b1 kx2 kb gg H2 szs T3 e0 z0 e1 z1 e2 z2 e3 z3 e4 z4 e5 z5 e6 z6 e7 z7 e8 z8 e9 z9 e10 z10
  rintro e w3 (⟨hx, rfl, hb⟩ | ⟨hxx, rfl, hr, hg⟩)
  · exact ⟨rfl, .inl ⟨by rw [orF_no X0.out, orF_no X1.out, orF_no X2.out, orF_yes hx]; exact hx, by rw [orF_no X0.out, orF_no X1.out, orF_no X2.out, orF_yes hx]; exact ⟨rfl, hb⟩⟩⟩
  have X3 := Lib.hid hxx
  have H3 := Lib.hid hr
  have sz3 := hg.size
  rw [szb] at sz3
  have kx := KX.out.gr hg (by omega)
  clear KX
  have KX := Lib.hid kx
  have gg := G0.out.trans hg
  clear G0
  have G0 := Lib.hid gg
  clear hr hg hxx gg szb
  obtain ⟨ltx3, ⟨e0, e1, e2, e3, e4, e5, e6, e7, e8, e9, e10⟩, ⟨z0, z1, z2, z3, z4, z5, z6, z7, z8, z9, z10⟩⟩ := kx.elevenR
  clear kx
  go_wp2_with (go_at_call 141; refine (NM.out _ _).mono ?_; rintro e w' ⟨rfl, rfl⟩)
  have hs := (H3.out.store (b := W.heap.size) (by omega) (by omega) (by omega) 2 (.int .i64 la))
  have szs : (w3.setCell ⟨W.heap.size, 2, none⟩ (.int .i64 la)).heap.size = w3.heap.size := by simp [World.setCell]
  have b1 := below_box (w3.setCell ⟨W.heap.size, 2, none⟩ (.int .i64 la)) (.cells #[.func (.func 145) #[] #[]] 34)
  have kx2 := (KX.out.upd 2 (.int .i64 la) (by simp) [.string v1, .int .i64 fr, .int .i64 la, .int .i64 0, .int .i64 0, .int .i64 0, .int .i64 0, .int .i64 0, .int .i64 0, .int .i64 0, .string ⟨#[]⟩] rfl).more (.cells #[.func (.func 145) #[] #[]] 34)
  have kb := blk_lit (w3.setCell ⟨W.heap.size, 2, none⟩ (.int .i64 la)) 34 [.func (.func 145) #[] #[]]
  rw [szs] at kb
  have szb : ((w3.setCell ⟨W.heap.size, 2, none⟩ (.int .i64 la)).alloc (.cells #[.func (.func 145) #[] #[]] 34)).heap.size = w3.heap.size + 1 := by simp
  refine (T4.out w3.heap.size _ (hs.below b1) (by omega) kb.one.2.1 (by rw [szb]; omega)).mono ?_
  have gg := (G0.out.store (b := W.heap.size) (Nat.le_refl _) 2 (.int .i64 la)).trans (Gr.of_below b1)
  clear G0 KX
  have G0 := Lib.hid gg
  have KX := Lib.hid kx2
  clear hs b1 kx2 kb gg H3 szs T4 e0 z0 e1 z1 e2 z2 e3 z3 e4 z4 e5 z5 e6 z6 e7 z7 e8 z8 e9 z9 e10 z10
  rintro e w4 (⟨hx, rfl, hb⟩ | ⟨hxx, rfl, hr, hg⟩)
  · exact ⟨rfl, .inl ⟨by rw [orF_no X0.out, orF_no X1.out, orF_no X2.out, orF_no X3.out, orF_yes hx]; exact hx, by rw [orF_no X0.out, orF_no X1.out, orF_no X2.out, orF_no X3.out, orF_yes hx]; exact ⟨rfl, hb⟩⟩⟩
  have X4 := Lib.hid hxx
  have H4 := Lib.hid hr
  have sz4 := hg.size
  rw [szb] at sz4
  have kx := KX.out.gr hg (by omega)
  clear KX
  have KX := Lib.hid kx
  have gg := G0.out.trans hg
  clear G0
  have G0 := Lib.hid gg
  clear hr hg hxx gg szb
  obtain ⟨ltx4, ⟨e0, e1, e2, e3, e4, e5, e6, e7, e8, e9, e10⟩, ⟨z0, z1, z2, z3, z4, z5, z6, z7, z8, z9, z10⟩⟩ := kx.elevenR
  clear kx
  go_wp2_with fail
  have hs := H4.out
  have kx2 := KX.out
  have gg := G0.out
  have szb : w4.heap.size = w4.heap.size := rfl
  refine (T5.out _ hs).mono ?_
  clear G0 KX
  have G0 := Lib.hid gg
  have KX := Lib.hid kx2
  clear hs kx2 gg H4 T5 e0 z0 e1 z1 e2 z2 e3 z3 e4 z4 e5 z5 e6 z6 e7 z7 e8 z8 e9 z9 e10 z10
  rintro e w5 (⟨hx, rfl, hb⟩ | ⟨hxx, rfl, hr, hg⟩)
  · exact ⟨rfl, .inl ⟨by rw [orF_no X0.out, orF_no X1.out, orF_no X2.out, orF_no X3.out, orF_no X4.out, orF_yes hx]; exact hx, by rw [orF_no X0.out, orF_no X1.out, orF_no X2.out, orF_no X3.out, orF_no X4.out, orF_yes hx]; exact ⟨rfl, hb⟩⟩⟩
  have X5 := Lib.hid hxx
  have H5 := Lib.hid hr
  have sz5 := hg.size
  rw [szb] at sz5
  have kx := KX.out.gr hg (by omega)
  clear KX
  have KX := Lib.hid kx
  have gg := G0.out.trans hg
  clear G0
  have G0 := Lib.hid gg
  clear hr hg hxx gg szb
  obtain ⟨ltx5, ⟨e0, e1, e2, e3, e4, e5, e6, e7, e8, e9, e10⟩, ⟨z0, z1, z2, z3, z4, z5, z6, z7, z8, z9, z10⟩⟩ := kx.elevenR
  clear kx
  go_wp2_with fail
  have hs := ((((((H5.out.store (b := W.heap.size) (by omega) (by omega) (by omega) 3 (.int .i64 mo)).store (b := W.heap.size) (by omega) (by omega) (by omega) 4 (.int .i64 ki)).store (b := W.heap.size) (by omega) (by omega) (by omega) 5 (.int .i64 wd)).store (b := W.heap.size) (by omega) (by omega) (by omega) 6 (.int .i64 da)).store (b := W.heap.size) (by omega) (by omega) (by omega) 7 (.int .i64 ti)).store (b := W.heap.size) (by omega) (by omega) (by omega) 8 (.int .i64 re))
  have kx2 := ((((((KX.out.upd 3 (.int .i64 mo) (by simp) [.string v1, .int .i64 fr, .int .i64 la, .int .i64 mo, .int .i64 0, .int .i64 0, .int .i64 0, .int .i64 0, .int .i64 0, .int .i64 0, .string ⟨#[]⟩] rfl).upd 4 (.int .i64 ki) (by simp) [.string v1, .int .i64 fr, .int .i64 la, .int .i64 mo, .int .i64 ki, .int .i64 0, .int .i64 0, .int .i64 0, .int .i64 0, .int .i64 0, .string ⟨#[]⟩] rfl).upd 5 (.int .i64 wd) (by simp) [.string v1, .int .i64 fr, .int .i64 la, .int .i64 mo, .int .i64 ki, .int .i64 wd, .int .i64 0, .int .i64 0, .int .i64 0, .int .i64 0, .string ⟨#[]⟩] rfl).upd 6 (.int .i64 da) (by simp) [.string v1, .int .i64 fr, .int .i64 la, .int .i64 mo, .int .i64 ki, .int .i64 wd, .int .i64 da, .int .i64 0, .int .i64 0, .int .i64 0, .string ⟨#[]⟩] rfl).upd 7 (.int .i64 ti) (by simp) [.string v1, .int .i64 fr, .int .i64 la, .int .i64 mo, .int .i64 ki, .int .i64 wd, .int .i64 da, .int .i64 ti, .int .i64 0, .int .i64 0, .string ⟨#[]⟩] rfl).upd 8 (.int .i64 re) (by simp) [.string v1, .int .i64 fr, .int .i64 la, .int .i64 mo, .int .i64 ki, .int .i64 wd, .int .i64 da, .int .i64 ti, .int .i64 re, .int .i64 0, .string ⟨#[]⟩] rfl)
  have gg := ((((((G0.out.store (b := W.heap.size) (Nat.le_refl _) 3 (.int .i64 mo)).store (b := W.heap.size) (Nat.le_refl _) 4 (.int .i64 ki)).store (b := W.heap.size) (Nat.le_refl _) 5 (.int .i64 wd)).store (b := W.heap.size) (Nat.le_refl _) 6 (.int .i64 da)).store (b := W.heap.size) (Nat.le_refl _) 7 (.int .i64 ti)).store (b := W.heap.size) (Nat.le_refl _) 8 (.int .i64 re))
  have szb : ((((((w5.setCell ⟨W.heap.size, 3, none⟩ (.int .i64 mo)).setCell ⟨W.heap.size, 4, none⟩ (.int .i64 ki)).setCell ⟨W.heap.size, 5, none⟩ (.int .i64 wd)).setCell ⟨W.heap.size, 6, none⟩ (.int .i64 da)).setCell ⟨W.heap.size, 7, none⟩ (.int .i64 ti)).setCell ⟨W.heap.size, 8, none⟩ (.int .i64 re)).heap.size = w5.heap.size := by simp [World.setCell]
  refine (T8.out _ hs).mono ?_
  clear G0 KX
  have G0 := Lib.hid gg
  have KX := Lib.hid kx2
  clear hs kx2 gg H5 T8 e0 z0 e1 z1 e2 z2 e3 z3 e4 z4 e5 z5 e6 z6 e7 z7 e8 z8 e9 z9 e10 z10
  rintro e w8 (⟨hx, rfl, hb⟩ | ⟨hxx, rfl, hr, hg⟩)
  · exact ⟨rfl, .inl ⟨by rw [orF_no X0.out, orF_no X1.out, orF_no X2.out, orF_no X3.out, orF_no X4.out, orF_no X5.out, orF_yes hx]; exact hx, by rw [orF_no X0.out, orF_no X1.out, orF_no X2.out, orF_no X3.out, orF_no X4.out, orF_no X5.out, orF_yes hx]; exact ⟨rfl, hb⟩⟩⟩
  have X8 := Lib.hid hxx
  have H8 := Lib.hid hr
  have sz8 := hg.size
  rw [szb] at sz8
  have kx := KX.out.gr hg (by omega)
  clear KX
  have KX := Lib.hid kx
  have gg := G0.out.trans hg
  clear G0
  have G0 := Lib.hid gg
  clear hr hg hxx gg szb
  obtain ⟨ltx8, ⟨e0, e1, e2, e3, e4, e5, e6, e7, e8, e9, e10⟩, ⟨z0, z1, z2, z3, z4, z5, z6, z7, z8, z9, z10⟩⟩ := kx.elevenR
  clear kx
  go_wp2_with fail
  have hs := (H8.out.store (b := W.heap.size) (by omega) (by omega) (by omega) 9 (.int .i64 sv))
  have kx2 := (KX.out.upd 9 (.int .i64 sv) (by simp) [.string v1, .int .i64 fr, .int .i64 la, .int .i64 mo, .int .i64 ki, .int .i64 wd, .int .i64 da, .int .i64 ti, .int .i64 re, .int .i64 sv, .string ⟨#[]⟩] rfl)
  have gg := (G0.out.store (b := W.heap.size) (Nat.le_refl _) 9 (.int .i64 sv))
  have szb : (w8.setCell ⟨W.heap.size, 9, none⟩ (.int .i64 sv)).heap.size = w8.heap.size := by simp [World.setCell]
  refine (T9.out _ hs).mono ?_
  clear G0 KX
  have G0 := Lib.hid gg
  have KX := Lib.hid kx2
  clear hs kx2 gg H8 T9 e0 z0 e1 z1 e2 z2 e3 z3 e4 z4 e5 z5 e6 z6 e7 z7 e8 z8 e9 z9 e10 z10
  rintro e w9 (⟨hx, rfl, hb⟩ | ⟨hxx, rfl, hr, hg⟩)
  · exact ⟨rfl, .inl ⟨by rw [orF_no X0.out, orF_no X1.out, orF_no X2.out, orF_no X3.out, orF_no X4.out, orF_no X5.out, orF_no X8.out]; exact hx, by rw [orF_no X0.out, orF_no X1.out, orF_no X2.out, orF_no X3.out, orF_no X4.out, orF_no X5.out, orF_no X8.out]; exact ⟨rfl, hb⟩⟩⟩
  have X9 := Lib.hid hxx
  have H9 := Lib.hid hr
  have sz9 := hg.size
  rw [szb] at sz9
  have kx := KX.out.gr hg (by omega)
  clear KX
  have KX := Lib.hid kx
  have gg := G0.out.trans hg
  clear G0
  have G0 := Lib.hid gg
  clear hr hg hxx gg szb
  obtain ⟨ltx9, ⟨e0, e1, e2, e3, e4, e5, e6, e7, e8, e9, e10⟩, ⟨z0, z1, z2, z3, z4, z5, z6, z7, z8, z9, z10⟩⟩ := kx.elevenR
  clear kx
  go_upto_region 10 with (fail)
  have H3 := Lib.hid (H9.out.store (b := W.heap.size) (by omega) (by omega) (by omega) 10 (.string v9))
  have G5 := Lib.hid (G0.out.store (b := W.heap.size) (Nat.le_refl _) 10 (.string v9))
  have kx4 := KX.out.upd 10 (.string v9) (by simp) [.string v1, .int .i64 fr, .int .i64 la, .int .i64 mo, .int .i64 ki, .int .i64 wd, .int .i64 da, .int .i64 ti, .int .i64 re, .int .i64 sv, .string v9] rfl
  have szb : (w9.setCell ⟨W.heap.size, 10, none⟩ (.string v9)).heap.size = w9.heap.size := by simp [World.setCell]
  rw [← szb] at sz9
  clear H9 G0 KX e0 z0 e1 z1 e2 z2 e3 z3 e4 z4 e5 z5 e6 z6 e7 z7 e8 z8 e9 z9 e10 z10 ltx9 szb
  generalize w9.setCell ⟨W.heap.size, 10, none⟩ (.string v9) = w3 at *
  obtain ⟨ltz, ⟨e0, e1, e2, e3, e4, e5, e6, e7, e8, e9, e10⟩, _⟩ := kx4.elevenR
  clear kx4
  have ow := (SA0.out.gr G5.out lt).rules
  rw [HN.out] at ow
  have OW := Lib.hid ow
  clear ow
  obtain ⟨A', n', c', hB2, hW2⟩ := H3.out.at_
  obtain ⟨ltr, ⟨s0, s1, s2, s3, s4, s5, s6⟩, ⟨u0, u1, u2, u3, u4, u5, u6⟩⟩ := hB2.sevenR
  have HB2 := Lib.hid hB2
  clear hB2 hW2
  have NB := Lib.hid (blk_lit w3 57 [.string v1, .int .i64 fr, .int .i64 la, .int .i64 mo, .int .i64 ki, .int .i64 wd, .int .i64 da, .int .i64 ti, .int .i64 re, .int .i64 sv, .string v9])
  have ON := Lib.hid (show ∀ u ∈ ([.string v1, .int .i64 fr, .int .i64 la, .int .i64 mo, .int .i64 ki, .int .i64 wd, .int .i64 da, .int .i64 ti, .int .i64 re, .int .i64 sv, .string v9] : List Value), u.oneCell' = true from fun u hu => by
    simp only [List.mem_cons, List.not_mem_nil, or_false] at hu
    rcases hu with rfl | rfl | rfl | rfl | rfl | rfl | rfl | rfl | rfl | rfl | rfl <;> rfl)
  have Z2 : (Value.agg #[.string ⟨#[]⟩, .int .i64 0, .int .i64 0, .int .i64 0, .int .i64 0, .int .i64 0, .int .i64 0, .int .i64 0, .int .i64 0, .int .i64 0, .string ⟨#[]⟩]).cells.size = 11 := rfl
  have TT := fun (w : World) (ops : Array Oper) (o : Oper) (a : Act) (K : Act → World → Prop) (Q : Exit → Act → World → Prop) (E : Prop) (hgd : o.guard = none) (ho : o.op = Op.call { callee := Callee.builtin Builtin.append, args := #[.tmp 43, .tmp 45], argTypes := #[22, 22] }) => step_append_lies (P := Tryz.prog) w (ops := ops) (a := a) (K := K) (Q := Q) (E := E) hgd (.tmp 43) (.tmp 45) 22 ho hi 57 i0 _ 11 104 Tryz.underlying22 hi0 hz0 hz1 hz2 Z2 (by decide) (.slice Ar nr cr) nr (S.rules.flatMap Rl.vals)
  have HT := Lib.hid TT
  clear TT Z2
  have M1 : nr + 1 ≤ maxLen := by unfold maxLen; omega
  have M2 : (nr + 1) * 104 ≤ 140737488355328 := by omega
  have M3 : hi ≤ w3.heap.size + 1 := by omega
  have NE := Lib.hid (fun (X w4 : World) (g cap : Nat) (HX : Below w3.heap.size w3 X) (hX : X.heap.size = w3.heap.size + 1) (hown : w4.ownsRow hi 57 11 (.slice (some ⟨g, 0, none⟩) (nr + 1) cap) (nr + 1) (S.rules.flatMap Rl.vals ++ [.string v1, .int .i64 fr, .int .i64 la, .int .i64 mo, .int .i64 ki, .int .i64 wd, .int .i64 da, .int .i64 ti, .int .i64 re, .int .i64 sv, .string v9])) (hgrow : X.grownBy w4 (Value.slice Ar nr cr).ownBlock) (hat : (Value.slice Ar nr cr).ownBlock = some g ∨ g = w3.heap.size + 1) =>
    grew_rule G5.out SA0.out lt (by omega) HN.out HB2.out HX hX ⟨v1, fr, la, ⟨mo, ki, wd, da, ti, re⟩, sv, v9⟩ g cap hown hgrow hat)
  have FIN := Lib.hid (fun (w4 : World) (g cap : Nat) (k : Blk w4 R (rdVals (.slice Ar nr cr) vz vl ln st en (.slice A' n' c'))) (SA : SrcAt w4 hi ⟨S.rules ++ [⟨v1, fr, la, ⟨mo, ki, wd, da, ti, re⟩, sv, v9⟩], S.zones, S.links⟩ (.slice (some ⟨g, 0, none⟩) (nr + 1) cap) vz vl) (K : Keep hi R W w4) => Rds.stored ge lt (by omega) HBW.out 0 (.slice (some ⟨g, 0, none⟩) (nr + 1) cap) k (by simp [rdVals]) rfl SA K)
  go_region_law ((refine HT.out _ _ _ _ _ _ _ (by rfl) (by rfl) (by rfl) (by repeat (first | with_reducible exact OW.out | with_reducible refine World.ownsRow.drew ?_ | with_reducible refine World.ownsRow.alloc ?_ _)) ⟨w3.heap.size, 0, none⟩ 1 1 [.string v1, .int .i64 fr, .int .i64 la, .int .i64 mo, .int .i64 ki, .int .i64 wd, .int .i64 da, .int .i64 ti, .int .i64 re, .int .i64 sv, .string v9] (by rfl) rfl (blk_news (by repeat (first | with_reducible exact NB.out | with_reducible refine Blk.drew ?_))) ON.out (by decide) M1 M2 (by simpa using M3) (w3.heap.size + 1) (by simp) ?_; intro g cap w4 hown hgrow hat hlt; obtain ⟨k4, sa4, kp4⟩ := NE.out _ w4 g cap (by repeat (first | with_reducible exact Below.refl _ _ | with_reducible refine Below.drew ?_ | with_reducible refine Below.alloc ?_ (Nat.le_refl _) _)) (by simp) hown hgrow hat; have F4 := Lib.hid (FIN.out w4 g cap k4 sa4 kp4); obtain ⟨lt4, ⟨q0, _, _, _⟩, ⟨z0, _, _, _⟩⟩ := k4.sevenR; clear sa4 kp4 k4 hown hgrow hat))
  all_goals go_wp2
  all_goals go_end0
  all_goals exact .inr ⟨by rw [orF_no X0.out, orF_no X1.out, orF_no X2.out, orF_no X3.out, orF_no X4.out, orF_no X5.out, orF_no X8.out]; exact X9.out, rfl, _, _, _, _, F4.out.1, F4.out.2⟩
section
variable {w0 : World} {R : Nat} {V : World} {vr vz vl : Value} {ln st en : Int}
theorem tkI {K : FuncId} {t : ByteArray} {v x : Int} (eK : ∀ args w, (callFunc K args).run Tryz.prog w = .ok (.enter K args) w) (RF : ∀ W', Below w0.heap.size w0 W' → Calls Tryz.prog K #[.string t] W' (RetNN W' v x)) (a : Int) (l : List (ByteArray × Int)) : TkI w0 R V vr vz vl ln st en K t a l v x :=
  fun X h => takeI w0 R vr vz vl ln st en t a l K #[] v x eK V X h fun W' _ hb => RF W' hb
theorem tk_off {t : ByteArray} (ht : t.size ≤ 1000) (a : Int) (l : List (ByteArray × Int)) : TkI w0 R V vr vz vl ln st en 137 t a l (offN t 86400).1 (offN t 86400).2 :=
  tkI (enters_of Tryz.func137 (by kernel_rfl) rfl) (fun W' _ => offsetSP t (by omega) W') a l
theorem tk_sav {t : ByteArray} (ht : t.size ≤ 1000) (a : Int) (l : List (ByteArray × Int)) : TkI w0 R V vr vz vl ln st en 146 t a l (offN t 43200).1 (offN t 43200).2 :=
  tkI (enters_of Tryz.func146 (by kernel_rfl) rfl) (fun W' _ => savingP t (by omega) W') a l
theorem tk_yr (E : Errs w0) {t : ByteArray} (ht : t.size ≤ 1000) (a : Int) (l : List (ByteArray × Int)) : TkI w0 R V vr vz vl ln st en 142 t a l (yrRes t).1 (yrRes t).2 :=
  tkI (enters_of Tryz.func142 (by kernel_rfl) rfl) (fun W' hb => yearP t (by omega) W' (E.mono hb)) a l
theorem tk_es {t : ByteArray} (ht : t.size ≤ 1000) (a : Int) (l : List (ByteArray × Int)) : TkE w0 R V vr vz vl ln st en 139 t a l (esRes t).1 (esRes t).2.1 (esRes t).2.2.1 (esRes t).2.2.2 :=
  fun X h => takeE w0 R vr vz vl ln st en t a l 139 #[] 0 (esRes t).1 (esRes t).2.1 (esRes t).2.2.1 ⟨#[]⟩ false 0 0 0 0 0 0 0 (esRes t).2.2.2 (enters_of Tryz.func139 (by kernel_rfl) rfl) V X h fun W' _ _ => eraSavingP t (by omega) W'
theorem tk_let {t : ByteArray} (ht : t.size ≤ 1000) (a : Int) (l : List (ByteArray × Int)) : TkS w0 R V vr vz vl ln st en 147 t a l (letRes t).1 (letRes t).2 :=
  fun X h => takeS w0 R vr vz vl ln st en t a l 147 #[] (letRes t).1 (letRes t).2 (enters_of Tryz.func147 (by kernel_rfl) rfl) V X h fun W' _ _ => ruleLetterP t (by omega) W'
theorem gr_cell {X W' : World} {g : Nat} (gr : Gr R X W') (ne : g ≠ R) (lt : g < X.heap.size) {v : Value} (hg : X.cell? ⟨g, 0, none⟩ = some v) : W'.cell? ⟨g, 0, none⟩ = some v :=
  (World.cell?_of_block (w := X) (a := ⟨g, 0, none⟩) (gr.block g lt fun c => ne (by cases c; rfl))).trans hg
theorem tkN {K : FuncId} {t : ByteArray} {b : Bool} (eK : ∀ args w, (callFunc K args).run Tryz.prog w = .ok (.enter K args) w) (KF : KindF K t b) (a : Int) (l : List (ByteArray × Int)) : TkN w0 R V vr vz vl ln st en K t a l (t6 b t) (e6 b) :=
  fun g X h ne hg lt => takeS w0 R vr vz vl ln st en t a l 163 #[.pointer (some ⟨g, 0, none⟩)] (t6 b t) (e6 b) (enters_of Tryz.func163 (by kernel_rfl) rfl) V X h fun W' gr _ => name1P K eK t b KF g W' (gr_cell gr ne lt hg)
theorem tk_set {t : ByteArray} (ht : t.size ≤ 1000) (a : Int) (l : List (ByteArray × Int)) : TkN w0 R V vr vz vl ln st en 18 t a l (t6 (setB t) t) (e6 (setB t)) := tkN (enters_of Tryz.func18 (by kernel_rfl) rfl) (kind_set (by unfold maxLen; omega)) a l
theorem tk_place {t : ByteArray} (ht : t.size ≤ 1000) (a : Int) (l : List (ByteArray × Int)) : TkN w0 R V vr vz vl ln st en 20 t a l (t6 (placeB t) t) (e6 (placeB t)) := tkN (enters_of Tryz.func20 (by kernel_rfl) rfl) (kind_place (by unfold maxLen; omega)) a l
theorem tk_fmt {t : ByteArray} (ht : t.size ≤ 1000) (a : Int) (l : List (ByteArray × Int)) : TkN w0 R V vr vz vl ln st en 97 t a l (t6 (formatB t) t) (e6 (formatB t)) := tkN (enters_of Tryz.func97 (by kernel_rfl) rfl) (kind_format (by unfold maxLen; omega)) a l
theorem tk_dash (t : ByteArray) (a : Int) (l : List (ByteArray × Int)) : TkN w0 R V vr vz vl ln st en 145 t a l (t6 (decide (t = dashT)) t) (e6 (decide (t = dashT))) := tkN (enters_of Tryz.func145 (by kernel_rfl) rfl) (kind_dash t) a l
theorem tk_last (E : Errs w0) (n : Int) {t : ByteArray} (ht : t.size ≤ 1000) (a : Int) (l : List (ByteArray × Int)) : TkL w0 R V vr vz vl ln st en n t a l (lastRes n t).1 (lastRes n t).2 :=
  fun g X h ne hg lt => takeI w0 R vr vz vl ln st en t a l 166 #[.pointer (some ⟨g, 0, none⟩)] (lastRes n t).1 (lastRes n t).2 (enters_of Tryz.func166 (by kernel_rfl) rfl) V X h fun W' gr hb => last1P n t (by omega) g W' (E.mono hb) (gr_cell gr ne lt hg)
theorem tk_spot (M : Mom w0) (l : List (ByteArray × Int)) (m : Nat) (hm : m ≤ l.length) (hm3 : m ≤ 3) (hz : ∀ x ∈ l, x.1.size ≤ 1000) (x : Sp) (hx : (parseRes (txts (l.take m))).1 = x) : TkP w0 R V vr vz vl ln st en l (l.drop m) m (spFlt l m ln) x.mo x.ki x.wd x.da x.ti x.re := fun X h => by
  subst hx
  exact spotP w0 M R vr vz vl ln st en l m hm hm3 hz V X h
end
theorem e6_same (b : Bool) (ln a : Int) : Flt.same (e6 b, ln, a) (chk b (6, ln, a)) := by
  cases b
  · exact .inl rfl
  · exact .inr ⟨rfl, rfl⟩
theorem e6_yes {b : Bool} (h : e6 b = 0) : b = true := by
  cases b
  · exact absurd h (by decide)
  · rfl
theorem yr_same (t : ByteArray) (ln a : Int) : Flt.same ((yrRes t).2, ln, a) (chk (decide (¬ yearN t = 0)) (6, ln, a)) := by
  unfold yrRes
  by_cases h : yearN t = 0
  · rw [chk_no _ (decide_eq_false fun c => c h)]
    exact .inl (by dsimp only; rw [if_pos h])
  · rw [chk_yes _ (decide_eq_true h)]
    exact .inr ⟨by dsimp only; rw [if_neg h], rfl⟩
theorem es_same (t : ByteArray) (ln a : Int) : Flt.same ((esRes t).2.2.2, ln, a) (eraSave t ln a) := by
  unfold esRes eraSave
  by_cases h : t = dashT
  · rw [if_pos h, if_pos h]; exact .inr ⟨rfl, rfl⟩
  rw [if_neg h, if_neg h]
  by_cases k : namely t = true
  · rw [if_pos k, if_pos (show begunB t = true from k)]; exact e6_same _ _ _
  · rw [if_neg k, if_neg (show ¬ begunB t = true from k)]; exact .inl rfl
theorem es_val {t : ByteArray} (h : (esRes t).2.2.2 = 0) : (esRes t).1 = eraKind t ∧ (esRes t).2.1 = (if eraKind t = 1 then (offN t 43200).1 else 0) ∧ (esRes t).2.2.1 = (if eraKind t = 2 then t else ⟨#[]⟩) := by
  unfold esRes eraKind at *
  by_cases d : t = dashT
  · rw [if_pos d, if_pos d]; exact ⟨rfl, rfl, rfl⟩
  rw [if_neg d] at h
  rw [if_neg d, if_neg d]
  by_cases k : namely t = true
  · rw [if_pos (show begunB t = true from k)] at h
    rw [if_pos k, if_pos (show begunB t = true from k)]
    refine ⟨rfl, rfl, ?_⟩
    show t6 (setB t) t = t
    rw [e6_yes h]; rfl
  · rw [if_neg k, if_neg (show ¬ begunB t = true from k)]; exact ⟨rfl, rfl, rfl⟩
theorem sp_same (l sp : List (ByteArray × Int)) (f : Nat) (ln : Int) (e : TX l f 3 = txts (sp.take sp.length)) (d : ∀ k, fa sp k = fa l (f + k)) : (spFlt sp sp.length ln).same (spotRes l f ln).2 ∧ ((spFlt sp sp.length ln).1 = 0 → (parseRes (txts (sp.take sp.length))).1 = (spotRes l f ln).1) := by
  unfold spFlt spotRes
  rw [e]
  by_cases h : (parseRes (txts (sp.take sp.length))).2.2 = 0
  · rw [if_pos h]; exact ⟨.inr ⟨h, rfl⟩, fun _ => rfl⟩
  · rw [if_neg h]
    exact ⟨.inl (by rw [d]; rfl), fun c => absurd c h⟩
theorem fa_drop (l : List (ByteArray × Int)) (i k : Nat) : fa (l.drop i) k = fa l (i + k) := by
  unfold fa
  rw [List.getD_eq_getElem?_getD, List.getD_eq_getElem?_getD, List.getElem?_drop]
theorem fx_drop (l : List (ByteArray × Int)) (i k : Nat) : fx (l.drop i) k = fx l (i + k) := by
  unfold fx
  rw [List.getD_eq_getElem?_getD, List.getD_eq_getElem?_getD, List.getElem?_drop]
end Go.Proofs.YtnkmlfbnfndfpaaGreatDoor
namespace Go.Proofs.YtnkmlfbnfndfpaaGreatDoor
open Go.RowKit
theorem tx_sp (x0 x1 x2 x3 : ByteArray × Int) (sp : List (ByteArray × Int)) (h : sp.length ≤ 3) : TX (x0 :: x1 :: x2 :: x3 :: sp) 4 3 = txts (sp.take sp.length) := by
  match sp, h with
  | [], _ => rfl
  | [_], _ => rfl
  | [_, _], _ => rfl
  | [_, _, _], _ => rfl
  | _ :: _ :: _ :: _ :: _, h => exact absurd h (by simp)
section
variable {w0 : World} {R : Nat} {V : World} {vr vz vl : Value} {ln st en : Int}
theorem t6_yes {b : Bool} {t : ByteArray} (h : e6 b = 0) : t6 b t = t := by rw [e6_yes h]; rfl
theorem eraC_short (t0 t1 t2 : ByteArray) (a0 a1 a2 : Int) (h0 : t0.size ≤ 1000) (h1 : t1.size ≤ 1000) (h2 : t2.size ≤ 1000) :
    ∃ (F : Flt) (x : Er), ErC w0 R V vr vz vl ln st en [(t0, a0), (t1, a1), (t2, a2)] F x ∧ F.same (eraFlt [(t0, a0), (t1, a1), (t2, a2)] 0 ln) ∧ (F.1 = 0 → x = eraVal [(t0, a0), (t1, a1), (t2, a2)] 0 ln) := by
  refine ⟨_, ⟨(offN t0 86400).1, (esRes t1).1, (esRes t1).2.1, (esRes t1).2.2.1, t6 (formatB t2) t2, false, 0, .zero⟩, fun X h => era_short w0 R V vr vz vl ln st en t0 t1 t2 a0 a1 a2 _ _ _ _ _ _ _ _ (Lib.hid (tk_off h0 a0 _)) (Lib.hid (tk_es h1 a1 _)) (Lib.hid (tk_fmt h2 a2 _)) X h, ?_, ?_⟩
  · have e : eraFlt [(t0, a0), (t1, a1), (t2, a2)] 0 ln = orF ((offN t0 86400).2, ln, a0) (orF (eraSave t1 ln a1) (orF (chk (formatB t2) (6, ln, a2)) Flt.no)) := rfl
    rw [e]
    refine (Flt.same.refl _).or ((es_same t1 ln a1).or ?_)
    have := e6_same (formatB t2) ln a2
    cases q : formatB t2
    · rw [q] at this; exact this
    · exact .inr ⟨rfl, rfl⟩
  · intro z
    obtain ⟨z0, z'⟩ := orF_zero.1 z
    obtain ⟨z1, z2⟩ := orF_zero.1 z'
    obtain ⟨k1, k2, k3⟩ := es_val z1
    have e : eraVal [(t0, a0), (t1, a1), (t2, a2)] 0 ln = ⟨(offN t0 86400).1, eraKind t1, if eraKind t1 = 1 then (offN t1 43200).1 else 0, if eraKind t1 = 2 then t1 else ⟨#[]⟩, t2, false, 0, .zero⟩ := rfl
    rw [e, k1, k2, k3, t6_yes z2]
theorem eraC_long (M : Mom w0) (E : Errs w0) (t0 t1 t2 t3 : ByteArray) (a0 a1 a2 a3 : Int) (sp : List (ByteArray × Int)) (hs : sp.length ≤ 3) (h0 : t0.size ≤ 1000) (h1 : t1.size ≤ 1000) (h2 : t2.size ≤ 1000) (h3 : t3.size ≤ 1000) (hz : ∀ x ∈ sp, x.1.size ≤ 1000) :
    ∃ (F : Flt) (x : Er), ErC w0 R V vr vz vl ln st en ((t0, a0) :: (t1, a1) :: (t2, a2) :: (t3, a3) :: sp) F x ∧ F.same (eraFlt ((t0, a0) :: (t1, a1) :: (t2, a2) :: (t3, a3) :: sp) 0 ln) ∧ (F.1 = 0 → x = eraVal ((t0, a0) :: (t1, a1) :: (t2, a2) :: (t3, a3) :: sp) 0 ln) := by
  have T5 := tk_spot (R := R) (V := V) (vr := vr) (vz := vz) (vl := vl) (ln := ln) (st := st) (en := en) M sp sp.length (Nat.le_refl _) hs hz _ rfl
  rw [List.drop_length] at T5
  obtain ⟨s1, s2⟩ := sp_same ((t0, a0) :: (t1, a1) :: (t2, a2) :: (t3, a3) :: sp) sp 4 ln (tx_sp _ _ _ _ sp hs) (fun k => fa_drop ((t0, a0) :: (t1, a1) :: (t2, a2) :: (t3, a3) :: sp) 4 k)
  have hl : 0 + 3 < ((t0, a0) :: (t1, a1) :: (t2, a2) :: (t3, a3) :: sp).length := by simp
  refine ⟨_, ⟨(offN t0 86400).1, (esRes t1).1, (esRes t1).2.1, (esRes t1).2.2.1, t6 (formatB t2) t2, true, (yrRes t3).1, (parseRes (txts (sp.take sp.length))).1⟩, fun X h => era_long w0 R V vr vz vl ln st en t0 t1 t2 a0 a1 a2 t3 a3 sp _ _ _ _ _ _ _ _ _ _ _ _ _ _ _ _ _ (Lib.hid (tk_yr E h3 a3 sp)) (Lib.hid T5) (Lib.hid (tk_off h0 a0 _)) (Lib.hid (tk_es h1 a1 _)) (Lib.hid (tk_fmt h2 a2 _)) X h, ?_, ?_⟩
  · have e : eraFlt ((t0, a0) :: (t1, a1) :: (t2, a2) :: (t3, a3) :: sp) 0 ln = orF ((offN t0 86400).2, ln, a0) (orF (eraSave t1 ln a1) (orF (chk (formatB t2) (6, ln, a2)) (orF (chk (decide (¬ yearN t3 = 0)) (6, ln, a3)) (spotRes ((t0, a0) :: (t1, a1) :: (t2, a2) :: (t3, a3) :: sp) 4 ln).2))) := by
      unfold eraFlt
      rw [if_pos hl]
      rfl
    rw [e]
    exact (Flt.same.refl _).or ((es_same t1 ln a1).or ((e6_same _ _ _).or ((yr_same t3 ln a3).or s1)))
  · intro z
    obtain ⟨z0, z'⟩ := orF_zero.1 z
    obtain ⟨z1, z''⟩ := orF_zero.1 z'
    obtain ⟨z2, z3⟩ := orF_zero.1 z''
    obtain ⟨z4, z5⟩ := orF_zero.1 z3
    obtain ⟨k1, k2, k3⟩ := es_val z1
    have e : eraVal ((t0, a0) :: (t1, a1) :: (t2, a2) :: (t3, a3) :: sp) 0 ln = ⟨(offN t0 86400).1, eraKind t1, if eraKind t1 = 1 then (offN t1 43200).1 else 0, if eraKind t1 = 2 then t1 else ⟨#[]⟩, t2, true, yearN t3, (spotRes ((t0, a0) :: (t1, a1) :: (t2, a2) :: (t3, a3) :: sp) 4 ln).1⟩ := by
      unfold eraVal
      rw [if_pos hl, if_pos hl, decide_eq_true hl]
      rfl
    rw [e, k1, k2, k3, t6_yes z2, s2 z5]
    rfl
theorem eraC (M : Mom w0) (E : Errs w0) (l : List (ByteArray × Int)) (hz : ∀ x ∈ l, x.1.size ≤ 1000) (l3 : 3 ≤ l.length) (l7 : l.length ≤ 7) :
    ∃ (F : Flt) (x : Er), ErC w0 R V vr vz vl ln st en l F x ∧ F.same (eraFlt l 0 ln) ∧ (F.1 = 0 → x = eraVal l 0 ln) := by
  match l, hz, l3, l7 with
  | [], _, h, _ => exact absurd h (by decide)
  | [_], _, h, _ => exact absurd h (by simp)
  | [_, _], _, h, _ => exact absurd h (by simp)
  | [(t0, a0), (t1, a1), (t2, a2)], hz, _, _ => exact eraC_short t0 t1 t2 a0 a1 a2 (hz (t0, a0) (by simp)) (hz (t1, a1) (by simp)) (hz (t2, a2) (by simp))
  | (t0, a0) :: (t1, a1) :: (t2, a2) :: (t3, a3) :: sp, hz, _, h7 => exact eraC_long M E t0 t1 t2 t3 a0 a1 a2 a3 sp (by simp at h7; omega) (hz (t0, a0) (by simp)) (hz (t1, a1) (by simp)) (hz (t2, a2) (by simp)) (hz (t3, a3) (by simp)) (fun x hx => hz x (by simp [hx]))
end
theorem TX_drop (l : List (ByteArray × Int)) (i f : Nat) : ∀ m, TX (l.drop i) f m = TX l (i + f) m
  | 0 => rfl
  | m + 1 => by
    unfold TX
    rw [TX_drop l i f m]
    congr 1
    by_cases h : f + m < (l.drop i).length
    · have h' : i + f + m < l.length := by rw [List.length_drop] at h; omega
      rw [dif_pos h, dif_pos h']
      have : (l.drop i)[f + m] = l[i + f + m] := by rw [List.getElem_drop]; congr 1; omega
      rw [this]
    · have h' : ¬ i + f + m < l.length := by rw [List.length_drop] at h; omega
      rw [dif_neg h, dif_neg h']
theorem spot_drop (l : List (ByteArray × Int)) (i f : Nat) (ln : Int) : spotRes (l.drop i) f ln = spotRes l (i + f) ln := by
  unfold spotRes
  rw [TX_drop]
  by_cases h : (parseRes (TX l (i + f) 3)).2.2 = 0
  · rw [if_pos h, if_pos h]
  · rw [if_neg h, if_neg h]
    have := fa_drop l i (f + (parseRes (TX l (i + f) 3)).2.1.toNat)
    unfold fa at this
    rw [this, Nat.add_assoc]
theorem eraFlt_drop (l : List (ByteArray × Int)) (i : Nat) (ln : Int) : eraFlt (l.drop i) 0 ln = eraFlt l i ln := by
  unfold eraFlt
  rw [fx_drop, fx_drop, fx_drop, fx_drop, fa_drop, fa_drop, fa_drop, fa_drop, spot_drop]
  have e : (0 + 3 < (l.drop i).length) ↔ (i + 3 < l.length) := by rw [List.length_drop]; omega
  simp only [e, Nat.zero_add, Nat.add_zero]
theorem eraVal_drop (l : List (ByteArray × Int)) (i : Nat) (ln : Int) : eraVal (l.drop i) 0 ln = eraVal l i ln := by
  unfold eraVal
  rw [fx_drop, fx_drop, fx_drop, fx_drop, spot_drop]
  have e : (0 + 3 < (l.drop i).length) ↔ (i + 3 < l.length) := by rw [List.length_drop]; omega
  simp only [e, Nat.zero_add, Nat.add_zero]
end Go.Proofs.YtnkmlfbnfndfpaaGreatDoor
namespace Go.Proofs.YtnkmlfbnfndfpaaGreatDoor
open Go.RowKit
theorem rule_bad (w0 : World) (R : Nat) (V : World) (vz vl : Value) (A0 : Option Addr) (n0 c0 : Nat) (ln st en : Int) (l : List (ByteArray × Int)) (bad : ¬ (szFlt l en ln 9 9).1 = 0)
    (W : World) (h : Rdr w0 R V (.slice A0 n0 c0) vz vl ln st en l W) :
    Calls Tryz.prog 111 #[.pointer (some ⟨R, 0, none⟩)] W (Out w0 (orF (chk (decide ((n0 : Int) < 200)) (12, ln, st)) (szFlt l en ln 9 9)) fun _ _ => False) := by
  have RM := Lib.hid (fun X => roomP w0 R (.slice A0 n0 c0) vz vl ln st en l n0 200 V X)
  have SZ := Lib.hid (fun X => sizedP w0 R (.slice A0 n0 c0) vz vl ln st en l 9 9 (by decide) (by decide) V X)
  have BD := Lib.hid bad
  have H0 := Lib.hid h
  obtain ⟨A, n, c, hB, hW⟩ := h.at_
  obtain ⟨ltR, ⟨c0', c1, c2, c3, c4, c5, c6⟩, _⟩ := hB.sevenR
  clear h hB hW bad
  generalize szFlt l en ln 9 9 = F at *
  go_enter Tryz.func111, Tryz.ntmps111
  go_wp2_with fail
  refine (RM.out _ H0.out).mono ?_
  rintro e w1 (⟨hx, rfl, hb⟩ | ⟨hx0, rfl, rfl⟩)
  · exact ⟨rfl, .inl ⟨by rw [orF_yes hx]; exact hx, by rw [orF_yes hx]; exact ⟨rfl, hb⟩⟩⟩
  have X0 := Lib.hid hx0
  clear hx0 RM
  go_wp2_with fail
  refine (SZ.out _ H0.out).mono ?_
  rintro e w1 (⟨hx, rfl, hb⟩ | ⟨hx0, rfl, rfl⟩)
  · exact ⟨rfl, .inl ⟨by rw [orF_no X0.out]; exact hx, by rw [orF_no X0.out]; exact ⟨rfl, hb⟩⟩⟩
  exact absurd hx0 BD.out
theorem zone_bad (w0 : World) (R : Nat) (V : World) (vr vl : Value) (A0 : Option Addr) (n0 c0 : Nat) (ln st en : Int) (l : List (ByteArray × Int)) (bad : ¬ (szFlt l en ln 4 8).1 = 0)
    (W : World) (h : Rdr w0 R V vr (.slice A0 n0 c0) vl ln st en l W) :
    Calls Tryz.prog 112 #[.pointer (some ⟨R, 0, none⟩)] W (Out w0 (orF (chk (decide ((n0 : Int) < 50)) (12, ln, st)) (szFlt l en ln 4 8)) fun _ _ => False) := by
  have RM := Lib.hid (fun X => roomP w0 R vr (.slice A0 n0 c0) vl ln st en l n0 50 V X)
  have SZ := Lib.hid (fun X => sizedP w0 R vr (.slice A0 n0 c0) vl ln st en l 4 8 (by decide) (by decide) V X)
  have BD := Lib.hid bad
  have H0 := Lib.hid h
  obtain ⟨A, n, c, hB, hW⟩ := h.at_
  obtain ⟨ltR, ⟨c0', c1, c2, c3, c4, c5, c6⟩, _⟩ := hB.sevenR
  clear h hB hW bad
  generalize szFlt l en ln 4 8 = F at *
  go_enter Tryz.func112, Tryz.ntmps112
  go_wp2_with fail
  refine (RM.out _ H0.out).mono ?_
  rintro e w1 (⟨hx, rfl, hb⟩ | ⟨hx0, rfl, rfl⟩)
  · exact ⟨rfl, .inl ⟨by rw [orF_yes hx]; exact hx, by rw [orF_yes hx]; exact ⟨rfl, hb⟩⟩⟩
  have X0 := Lib.hid hx0
  clear hx0 RM
  go_wp2_with fail
  refine (SZ.out _ H0.out).mono ?_
  rintro e w1 (⟨hx, rfl, hb⟩ | ⟨hx0, rfl, rfl⟩)
  · exact ⟨rfl, .inl ⟨by rw [orF_no X0.out]; exact hx, by rw [orF_no X0.out]; exact ⟨rfl, hb⟩⟩⟩
  exact absurd hx0 BD.out
theorem link_bad (w0 : World) (R : Nat) (V : World) (vr vz : Value) (A0 : Option Addr) (n0 c0 : Nat) (ln st en : Int) (l : List (ByteArray × Int)) (bad : ¬ (szFlt l en ln 2 2).1 = 0)
    (W : World) (h : Rdr w0 R V vr vz (.slice A0 n0 c0) ln st en l W) :
    Calls Tryz.prog 113 #[.pointer (some ⟨R, 0, none⟩)] W (Out w0 (orF (chk (decide ((n0 : Int) < 100)) (12, ln, st)) (szFlt l en ln 2 2)) fun _ _ => False) := by
  have RM := Lib.hid (fun X => roomP w0 R vr vz (.slice A0 n0 c0) ln st en l n0 100 V X)
  have SZ := Lib.hid (fun X => sizedP w0 R vr vz (.slice A0 n0 c0) ln st en l 2 2 (by decide) (by decide) V X)
  have BD := Lib.hid bad
  have H0 := Lib.hid h
  obtain ⟨A, n, c, hB, hW⟩ := h.at_
  obtain ⟨ltR, ⟨c0', c1, c2, c3, c4, c5, c6⟩, _⟩ := hB.sevenR
  clear h hB hW bad
  generalize szFlt l en ln 2 2 = F at *
  go_enter Tryz.func113, Tryz.ntmps113
  go_wp2_with fail
  refine (RM.out _ H0.out).mono ?_
  rintro e w1 (⟨hx, rfl, hb⟩ | ⟨hx0, rfl, rfl⟩)
  · exact ⟨rfl, .inl ⟨by rw [orF_yes hx]; exact hx, by rw [orF_yes hx]; exact ⟨rfl, hb⟩⟩⟩
  have X0 := Lib.hid hx0
  clear hx0 RM
  go_wp2_with fail
  refine (SZ.out _ H0.out).mono ?_
  rintro e w1 (⟨hx, rfl, hb⟩ | ⟨hx0, rfl, rfl⟩)
  · exact ⟨rfl, .inl ⟨by rw [orF_no X0.out]; exact hx, by rw [orF_no X0.out]; exact ⟨rfl, hb⟩⟩⟩
  exact absurd hx0 BD.out
theorem further_bad (w0 : World) (R gz q cz : Nat) (V : World) (vr vl : Value) (Ae : Option Addr) (ne ce : Nat) (ln st en : Int) (l : List (ByteArray × Int)) (bad : ¬ (szFlt l en ln 3 7).1 = 0)
    (W : World) (h : Rdr w0 R V vr (.slice (some ⟨gz, 0, none⟩) (q + 1) cz) vl ln st en l W) (q9 : q ≤ 1000) (ltz : gz < W.heap.size) (zc2 : W.cell? ⟨gz, q * 2 + 1, none⟩ = some (.slice Ae ne ce)) :
    Calls Tryz.prog 76 #[.pointer (some ⟨R, 0, none⟩)] W (Out w0 (orF (chk (decide ((ne : Int) < 40)) (12, ln, st)) (szFlt l en ln 3 7)) fun _ _ => False) := by
  have RM := Lib.hid (fun X => roomP w0 R vr (.slice (some ⟨gz, 0, none⟩) (q + 1) cz) vl ln st en l ne 40 V X)
  have SZ := Lib.hid (fun X => sizedP w0 R vr (.slice (some ⟨gz, 0, none⟩) (q + 1) cz) vl ln st en l 3 7 (by decide) (by decide) V X)
  have BD := Lib.hid bad
  have H0 := Lib.hid h
  obtain ⟨A, n, c, hB, hW⟩ := h.at_
  obtain ⟨ltR, ⟨c0, c1, c2, c3, c4, c5, c6⟩, _⟩ := hB.sevenR
  have wr1 : wrap64 (((q : Int) + 1) - 1) = (q : Int) := by unfold wrap64; omega
  have wr2 : IntKind.i64.wrap (((q : Int) + 1) - 1) = (q : Int) := by rw [IntWalk.i64_in _ (by omega)]; omega
  clear h hB hW bad
  generalize szFlt l en ln 3 7 = F at *
  go_enter Tryz.func76, Tryz.ntmps76
  go_wp2_with fail
  go_quiet (fail)
  have hb0 := below_drewN (Below.refl W.heap.size W) nq
  have H1 := Lib.hid (H0.out.below hb0)
  have zc3 := (hb0.cell (p := ⟨gz, q * 2 + 1, none⟩) ltz).trans zc2
  clear hb0 H0 zc2 c0 c1 c2 c3 c4 c5 c6
  generalize W.drewN nq = W1 at *
  go_wp2_with fail
  refine (RM.out _ H1.out).mono ?_
  rintro e w1 (⟨hx, rfl, hb⟩ | ⟨hx0, rfl, rfl⟩)
  · exact ⟨rfl, .inl ⟨by rw [orF_yes hx]; exact hx, by rw [orF_yes hx]; exact ⟨rfl, hb⟩⟩⟩
  have X0 := Lib.hid hx0
  clear hx0 RM
  go_wp2_with fail
  refine (SZ.out _ H1.out).mono ?_
  rintro e w1 (⟨hx, rfl, hb⟩ | ⟨hx0, rfl, rfl⟩)
  · exact ⟨rfl, .inl ⟨by rw [orF_no X0.out]; exact hx, by rw [orF_no X0.out]; exact ⟨rfl, hb⟩⟩⟩
  exact absurd hx0 BD.out
theorem Out.to {w0 W : World} {f g : Flt} {ok ok' : Ending → World → Prop} {e : Ending} (o : Out w0 f ok e W) (s : f.same g) (k : f.1 = 0 → ok e W → ok' e W) : Out w0 g ok' e W :=
  Out.same s (o.imp id fun ⟨h, q⟩ => ⟨h, k h q⟩)
theorem Flt.same.or_if {a a' b b' : Flt} (h : a.same a') (k : a.1 = 0 → b.same b') : (orF a b).same (orF a' b') := by
  by_cases z : a.1 = 0
  · exact h.or (k z)
  · have z' : ¬ a'.1 = 0 := fun c => z (h.zero.2 c)
    rw [orF_yes z, orF_yes z']
    exact h
theorem Out.bad {w0 W : World} {a b c : Flt} {ok : Ending → World → Prop} {e : Ending} (hb : ¬ b.1 = 0) (o : Out w0 (orF a b) (fun _ _ => False) e W) : Out w0 (orF a (orF b c)) ok e W := by
  rw [orF_yes hb]
  exact o.imp id fun h => h.2.elim
theorem sz_fits {l : List (ByteArray × Int)} {en ln : Int} {x y : Nat} (h : (szFlt l en ln x y).1 = 0) : x ≤ l.length ∧ l.length ≤ y := by
  unfold szFlt at h
  by_cases a : l.length < x
  · rw [if_pos a] at h; exact absurd h (by show ¬ (14 : Int) = 0; decide)
  rw [if_neg a] at h
  by_cases b : y < l.length
  · rw [if_pos b] at h; exact absurd h (by show ¬ (15 : Int) = 0; decide)
  omega
theorem fa_at {r : List (ByteArray × Int)} {j : Nat} (h : j < r.length) : fa r j = r[j].2 := by
  unfold fa
  rw [List.getD_eq_getElem?_getD, List.getElem?_eq_getElem h]
  rfl
theorem sz_count (ws : List (ByteArray × Int)) (all : ByteArray) (ln : Int) (i x y : Nat) (hi : i ≤ ws.length) : szFlt (ws.drop i) (all.size : Int) ln x y = countRes ws all ln (x + i) (y + i) := by
  unfold szFlt countRes
  rw [List.length_drop]
  by_cases a : ws.length - i < x
  · rw [if_pos a, if_pos (show ws.length < x + i by omega)]
  rw [if_neg a, if_neg (show ¬ ws.length < x + i by omega)]
  by_cases b : y < ws.length - i
  · have hb : y + i < ws.length := by omega
    rw [if_pos b, dif_pos hb, fa_drop]
    rw [Nat.add_comm i y, fa_at hb]
  · rw [if_neg b, dif_neg (show ¬ y + i < ws.length by omega)]
    rfl
theorem dec_nat (n m : Nat) : decide ((n : Int) < (m : Int)) = decide (n < m) := decide_eq_decide.2 (by omega)
theorem own_some {w : World} {base : Nat} {e : TypeId} {size n : Nat} {v : Value} {xs : List Value} (h : w.ownsRow base e size v (n + 1) xs) : ∃ g c, v = .slice (some ⟨g, 0, none⟩) (n + 1) c := by
  rcases h.2 with ⟨_, b⟩ | ⟨g, cap, cur, a, _⟩
  · exact absurd b (Nat.succ_ne_zero n)
  · exact ⟨_, _, a⟩
theorem addTo_end (x : Er) (z : Zn) : ∀ Z : List Zn, addTo x (Z ++ [z]) = Z ++ [⟨z.name, z.eras ++ [x]⟩]
  | [] => rfl
  | [a] => rfl
  | a :: b :: r => by
    show a :: addTo x ((b :: r) ++ [z]) = _
    rw [addTo_end x z (b :: r)]
    rfl
theorem let_same (t : ByteArray) (ln a : Int) : Flt.same ((letRes t).2, ln, a) (chk (lettersB t) (6, ln, a)) := by
  unfold letRes
  by_cases h : t = dashT
  · rw [if_pos h, h, chk_yes _ (by decide)]; exact .inr ⟨rfl, rfl⟩
  · rw [if_neg h]
    have : rlB t = lettersB t := by unfold rlB; rw [decide_eq_true (show ¬ t = ⟨#[45]⟩ from h)]; rfl
    rw [this]
    exact e6_same _ _ _
theorem let_val {t : ByteArray} (h : (letRes t).2 = 0) : (letRes t).1 = if t = dashT then ⟨#[]⟩ else t := by
  unfold letRes at *
  by_cases d : t = dashT
  · rw [if_pos d, if_pos d]
  · rw [if_neg d] at h
    rw [if_neg d, if_neg d]
    exact t6_yes h
theorem yr_zero {t : ByteArray} (h : (yrRes t).2 = 0) : ¬ yearN t = 0 := by
  unfold yrRes at h
  intro c
  dsimp only at h
  rw [if_pos c] at h
  exact absurd h (by decide)
theorem last_same {t2 t3 : ByteArray} (z : (yrRes t2).2 = 0) (ln a : Int) : Flt.same ((lastRes (yrRes t2).1 t3).2, ln, a) (chk (decide (¬ toN t2 t3 = 0)) (6, ln, a)) := by
  have y := yr_zero z
  unfold lastRes toN
  by_cases h : t3 = onlyT
  · have n : ¬ t3 = maxT := by rw [h]; decide
    rw [if_pos h, if_neg n, if_pos h, chk_yes _ (decide_eq_true y)]; exact .inr ⟨rfl, rfl⟩
  rw [if_neg h]
  by_cases k : t3 = maxT
  · rw [if_pos k, if_pos k, chk_yes _ (decide_eq_true (by decide))]; exact .inr ⟨rfl, rfl⟩
  · rw [if_neg k, if_neg k, if_neg h]; exact yr_same _ _ _
theorem last_val (t2 t3 : ByteArray) : (lastRes (yrRes t2).1 t3).1 = toN t2 t3 := by
  unfold lastRes toN
  by_cases h : t3 = onlyT
  · have n : ¬ t3 = maxT := by rw [h]; decide
    rw [if_pos h, if_neg n, if_pos h]; rfl
  rw [if_neg h]
  by_cases k : t3 = maxT
  · rw [if_pos k, if_pos k]
  · rw [if_neg k, if_neg k, if_neg h]; rfl
theorem sp_same_m (l sp : List (ByteArray × Int)) (m f : Nat) (ln : Int) (e : TX l f 3 = txts (sp.take m)) (d : ∀ k, fa sp k = fa l (f + k)) : (spFlt sp m ln).same (spotRes l f ln).2 ∧ ((spFlt sp m ln).1 = 0 → (parseRes (txts (sp.take m))).1 = (spotRes l f ln).1) := by
  unfold spFlt spotRes
  rw [e]
  by_cases h : (parseRes (txts (sp.take m))).2.2 = 0
  · rw [if_pos h]; exact ⟨.inr ⟨h, rfl⟩, fun _ => rfl⟩
  · rw [if_neg h]
    exact ⟨.inl (by rw [d]; rfl), fun c => absurd c h⟩
section
variable {w0 : World} {R hi : Nat} {V : World} {S : Sr} {vr vz vl : Value} {ln st en : Int} {W : World}
theorem linkL (w : ByteArray × Int) (l : List (ByteArray × Int)) (hz : ∀ x ∈ l, x.1.size ≤ 1000) (lt : R < hi) (hiV : hi ≤ V.heap.size) (h : Rdr w0 R V vr vz vl ln st en l W) (SA : SrcAt W hi S vr vz vl) (hn : S.links.length ≤ 1000) :
    Calls Tryz.prog 113 #[.pointer (some ⟨R, 0, none⟩)] W (Out w0 (orF (chk (decide (S.links.length < 100)) (12, ln, st)) (orF (szFlt l en ln 2 2) (orF (chk (placeB (fx (w :: l) 1)) (6, ln, fa (w :: l) 1)) (chk (placeB (fx (w :: l) 2)) (6, ln, fa (w :: l) 2))))) (LnOk w0 R hi ⟨S.rules, S.zones, S.links ++ [⟨fx (w :: l) 1, fx (w :: l) 2⟩]⟩ ln st en W)) := by
  obtain ⟨A, c, rfl⟩ := own_sl SA.links
  rw [← dec_nat]
  by_cases bad : (szFlt l en ln 2 2).1 = 0
  · obtain ⟨f1, f2⟩ := sz_fits bad
    rw [orF_no bad]
    match l, f1, f2 with
    | [(t1, a1), (t2, a2)], _, _ =>
      have z1 := hz (t1, a1) (by simp)
      have z2 := hz (t2, a2) (by simp)
      refine (link_core w0 R hi V S vr vz A _ c ln st en t1 t2 a1 a2 _ _ _ _ (Lib.hid (tk_place z1 a1 _)) (Lib.hid (tk_place z2 a2 _)) lt hiV W h SA rfl hn).mono ?_
      intro e W' o
      refine o.to ((Flt.same.refl _).or ((e6_same _ _ _).or (e6_same _ _ _))) ?_
      intro z k
      obtain ⟨_, z'⟩ := orF_zero.1 z
      obtain ⟨y1, y2⟩ := orF_zero.1 z'
      rw [t6_yes y1, t6_yes y2] at k
      exact k
  · exact (link_bad w0 R V vr vz A _ c ln st en l bad W h).mono fun _ _ o => o.bad bad
theorem zoneL (M : Mom w0) (E : Errs w0) (w : ByteArray × Int) (l : List (ByteArray × Int)) (hz : ∀ x ∈ l, x.1.size ≤ 1000) (lt : R < hi) (hiV : hi ≤ V.heap.size) (h : Rdr w0 R V vr vz vl ln st en l W) (SA : SrcAt W hi S vr vz vl) (hn : S.zones.length ≤ 1000) :
    Calls Tryz.prog 112 #[.pointer (some ⟨R, 0, none⟩)] W (Out w0 (orF (chk (decide (S.zones.length < 50)) (12, ln, st)) (orF (szFlt l en ln 4 8) (orF (chk (placeB (fx (w :: l) 1)) (6, ln, fa (w :: l) 1)) (eraFlt (w :: l) 2 ln)))) (LnOk w0 R hi ⟨S.rules, S.zones ++ [⟨fx (w :: l) 1, [eraVal (w :: l) 2 ln]⟩], S.links⟩ ln st en W)) := by
  obtain ⟨zs, hzs⟩ := SA.zonesA
  obtain ⟨A, c, rfl⟩ := own_sl hzs
  rw [← dec_nat]
  by_cases bad : (szFlt l en ln 4 8).1 = 0
  · obtain ⟨f1, f2⟩ := sz_fits bad
    rw [orF_no bad]
    match l, f1, f2 with
    | (t1, a1) :: l, f1, f2 =>
      have z1 := hz (t1, a1) (by simp)
      rw [List.length_cons] at f1 f2
      obtain ⟨F, x, TE, s1, s2⟩ := eraC (R := R) (V := V) (vr := vr) (vz := .slice A S.zones.length c) (vl := vl) (ln := ln) (st := st) (en := en) M E l (fun x hx => hz x (List.mem_cons_of_mem _ hx)) (by omega) (by omega)
      have e1 : eraFlt (w :: (t1, a1) :: l) 2 ln = eraFlt l 0 ln := (eraFlt_drop (w :: (t1, a1) :: l) 2 ln).symm
      have e2 : eraVal (w :: (t1, a1) :: l) 2 ln = eraVal l 0 ln := (eraVal_drop (w :: (t1, a1) :: l) 2 ln).symm
      rw [e1, e2]
      obtain ⟨off, k, s, r, f, til, y, ⟨mo, ki, wd, da, ti, re⟩⟩ := x
      refine (zone_core w0 R hi V S vr vl A _ c ln st en t1 a1 l (by omega) (by omega) _ _ F off k s y mo ki wd da ti re r f til (Lib.hid (tk_place z1 a1 _)) (Lib.hid TE) lt hiV W h SA rfl hn).mono ?_
      intro e W' o
      refine o.to ((Flt.same.refl _).or ((e6_same _ _ _).or s1)) ?_
      intro z k
      obtain ⟨_, z'⟩ := orF_zero.1 z
      obtain ⟨y1, y2⟩ := orF_zero.1 z'
      rw [t6_yes y1, s2 y2] at k
      exact k
  · exact (zone_bad w0 R V vr vl A _ c ln st en l bad W h).mono fun _ _ o => o.bad bad
theorem furtherL (M : Mom w0) (E : Errs w0) (l : List (ByteArray × Int)) (hz : ∀ x ∈ l, x.1.size ≤ 1000) (lt : R < hi) (hiV : hi ≤ V.heap.size) (h : Rdr w0 R V vr vz vl ln st en l W) (SA : SrcAt W hi S vr vz vl) (Z : List Zn) (z : Zn) (hS : S.zones = Z ++ [z]) (hZ : Z.length ≤ 1000) (hn : z.eras.length ≤ 1000) :
    Calls Tryz.prog 76 #[.pointer (some ⟨R, 0, none⟩)] W (Out w0 (orF (chk (decide (z.eras.length < 40)) (12, ln, st)) (orF (szFlt l en ln 3 7) (eraFlt l 0 ln))) (LnOk w0 R hi ⟨S.rules, Z ++ [⟨z.name, z.eras ++ [eraVal l 0 ln]⟩], S.links⟩ ln st en W)) := by
  obtain ⟨ze, v0, eZ, a⟩ := SA.last hS
  have oz := a.own (zonesO vz (ze ++ [(z, v0)])) (List.mem_cons_of_mem _ (List.mem_cons_self ..))
  unfold Own.own zonesO at oz
  rw [List.length_append, List.length_singleton] at oz
  obtain ⟨gz, cz, rfl⟩ := own_some oz
  have oe := a.own _ (List.mem_cons_self ..)
  unfold Own.own erasO at oe
  dsimp only at oe
  obtain ⟨Ae, ce, rfl⟩ := own_sl oe
  have hl : ze.length = Z.length := by rw [← eZ, List.length_map]
  rw [← dec_nat]
  by_cases bad : (szFlt l en ln 3 7).1 = 0
  · obtain ⟨f1, f2⟩ := sz_fits bad
    rw [orF_no bad]
    obtain ⟨F, x, TE, s1, s2⟩ := eraC (R := R) (V := V) (vr := vr) (vz := .slice (some ⟨gz, 0, none⟩) (ze.length + 1) cz) (vl := vl) (ln := ln) (st := st) (en := en) M E l hz (by omega) (by omega)
    obtain ⟨off, k, s, r, f, til, y, ⟨mo, ki, wd, da, ti, re⟩⟩ := x
    refine (further_core w0 R hi V S Z z ze vr vl gz ze.length cz Ae z.eras.length ce ln st en l f1 f2 F off k s y mo ki wd da ti re r f til (Lib.hid TE) lt hiV eZ rfl (by omega) rfl hn W h a).mono ?_
    intro e W' o
    refine o.to ((Flt.same.refl _).or s1) ?_
    intro z k
    obtain ⟨_, z'⟩ := orF_zero.1 z
    rw [s2 z'] at k
    exact k
  · have zc := own_cell oz (2 * ze.length + 1) _ (zone_at ze z _)
    rw [Nat.mul_comm] at zc
    exact (further_bad w0 R gz ze.length cz V vr vl Ae _ ce ln st en l bad W h (by omega) (World.ownsRow.lt oz gz rfl).2 zc).mono fun _ _ o => o.bad bad
theorem ruleL (M : Mom w0) (E : Errs w0) (w : ByteArray × Int) (l : List (ByteArray × Int)) (hz : ∀ x ∈ l, x.1.size ≤ 1000) (lt : R < hi) (hiV : hi ≤ V.heap.size) (h : Rdr w0 R V vr vz vl ln st en l W) (SA : SrcAt W hi S vr vz vl) (hn : S.rules.length ≤ 1000) :
    Calls Tryz.prog 111 #[.pointer (some ⟨R, 0, none⟩)] W (Out w0 (orF (chk (decide (S.rules.length < 200)) (12, ln, st)) (orF (szFlt l en ln 9 9) (ruleFlt (w :: l) ln))) (LnOk w0 R hi ⟨S.rules ++ [ruleVal (w :: l) ln], S.zones, S.links⟩ ln st en W)) := by
  obtain ⟨A, c, rfl⟩ := own_sl SA.rules
  rw [← dec_nat]
  by_cases bad : (szFlt l en ln 9 9).1 = 0
  · obtain ⟨f1, f2⟩ := sz_fits bad
    rw [orF_no bad]
    match l, f1, f2 with
    | [(t1, a1), (t2, a2), (t3, a3), (t4, a4), (t5, a5), (t6', a6), (t7, a7), (t8, a8), (t9, a9)], _, _ =>
      have z1 := hz (t1, a1) (by simp)
      have z2 := hz (t2, a2) (by simp)
      have z3 := hz (t3, a3) (by simp)
      have z8 := hz (t8, a8) (by simp)
      have z9 := hz (t9, a9) (by simp)
      have T5 := tk_spot (R := R) (V := V) (vr := .slice A S.rules.length c) (vz := vz) (vl := vl) (ln := ln) (st := st) (en := en) M [(t5, a5), (t6', a6), (t7, a7), (t8, a8), (t9, a9)] 3 (by simp) (by decide) (fun x hx => hz x (by simp only [List.mem_cons, List.not_mem_nil, or_false] at hx ⊢; rcases hx with h | h | h | h | h <;> simp [h])) _ rfl
      obtain ⟨s1, s2⟩ := sp_same_m (w :: [(t1, a1), (t2, a2), (t3, a3), (t4, a4), (t5, a5), (t6', a6), (t7, a7), (t8, a8), (t9, a9)]) [(t5, a5), (t6', a6), (t7, a7), (t8, a8), (t9, a9)] 3 5 ln rfl (fun k => fa_drop (w :: [(t1, a1), (t2, a2), (t3, a3), (t4, a4), (t5, a5), (t6', a6), (t7, a7), (t8, a8), (t9, a9)]) 5 k)
      refine (rule_coreI w0 R hi V S vz vl A _ c ln st en t1 t2 t3 t4 t5 t6' t7 t8 t9 a1 a2 a3 a4 a5 a6 a7 a8 a9 _ _ _ _ _ _ _ _ _ _ _ _ _ _ _ _ _ _ _ (Lib.hid (tk_set z1 a1 _)) (Lib.hid (tk_yr E z2 a2 _)) (Lib.hid (tk_last E _ z3 a3 _)) (Lib.hid (tk_dash t4 a4 _)) (Lib.hid T5) (Lib.hid (tk_sav z8 a8 _)) (Lib.hid (tk_let z9 a9 _)) lt hiV W h SA rfl hn).mono ?_
      intro e W' o
      refine o.to ((Flt.same.refl _).or ((e6_same _ _ _).or ((yr_same t2 ln a2).or_if fun q2 => (last_same q2 ln a3).or ((e6_same _ _ _).or (s1.or ((Flt.same.refl _).or (let_same t9 ln a9))))))) ?_
      intro z k
      obtain ⟨_, y⟩ := orF_zero.1 z
      obtain ⟨y1, y⟩ := orF_zero.1 y
      obtain ⟨y2, y⟩ := orF_zero.1 y
      obtain ⟨y3, y⟩ := orF_zero.1 y
      obtain ⟨y4, y⟩ := orF_zero.1 y
      obtain ⟨y5, y⟩ := orF_zero.1 y
      obtain ⟨y8, y9⟩ := orF_zero.1 y
      have e : (⟨t6 (setB t1) t1, (yrRes t2).1, (lastRes (yrRes t2).1 t3).1, (parseRes (txts (([(t5, a5), (t6', a6), (t7, a7), (t8, a8), (t9, a9)] : List (ByteArray × Int)).take 3))).1, (offN t8 43200).1, (letRes t9).1⟩ : Rl) = ruleVal (w :: [(t1, a1), (t2, a2), (t3, a3), (t4, a4), (t5, a5), (t6', a6), (t7, a7), (t8, a8), (t9, a9)]) ln := by
        rw [t6_yes y1, last_val, s2 y5, let_val y9]
        rfl
      rw [← e]
      exact k
  · exact (rule_bad w0 R V vz vl A _ c ln st en l bad W h).mono fun _ _ o => o.bad bad
end
end Go.Proofs.YtnkmlfbnfndfpaaGreatDoor
namespace Go.Proofs.YtnkmlfbnfndfpaaGreatDoor
open Go.RowKit
theorem own_new {w : World} {base : Nat} {e : TypeId} {size n c m : Nat} {A : Option Addr} {xs : List Value} (h : w.ownsRow base e size (.slice A n c) m xs) : ∀ a, A = some a → base ≤ a.block := by
  intro a ha
  subst ha
  rcases h.2 with ⟨k, _⟩ | ⟨g, cap, cur, k, hg, _⟩
  · cases k
  · cases k
    exact hg
def RetFldN (w : World) (r : Fld) (e : Ending) (w' : World) : Prop := ∃ A n c, e = .returned (.tuple #[.slice A n c, .int .i64 r.2.1, .int .i64 r.2.2]) ∧ Fs w' A n c r.1 ∧ Below w.heap.size w w' ∧ ∀ a, A = some a → 0 < n → w.heap.size ≤ a.block
theorem splitQ (s : ByteArray) (w : World) : Calls Tryz.prog 75 #[.string s] w (RetFldN w (splitC s)) := by
  obtain ⟨i0, hi, hz0, hz1, hz2⟩ := info_partsS wordC_info
  by_cases h500 : 500 < s.size
  · have E := Lib.hid (show splitC s = ([], 500, 12) from if_pos h500)
    go_enter Tryz.func75, Tryz.ntmps75
    go_wp2
    go_ret3
    exact ⟨none, 0, 0, by rw [E.out]; rfl, by rw [E.out]; exact Fs.nil _, Below.refl _ _, fun _ c _ => by cases c⟩
  · have E : splitC s = fixR s (splitGo s (s.size + 1) [] 0) := by
      unfold splitC splitRes
      rw [if_neg h500, if_neg h500]
    obtain ⟨g0, g1, g2⟩ := skip (s := s) (out := []) s.size 0 (s.size + 1) (by omega) (Nat.zero_le _) (by omega)
    rw [g2] at E
    replace E := Lib.hid E
    have SW := Lib.hid (startP s (by omega) 0 (Nat.zero_le _))
    have SA := Lib.hid (fun h => start_at (s := s) (k := 0) h)
    have sl := (start_le (s := s) (k := 0) (Nat.zero_le _)).2
    clear g2
    generalize startOf s 0 = k0 at *
    go_enter Tryz.func75, Tryz.ntmps75
    go_wp2_with (go_at_call 106; refine (SW.out _).mono ?_; clear SW; rintro e w' ⟨rfl, rfl⟩)
    go_loopw [5, 6] (fun v i wr => CutRel w s v i wr) (fun _ i _ => s.size - (intOf i).toNat)
    case atStart => exact ⟨[], k0, 0, g0, sl, World.ownsRow_nil w _ _ _, rfl, by omega, g1, E.out.symm, Below.refl _ _, SA.out⟩
    case round =>
      clear E SA sl g1
      obtain ⟨out, k, n, f, hk, hown, rfl, hn, hf, he, hbel, hat⟩ := hrel
      obtain ⟨A, c, rfl, hS⟩ := Fs.of_own hown
      have NW := Lib.hid (own_new hown)
      have hsz := hbel.size
      have LN := hS.len
      obtain ⟨f, rfl⟩ : ∃ g, f = g + 1 := ⟨f - 1, by omega⟩
      by_cases h1 : k < s.size
      · obtain ⟨nb, nr⟩ := hat h1
        obtain ⟨S1, S2, S3, S4, S5, S6⟩ := step (f := f) (out := out) h1 nb nr
        have FW := Lib.hid (fieldP s (by omega) k h1)
        have S7 := field_size s k
        clear nb nr hat
        rw [he] at S1 S2
        generalize fieldRes s k = r at *
        obtain ⟨t, b, x⟩ := r
        simp only at S1 S2 S3 S4 S5 S6 S7 FW
        by_cases m : n = 16 ∧ ¬ x = (k : Int)
        · have EE := Lib.hid (S1 (by omega) m.2)
          have g3 : (x != (k : Int)) = true := by rw [bne_iff_ne]; exact m.2
          obtain rfl := m.1
          clear S1 S2 S3 m he LN
          go_wp2_with (go_at_call 107; refine (FW.out _).mono ?_; rintro e w' ⟨rfl, rfl⟩)
          go_ret3
          exact ⟨none, 0, 0, by rw [EE.out]; rfl, by rw [EE.out]; exact Fs.nil _, hbel, fun _ c _ => by cases c⟩
        · skip
          by_cases y : x = -1
          · have na : ¬ n = 16 := fun a => m ⟨a, by omega⟩
            obtain ⟨T1, T2, T3⟩ := S3 (by omega) y
            have n16 : ((n : Int) == 16) = false := by rw [beq_eq_false_iff_ne]; omega
            subst y
            obtain ⟨g, G1, G2⟩ := skip (s := s) (out := out ++ [(t, (k : Int))]) s.size b f (by omega) T3 (by omega)
            have EE := Lib.hid (show fixR s (splitGo s g (out ++ [(t, (k : Int))]) (startOf s b)) = splitC s by rw [← G2, ← T1, he])
            have SW := Lib.hid (startP s (by omega) b T3)
            have SA := Lib.hid (fun h => start_at (s := s) (k := b) h)
            have sl := start_le T3
            have CW := Lib.hid (cloneP t (by omega))
            clear S1 S2 S3 he T1 G2 m
            generalize startOf s b = k1 at *
            go_wp2_with first
              | (go_at_call 107; refine (FW.out _).mono ?_; clear FW; rintro e w' ⟨rfl, rfl⟩)
              | (go_at_call 74; refine (CW.out _).mono ?_; clear CW; rintro e w1 ⟨rfl, hb1⟩; have hown1 := own_below hown hb1; have sz1 := hb1.size; have lt1 := hown1.lt; have hbel1 := hbel.trans (hb1.mono hsz))
              | (go_at_call 106; refine (SW.out _).mono ?_; clear SW; rintro e w' ⟨rfl, rfl⟩)
              | (at_builtin
                 refine wpList_append_own_at _ rfl (.tmp 38) (.tmp 43) 43 rfl w.heap.size 73 i0 _ 2 24 Tryz.underlying43 hi hz0 hz1 hz2 rfl (by decide) (.slice A n c) n (words out) rfl (hown1.alloc _) ⟨w1.heap.size, 0, none⟩ 1 1 [.string t, .int .i64 k] rfl rfl (cell_two_new _ _ _ _) ?_ ?_ ?_ ?_ ?_
                 · intro u hu; rcases List.mem_cons.1 hu with hu | hu; rw [hu]; rfl; rw [List.mem_singleton.1 hu]; rfl
                 · unfold maxLen; omega
                 · omega
                 · simp; omega
                 intro v1 w2 hown2 hg2 _ _)
            rw [words_snoc] at hown2
            go_roundw
            case rel => exact ⟨out ++ [(t, (k : Int))], k1, n + 1, g, sl.2, hown2, rfl, by omega, G1, EE.out, (hbel1.alloc (by omega) _).grown hg2 (by simp; omega) (fun q hq => (lt1 q hq).1), SA.out⟩
            case measure => simp only [intOf]; omega
          · have EE := Lib.hid (S2 (by rw [LN]; exact m) y)
            have y1 : (x != -1) = true := by rw [bne_iff_ne]; exact y
            clear S1 S2 S3 he LN y
            by_cases a : n = 16
            · have gx : (x != (k : Int)) = false := by
                rw [bne_eq_false_iff_eq]
                exact Classical.byContradiction fun c => m ⟨a, c⟩
              obtain rfl := a
              clear m
              go_wp2_with (go_at_call 107; refine (FW.out _).mono ?_; rintro e w' ⟨rfl, rfl⟩)
              go_ret3
              exact ⟨none, 0, 0, by rw [EE.out]; rfl, by rw [EE.out]; exact Fs.nil _, hbel, fun _ c _ => by cases c⟩
            · have n16 : ((n : Int) == 16) = false := by rw [beq_eq_false_iff_ne]; omega
              clear m
              go_wp2_with (go_at_call 107; refine (FW.out _).mono ?_; rintro e w' ⟨rfl, rfl⟩)
              go_ret3
              exact ⟨none, 0, 0, by rw [EE.out]; rfl, by rw [EE.out]; exact Fs.nil _, hbel, fun _ c _ => by cases c⟩
      · obtain rfl : k = s.size := by omega
        have EE := Lib.hid (show splitC s = (out, 0, 0) by rw [← he, sp_end h1]; exact fix_id (by simp))
        clear he hat
        go_wp2
        go_ret3
        exact ⟨A, n, c, by rw [EE.out]; rfl, by rw [EE.out]; exact hS, hbel, fun a e _ => NW.out a e⟩
theorem split_sz {s : ByteArray} : ∀ (f : Nat) (out : List (ByteArray × Int)) (i : Nat), (∀ x ∈ out, x.1.size ≤ s.size) → ∀ x ∈ (splitGo s f out i).1, x.1.size ≤ s.size := by
  have add : ∀ (out : List (ByteArray × Int)) (a b : Nat) (k : Int), (∀ x ∈ out, x.1.size ≤ s.size) → ∀ x ∈ out ++ [(s.extract a b, k)], x.1.size ≤ s.size := by
    intro out a b k h x hx
    rcases List.mem_append.1 hx with q | q
    · exact h x q
    · rw [List.mem_singleton.1 q]
      simp only [ByteArray.size_extract]
      omega
  intro f
  induction f with
  | zero => intro out i h x hx; cases hx
  | succ f ih =>
    intro out i hi
    unfold splitGo
    split
    case isFalse => exact hi
    split
    · exact hi
    split
    · exact ih out (i + 1) hi
    split
    · intro x hx; cases hx
    split
    · intro x hx; cases hx
    split
    · split
      · intro x hx; cases hx
      · split
        · intro x hx; cases hx
        · split
          · intro x hx; cases hx
          · exact ih _ _ (add _ _ _ _ hi)
    · split
      · intro x hx; cases hx
      · exact ih _ _ (add _ _ _ _ hi)
theorem splitC_sz (s : ByteArray) : ∀ x ∈ (splitC s).1, x.1.size ≤ 1000 := by
  unfold splitC fixR
  split
  · intro x hx; cases hx
  · rename_i h
    split
    · intro x hx; cases hx
    · unfold splitRes
      split
      · intro x hx; cases hx
      · intro x hx
        have := split_sz (s := s) (s.size + 1) [] 0 (fun _ h => by cases h) x hx
        omega
structure Sr.fits (S : Sr) : Prop where
  r : S.rules.length ≤ 200
  z : S.zones.length ≤ 50
  l : S.links.length ≤ 100
  e : ∀ z ∈ S.zones, 1 ≤ z.eras.length ∧ z.eras.length ≤ 40
theorem fits_none : Sr.none.fits := ⟨Nat.zero_le _, Nat.zero_le _, Nat.zero_le _, fun _ h => by cases h⟩
theorem list_snoc {α : Type} {l : List α} (h : 0 < l.length) : ∃ r x, l = r ++ [x] := by
  rcases List.eq_nil_or_concat l with rfl | ⟨r, x, e⟩
  · exact absurd h (Nat.lt_irrefl 0)
  · exact ⟨r, x, by rw [e, List.concat_eq_append]⟩
theorem til_snoc {S : Sr} {Z : List Zn} {z : Zn} (e : S.zones = Z ++ [z]) : S.til = z.til ∧ S.eras = z.eras.length := by
  unfold Sr.til Sr.eras
  rw [e, List.getLast?_append]
  exact ⟨rfl, rfl⟩
theorem ztil_snoc {z : Zn} {E : List Er} {x : Er} (e : z.eras = E ++ [x]) : z.til = x.til := by
  unfold Zn.til
  rw [e, List.getLast?_append]
  rfl
theorem era_at (E : List Er) (x : Er) : ((E ++ [x]).flatMap Er.vals)[13 * E.length + 5]? = some (.bool x.til) := by
  have hl : (E.flatMap Er.vals).length = 13 * E.length := by
    induction E with
    | nil => rfl
    | cons p r ih => rw [List.flatMap_cons, List.length_append, ih, List.length_cons]; show 13 + _ = _; omega
  rw [List.flatMap_append, List.getElem?_append_right (by omega), hl, show 13 * E.length + 5 - 13 * E.length = 5 by omega]
  rfl
theorem dueP {w0 W : World} {R hi : Nat} {S : Sr} {vr vz vl wv : Value} {ln st en : Int} (h : Rds w0 R hi S vr vz vl ln st en wv W) (f : S.fits) :
    Calls Tryz.prog 46 #[.pointer (some ⟨R, 0, none⟩)] W fun e W' => e = .returned (.bool S.til) ∧ Below W.heap.size W W' := by
  have SA := h.src
  have HB := h.blk
  by_cases hz : 0 < S.zones.length
  · obtain ⟨Z, z, hS⟩ := list_snoc hz
    have mem : z ∈ S.zones := by rw [hS]; simp
    obtain ⟨f1, f2⟩ := f.e z mem
    obtain ⟨E, x, hE⟩ := list_snoc (l := z.eras) f1
    obtain ⟨ze, v0, eZ, a⟩ := SA.last hS
    have oz := a.own (zonesO vz (ze ++ [(z, v0)])) (List.mem_cons_of_mem _ (List.mem_cons_self ..))
    unfold Own.own zonesO at oz
    rw [List.length_append, List.length_singleton] at oz
    obtain ⟨gz, cz, rfl⟩ := own_some oz
    have oe := a.own _ (List.mem_cons_self ..)
    unfold Own.own erasO at oe
    dsimp only at oe
    have zc := own_cell oz (2 * ze.length + 1) _ (zone_at ze z _)
    rw [hE, List.length_append, List.length_singleton] at oe
    obtain ⟨ge, ce, rfl⟩ := own_some oe
    have ec := own_cell oe (13 * E.length + 5) _ (era_at E x)
    rw [Nat.mul_comm] at ec zc
    rw [(til_snoc hS).1, ztil_snoc hE]
    have hl : ze.length = Z.length := by rw [← eZ, List.length_map]
    have hz9 := f.z
    rw [hS, List.length_append] at hz9
    rw [hE, List.length_append] at f2
    exact due_last W R gz ze.length cz ge E.length ce vr vl ln st en wv x.til HB (by omega) (by omega) (World.ownsRow.lt oz gz rfl).2 (World.ownsRow.lt oe ge rfl).2 zc ec
  · obtain ⟨zs, hzs⟩ := SA.zonesA
    rw [show S.zones.length = 0 by omega] at hzs
    obtain ⟨A, c, rfl⟩ := own_sl hzs
    have e : S.til = false := by
      unfold Sr.til
      rw [List.eq_nil_of_length_eq_zero (show S.zones.length = 0 by omega)]
      rfl
    rw [e]
    exact due_none W R vr vl A c ln st en wv HB
theorem failB (w0 : World) (R : Nat) (vr vz vl wv : Value) (ln st en : Int) (x a : Int) (W : World) (hB : Blk W R (rdVals vr vz vl ln st en wv)) (hb : Below w0.heap.size w0 W) :
    Calls Tryz.prog 47 #[.pointer (some ⟨R, 0, none⟩), .int .i64 x, .int .i64 a] W (PanF w0 (x, ln, a)) := by
  obtain ⟨lt, ⟨c0, c1, c2, c3, c4, c5, c6⟩, _⟩ := hB.sevenR
  have HB := Lib.hid hb
  clear hB hb
  go_enter Tryz.func47, Tryz.ntmps47
  go_wp2
  exact ⟨rfl, rfl, HB.out⟩
theorem chk_less {n m : Nat} {f : Flt} (hf : ¬ f.1 = 0) (h : (chk (decide (n < m)) f).1 = 0) : n < m := by simpa using (chk_zero hf).1 h
theorem fits_line {S : Sr} (f : S.fits) {l : List (ByteArray × Int)} {all : ByteArray} {n : Int} (h : (lineFlt S l all n).1 = 0) : (lineSrc S l n).fits := by
  have t12 : ∀ a : Int, ¬ ((12, n, a) : Flt).1 = 0 := fun a => by show ¬ (12 : Int) = 0; decide
  unfold lineFlt at h
  unfold lineSrc
  by_cases ht : S.til = true
  · rw [if_pos ht] at h ⊢
    have k := chk_less (t12 _) (orF_zero.1 h).1
    have hz : 0 < S.zones.length := by
      apply Classical.byContradiction
      intro c
      unfold Sr.til at ht
      rw [List.eq_nil_of_length_eq_zero (show S.zones.length = 0 by omega)] at ht
      exact absurd ht (by decide)
    obtain ⟨Z, z, hS⟩ := list_snoc hz
    rw [(til_snoc hS).2] at k
    have fz := f.z
    refine ⟨f.r, ?_, f.l, ?_⟩
    · rw [hS] at fz
      rw [hS, addTo_end]
      simpa using fz
    · intro y hy
      rw [hS, addTo_end] at hy
      rcases List.mem_append.1 hy with q | q
      · exact f.e y (by rw [hS]; exact List.mem_append_left _ q)
      · rw [List.mem_singleton.1 q]
        dsimp only
        rw [List.length_append, List.length_singleton]
        omega
  rw [if_neg ht] at h ⊢
  by_cases h1 : fx l 0 = ruleT
  · rw [if_pos h1] at h ⊢
    have k := chk_less (t12 _) (orF_zero.1 h).1
    refine ⟨?_, f.z, f.l, f.e⟩
    rw [List.length_append, List.length_singleton]
    omega
  rw [if_neg h1] at h ⊢
  by_cases h2 : fx l 0 = zoneT
  · rw [if_pos h2] at h ⊢
    have k := chk_less (t12 _) (orF_zero.1 h).1
    refine ⟨f.r, ?_, f.l, ?_⟩
    · rw [List.length_append, List.length_singleton]
      omega
    · intro y hy
      rcases List.mem_append.1 hy with q | q
      · exact f.e y q
      · rw [List.mem_singleton.1 q]
        exact ⟨Nat.le_refl _, by dsimp only; simp⟩
  rw [if_neg h2] at h ⊢
  by_cases h3 : fx l 0 = linkT
  · rw [if_pos h3] at h
    have k := chk_less (t12 _) (orF_zero.1 h).1
    refine ⟨f.r, f.z, ?_, f.e⟩
    rw [List.length_append, List.length_singleton]
    omega
  · rw [if_neg h3] at h
    exact absurd h (by show ¬ (13 : Int) = 0; decide)
theorem fits_step {S : Sr} (f : S.fits) {t : ByteArray} {n : Int} (h : (lineStep S t n).1.1 = 0) : (lineStep S t n).2.fits := by
  unfold lineStep at *
  by_cases h1 : (splitC t).2.2 = 0
  · rw [if_neg (fun c => c h1)] at h ⊢
    by_cases h2 : (splitC t).1 = []
    · rw [if_pos h2]; exact f
    · rw [if_neg h2] at h ⊢
      exact fits_line f h
  · rw [if_pos h1] at h
    exact absurd h h1
def LnR (w0 : World) (R hi : Nat) (S : Sr) (ln : Int) (W : World) (e : Ending) (W' : World) : Prop := e = .returned (.tuple #[]) ∧ ∃ vr vz vl st en wv, Rds w0 R hi S vr vz vl ln st en wv W' ∧ Keep hi R W W'
theorem Rds.below {w0 W W' : World} {R hi : Nat} {S : Sr} {vr vz vl wv : Value} {ln st en : Int} (h : Rds w0 R hi S vr vz vl ln st en wv W) (hb : Below W.heap.size W W') : Rds w0 R hi S vr vz vl ln st en wv W' :=
  ⟨h.ge, h.lt, Nat.le_trans h.le hb.size, (Gr.of_below (R := R) hb).below h.ge h.hb, h.blk.below hb, h.src.gr (Gr.of_below hb) h.lt⟩
theorem gr_cell2 {R : Nat} {X W' : World} {g o : Nat} (gr : Gr R X W') (ne : g ≠ R) (lt : g < X.heap.size) {v : Value} (hg : X.cell? ⟨g, o, none⟩ = some v) : W'.cell? ⟨g, o, none⟩ = some v :=
  (World.cell?_of_block (w := X) (a := ⟨g, o, none⟩) (gr.block g lt fun c => ne (by cases c; rfl))).trans hg
theorem Rds.put {w0 W : World} {R hi : Nat} {S : Sr} {vr vz vl wv wv' : Value} {ln st en st' en' : Int} (h : Rds w0 R hi S vr vz vl ln st en wv W) (o : Nat) (v : Value) (ho : o < 7) (e : (rdVals vr vz vl ln st en wv).set o v = rdVals vr vz vl ln st' en' wv') : Rds w0 R hi S vr vz vl ln st' en' wv' (W.setCell ⟨R, o, none⟩ v) :=
  (Rds.stored h.ge h.lt h.le h.hb o v h.blk (by simpa [rdVals] using ho) e h.src (Keep.refl hi R W)).1
theorem Wd.first_rest {W : World} {R b o c m : Nat} {t : ByteArray} {i : Int} {l : List (ByteArray × Int)} (h : Wd W R (some ⟨b, o, none⟩) (m + 1) c ((t, i) :: l)) : Wd W R (some ⟨b, o + 2, none⟩) m (c - 1) l := by
  obtain ⟨b', o', e, _, _, _, _, _, h'⟩ := h.first
  cases e
  exact h'
theorem Rds.three {w0 W : World} {R hi : Nat} {S : Sr} {vr vz vl wv : Value} {ln st en : Int} (h : Rds w0 R hi S vr vz vl ln st en wv W) (st' en' : Int) (v : Value) :
    Rds w0 R hi S vr vz vl ln st' en' v (((W.setCell ⟨R, 4, none⟩ (.int .i64 st')).setCell ⟨R, 5, none⟩ (.int .i64 en')).setCell ⟨R, 6, none⟩ v) ∧ Keep hi R W (((W.setCell ⟨R, 4, none⟩ (.int .i64 st')).setCell ⟨R, 5, none⟩ (.int .i64 en')).setCell ⟨R, 6, none⟩ v) ∧ Gr R W (((W.setCell ⟨R, 4, none⟩ (.int .i64 st')).setCell ⟨R, 5, none⟩ (.int .i64 en')).setCell ⟨R, 6, none⟩ v) := by
  have r1 := h.put 4 (.int .i64 st') (by decide) (st' := st') (en' := en) (wv' := wv) rfl
  have r2 := r1.put 5 (.int .i64 en') (by decide) (st' := st') (en' := en') (wv' := wv) rfl
  have r3 := r2.put 6 v (by decide) (st' := st') (en' := en') (wv' := v) rfl
  exact ⟨r3, (((Keep.refl hi R W).set 4 _).set 5 _).set 6 _, ((Gr.set W 4 _).trans (Gr.set _ 5 _)).trans (Gr.set _ 6 _)⟩
theorem ln_bad (w0 : World) (R hi : Nat) (S : Sr) (vr vz vl wv : Value) (ln st en : Int) (t : ByteArray) (W : World) (h : Rds w0 R hi S vr vz vl ln st en wv W) (l : List (ByteArray × Int)) (a x : Int) (hx : ¬ x = 0) (SP : Hid (∀ X, Calls Tryz.prog 75 #[.string t] X (RetFldN X (l, a, x)))) :
    Calls Tryz.prog 45 #[.pointer (some ⟨R, 0, none⟩), .string t] W (Out w0 (x, ln, a) (LnR w0 R hi S ln W)) := by
  have nx : (x != 0) = true := by rw [bne_iff_ne]; exact hx
  have HX := Lib.hid hx
  have FB := Lib.hid (failB w0 R vr vz vl wv ln st en)
  clear hx
  have H0 := Lib.hid h
  have lt := h.lt
  have le := h.le
  obtain ⟨ltR, ⟨c0, c1, c2, c3, c4, c5, c6⟩, ⟨f0, f1, f2, f3, f4, f5, f6⟩⟩ := h.blk.sevenR
  clear h
  go_enter Tryz.func45, Tryz.ntmps45
  go_wp2_with fail
  refine (SP.out _).mono ?_
  clear SP
  rintro e W1 ⟨A, n, c, rfl, hF, hb, hN⟩
  have hw := Lib.hid ((Gr.of_below (R := R) hb).below H0.out.ge H0.out.hb)
  have hB := Lib.hid (H0.out.blk.below hb)
  clear hF hb hN
  go_wp2_with (go_at_call 47; refine (FB.out _ _ _ hB.out hw.out).mono ?_; rintro e W' ⟨rfl, hb⟩)
  exact ⟨rfl, .inl ⟨HX.out, rfl, hb⟩⟩
theorem ln_none (w0 : World) (R hi : Nat) (S : Sr) (vr vz vl wv : Value) (ln st en : Int) (t : ByteArray) (W : World) (h : Rds w0 R hi S vr vz vl ln st en wv W) (a : Int) (SP : Hid (∀ X, Calls Tryz.prog 75 #[.string t] X (RetFldN X ([], a, 0)))) :
    Calls Tryz.prog 45 #[.pointer (some ⟨R, 0, none⟩), .string t] W (Out w0 Flt.no (LnR w0 R hi S ln W)) := by
  have H0 := Lib.hid h
  have lt := h.lt
  have le := h.le
  obtain ⟨ltR, ⟨c0, c1, c2, c3, c4, c5, c6⟩, ⟨f0, f1, f2, f3, f4, f5, f6⟩⟩ := h.blk.sevenR
  clear h
  go_enter Tryz.func45, Tryz.ntmps45
  go_wp2_with fail
  refine (SP.out _).mono ?_
  clear SP
  rintro e W1 ⟨A, n, c, rfl, hF, hb, hN⟩
  have RB := Lib.hid (H0.out.below hb)
  have KB := Lib.hid (Keep.of_gr (Gr.of_below (R := R) hb) le)
  obtain rfl : 0 = n := hF.len
  clear hF hb hN
  go_wp2
  go_end0
  exact .inr ⟨rfl, rfl, _, _, _, _, _, _, RB.out, KB.out⟩
theorem ln_far (w0 : World) (R hi : Nat) (S : Sr) (vr vz vl wv : Value) (ln st en : Int) (t : ByteArray) (W : World) (h : Rds w0 R hi S vr vz vl ln st en wv W) (t0 : ByteArray) (a0 : Int) (l : List (ByteArray × Int)) (a : Int) (SP : Hid (∀ X, Calls Tryz.prog 75 #[.string t] X (RetFldN X ((t0, a0) :: l, a, 0)))) (DU : Hid (∀ X st en wv, Rds w0 R hi S vr vz vl ln st en wv X → Calls Tryz.prog 46 #[.pointer (some ⟨R, 0, none⟩)] X fun e W' => e = .returned (.bool true) ∧ Below X.heap.size X W')) (S' : Sr) (F : Flt)
    (HK : Hid (∀ X A n c, Rds w0 R hi S vr vz vl ln a0 t.size (.slice A n c) X → Wd X R A n c ((t0, a0) :: l) → Calls Tryz.prog 76 #[.pointer (some ⟨R, 0, none⟩)] X (Out w0 F (LnOk w0 R hi S' ln a0 t.size X)))) :
    Calls Tryz.prog 45 #[.pointer (some ⟨R, 0, none⟩), .string t] W (Out w0 F (LnR w0 R hi S' ln W)) := by
  have H0 := Lib.hid h
  have lt := h.lt
  have le := h.le
  obtain ⟨ltR, ⟨c0, c1, c2, c3, c4, c5, c6⟩, ⟨f0, f1, f2, f3, f4, f5, f6⟩⟩ := h.blk.sevenR
  clear h
  go_enter Tryz.func45, Tryz.ntmps45
  go_wp2_with fail
  refine (SP.out _).mono ?_
  clear SP
  rintro e W1 ⟨A, n, c, rfl, hF, hb, hN⟩
  have H1 := Lib.hid (H0.out.below hb)
  have K1 := Lib.hid (Keep.of_gr (Gr.of_below (R := R) hb) le)
  have sz1 := hb.size
  obtain ⟨ltR1, ⟨d0, d1, d2, d3, d4, d5, d6⟩, ⟨g0, g1, g2, g3, g4, g5, g6⟩⟩ := H1.out.blk.sevenR
  have hw : Wd W1 R A n c ((t0, a0) :: l) := ⟨hF, fun a e hn => by have := hN a e hn; omega⟩
  obtain ⟨b, o, rfl, hne, hlt, x0, x1, rfl, _⟩ := hw.first
  have T3 := Lib.hid (H1.out.three a0 (t.size : Int) (.slice (some ⟨b, o, none⟩) (l.length + 1) c))
  have HW := Lib.hid hw
  have hcp := hF.cap
  have hmx := hF.max
  have sz2 : (((W1.setCell ⟨R, 4, none⟩ (.int .i64 a0)).setCell ⟨R, 5, none⟩ (.int .i64 (t.size : Int))).setCell ⟨R, 6, none⟩ (.slice (some ⟨b, o, none⟩) (l.length + 1) c)).heap.size = W1.heap.size := by simp [World.setCell]
  have ll : ((l.length : Int) + 1 == 0) = false := by rw [beq_eq_false_iff_ne]; omega
  have ll2 : decide (((l.length : Int) + 1) = 0) = false := decide_eq_false (by omega)
  unfold maxLen at hmx
  clear hb hN hF hw H0 c0 c1 c2 c3 c4 c5 c6 f0 f1 f2 f3 f4 f5 f6
  go_wp2_with fail
  obtain ⟨r3, k3, q3⟩ := T3.out
  have x0' := gr_cell2 q3 hne hlt x0
  have hw3 := Lib.hid (HW.out.keep q3)
  have R3 := Lib.hid r3
  have K3 := Lib.hid (K1.out.trans k3)
  have ltb : b < (((W1.setCell ⟨R, 4, none⟩ (.int .i64 a0)).setCell ⟨R, 5, none⟩ (.int .i64 (t.size : Int))).setCell ⟨R, 6, none⟩ (.slice (some ⟨b, o, none⟩) (l.length + 1) c)).heap.size := by rw [sz2]; exact hlt
  clear r3 k3 q3 T3 K1 HW d0 d1 d2 d3 d4 d5 d6 g0 g1 g2 g3 g4 g5 g6 x0 x1 H1 ltR1 sz2
  generalize ((W1.setCell ⟨R, 4, none⟩ (.int .i64 a0)).setCell ⟨R, 5, none⟩ (.int .i64 (t.size : Int))).setCell ⟨R, 6, none⟩ (.slice (some ⟨b, o, none⟩) (l.length + 1) c) = W3 at *
  refine (DU.out _ _ _ _ R3.out).mono ?_
  clear DU
  rintro e W4 ⟨rfl, hb4⟩
  have R4 := Lib.hid (R3.out.below hb4)
  have K4 := Lib.hid (K3.out.trans (Keep.of_gr (Gr.of_below (R := R) hb4) R3.out.le))
  have hw4 := Lib.hid (hw3.out.keep (Gr.of_below hb4))
  have x4 := (hb4.cell (p := ⟨b, o, none⟩) ltb).trans x0'
  have sz4 := hb4.size
  clear hb4 R3 K3 hw3 x0'
  go_wp2_with fail
  refine (HK.out _ _ _ _ R4.out hw4.out).mono ?_
  clear HK
  rintro e W5 (⟨hx, rfl, hb⟩ | ⟨hx, rfl, vr', vz', vl', wv', r5, k5⟩)
  · exact ⟨rfl, .inl ⟨hx, rfl, hb⟩⟩
  have K5 := Lib.hid (K4.out.trans k5)
  have R5 := Lib.hid r5
  have X5 := Lib.hid hx
  clear r5 k5 hx
  go_wp2
  go_end0
  exact .inr ⟨X5.out, rfl, _, _, _, _, _, _, R5.out, K5.out⟩
theorem ln_word (w0 : World) (R hi : Nat) (S : Sr) (vr vz vl wv : Value) (ln st en : Int) (t : ByteArray) (W : World) (h : Rds w0 R hi S vr vz vl ln st en wv W) (t0 : ByteArray) (a0 : Int) (l : List (ByteArray × Int)) (a : Int) (SP : Hid (∀ X, Calls Tryz.prog 75 #[.string t] X (RetFldN X ((t0, a0) :: l, a, 0)))) (DU : Hid (∀ X st en wv, Rds w0 R hi S vr vz vl ln st en wv X → Calls Tryz.prog 46 #[.pointer (some ⟨R, 0, none⟩)] X fun e W' => e = .returned (.bool false) ∧ Below X.heap.size X W')) (MN : Hid (∀ X, Calls Tryz.prog 77 #[.string t0] X fun e w' => e = .returned (.tuple #[.nilFunc, .bool false]) ∧ Below X.heap.size X w')) :
    Calls Tryz.prog 45 #[.pointer (some ⟨R, 0, none⟩), .string t] W (Out w0 (13, ln, a0) (LnR w0 R hi S ln W)) := by
  have H0 := Lib.hid h
  have lt := h.lt
  have le := h.le
  obtain ⟨ltR, ⟨c0, c1, c2, c3, c4, c5, c6⟩, ⟨f0, f1, f2, f3, f4, f5, f6⟩⟩ := h.blk.sevenR
  clear h
  go_enter Tryz.func45, Tryz.ntmps45
  go_wp2_with fail
  refine (SP.out _).mono ?_
  clear SP
  rintro e W1 ⟨A, n, c, rfl, hF, hb, hN⟩
  have H1 := Lib.hid (H0.out.below hb)
  have K1 := Lib.hid (Keep.of_gr (Gr.of_below (R := R) hb) le)
  have sz1 := hb.size
  obtain ⟨ltR1, ⟨d0, d1, d2, d3, d4, d5, d6⟩, ⟨g0, g1, g2, g3, g4, g5, g6⟩⟩ := H1.out.blk.sevenR
  have hw : Wd W1 R A n c ((t0, a0) :: l) := ⟨hF, fun a e hn => by have := hN a e hn; omega⟩
  obtain ⟨b, o, rfl, hne, hlt, x0, x1, rfl, _⟩ := hw.first
  have T3 := Lib.hid (H1.out.three a0 (t.size : Int) (.slice (some ⟨b, o, none⟩) (l.length + 1) c))
  have HW := Lib.hid hw
  have hcp := hF.cap
  have hmx := hF.max
  have sz2 : (((W1.setCell ⟨R, 4, none⟩ (.int .i64 a0)).setCell ⟨R, 5, none⟩ (.int .i64 (t.size : Int))).setCell ⟨R, 6, none⟩ (.slice (some ⟨b, o, none⟩) (l.length + 1) c)).heap.size = W1.heap.size := by simp [World.setCell]
  have ll : ((l.length : Int) + 1 == 0) = false := by rw [beq_eq_false_iff_ne]; omega
  have ll2 : decide (((l.length : Int) + 1) = 0) = false := decide_eq_false (by omega)
  unfold maxLen at hmx
  clear hb hN hF hw H0 c0 c1 c2 c3 c4 c5 c6 f0 f1 f2 f3 f4 f5 f6
  go_wp2_with fail
  obtain ⟨r3, k3, q3⟩ := T3.out
  have x0' := gr_cell2 q3 hne hlt x0
  have hw3 := Lib.hid (HW.out.keep q3)
  have R3 := Lib.hid r3
  have K3 := Lib.hid (K1.out.trans k3)
  have ltb : b < (((W1.setCell ⟨R, 4, none⟩ (.int .i64 a0)).setCell ⟨R, 5, none⟩ (.int .i64 (t.size : Int))).setCell ⟨R, 6, none⟩ (.slice (some ⟨b, o, none⟩) (l.length + 1) c)).heap.size := by rw [sz2]; exact hlt
  clear r3 k3 q3 T3 K1 HW d0 d1 d2 d3 d4 d5 d6 g0 g1 g2 g3 g4 g5 g6 x0 x1 H1 ltR1 sz2
  generalize ((W1.setCell ⟨R, 4, none⟩ (.int .i64 a0)).setCell ⟨R, 5, none⟩ (.int .i64 (t.size : Int))).setCell ⟨R, 6, none⟩ (.slice (some ⟨b, o, none⟩) (l.length + 1) c) = W3 at *
  refine (DU.out _ _ _ _ R3.out).mono ?_
  clear DU
  rintro e W4 ⟨rfl, hb4⟩
  have R4 := Lib.hid (R3.out.below hb4)
  have K4 := Lib.hid (K3.out.trans (Keep.of_gr (Gr.of_below (R := R) hb4) R3.out.le))
  have hw4 := Lib.hid (hw3.out.keep (Gr.of_below hb4))
  have x4 := (hb4.cell (p := ⟨b, o, none⟩) ltb).trans x0'
  have sz4 := hb4.size
  clear hb4 R3 K3 hw3 x0'
  have FB := Lib.hid (failB w0 R vr vz vl (.slice (some ⟨b, o, none⟩) (l.length + 1) c) ln a0 (t.size : Int))
  go_wp2_with first
    | (go_at_call 47; refine (FB.out _ _ _ R5.out.blk R5.out.hb).mono ?_; rintro e W' ⟨rfl, hb⟩)
    | (go_at_call 77; refine (MN.out _).mono ?_; clear MN; rintro e W5 ⟨rfl, hb5⟩; have R5 := Lib.hid (R4.out.below hb5); have K5 := Lib.hid (K4.out.trans (Keep.of_gr (Gr.of_below (R := R) hb5) R4.out.le)); have hw5 := Lib.hid (hw4.out.keep (Gr.of_below hb5)); have sz5 := hb5.size; obtain ⟨ltR5, ⟨p0, p1, p2, p3, p4, p5, p6⟩, ⟨q0, q1, q2, q3, q4, q5, q6⟩⟩ := R5.out.blk.sevenR; clear hb5 R4 K4 hw4 x4)
  exact ⟨rfl, .inl ⟨by show ¬ (13 : Int) = 0; decide, rfl, hb⟩⟩
theorem ln_kind (w0 : World) (R hi : Nat) (S : Sr) (vr vz vl wv : Value) (ln st en : Int) (t : ByteArray) (W : World) (h : Rds w0 R hi S vr vz vl ln st en wv W) (t0 : ByteArray) (a0 : Int) (l : List (ByteArray × Int)) (a : Int) (SP : Hid (∀ X, Calls Tryz.prog 75 #[.string t] X (RetFldN X ((t0, a0) :: l, a, 0)))) (DU : Hid (∀ X st en wv, Rds w0 R hi S vr vz vl ln st en wv X → Calls Tryz.prog 46 #[.pointer (some ⟨R, 0, none⟩)] X fun e W' => e = .returned (.bool false) ∧ Below X.heap.size X W')) (K : FuncId) (eK : ∀ args w, (callFunc K args).run Tryz.prog w = .ok (.enter K args) w) (MN : Hid (∀ X, Calls Tryz.prog 77 #[.string t0] X fun e w' => e = .returned (.tuple #[.func (.func K) #[] #[], .bool true]) ∧ Below X.heap.size X w')) (S' : Sr) (F : Flt)
    (HK : Hid (∀ X A n c, Rds w0 R hi S vr vz vl ln a0 t.size (.slice A n c) X → Wd X R A n c l → Calls Tryz.prog K #[.pointer (some ⟨R, 0, none⟩)] X (Out w0 F (LnOk w0 R hi S' ln a0 t.size X)))) :
    Calls Tryz.prog 45 #[.pointer (some ⟨R, 0, none⟩), .string t] W (Out w0 F (LnR w0 R hi S' ln W)) := by
  have H0 := Lib.hid h
  have lt := h.lt
  have le := h.le
  obtain ⟨ltR, ⟨c0, c1, c2, c3, c4, c5, c6⟩, ⟨f0, f1, f2, f3, f4, f5, f6⟩⟩ := h.blk.sevenR
  clear h
  go_enter Tryz.func45, Tryz.ntmps45
  go_wp2_with fail
  refine (SP.out _).mono ?_
  clear SP
  rintro e W1 ⟨A, n, c, rfl, hF, hb, hN⟩
  have H1 := Lib.hid (H0.out.below hb)
  have K1 := Lib.hid (Keep.of_gr (Gr.of_below (R := R) hb) le)
  have sz1 := hb.size
  obtain ⟨ltR1, ⟨d0, d1, d2, d3, d4, d5, d6⟩, ⟨g0, g1, g2, g3, g4, g5, g6⟩⟩ := H1.out.blk.sevenR
  have hw : Wd W1 R A n c ((t0, a0) :: l) := ⟨hF, fun a e hn => by have := hN a e hn; omega⟩
  obtain ⟨b, o, rfl, hne, hlt, x0, x1, rfl, _⟩ := hw.first
  have T3 := Lib.hid (H1.out.three a0 (t.size : Int) (.slice (some ⟨b, o, none⟩) (l.length + 1) c))
  have HW := Lib.hid hw
  have hcp := hF.cap
  have hmx := hF.max
  have sz2 : (((W1.setCell ⟨R, 4, none⟩ (.int .i64 a0)).setCell ⟨R, 5, none⟩ (.int .i64 (t.size : Int))).setCell ⟨R, 6, none⟩ (.slice (some ⟨b, o, none⟩) (l.length + 1) c)).heap.size = W1.heap.size := by simp [World.setCell]
  have ll : ((l.length : Int) + 1 == 0) = false := by rw [beq_eq_false_iff_ne]; omega
  have ll2 : decide (((l.length : Int) + 1) = 0) = false := decide_eq_false (by omega)
  unfold maxLen at hmx
  clear hb hN hF hw H0 c0 c1 c2 c3 c4 c5 c6 f0 f1 f2 f3 f4 f5 f6
  go_wp2_with fail
  obtain ⟨r3, k3, q3⟩ := T3.out
  have x0' := gr_cell2 q3 hne hlt x0
  have hw3 := Lib.hid (HW.out.keep q3)
  have R3 := Lib.hid r3
  have K3 := Lib.hid (K1.out.trans k3)
  have ltb : b < (((W1.setCell ⟨R, 4, none⟩ (.int .i64 a0)).setCell ⟨R, 5, none⟩ (.int .i64 (t.size : Int))).setCell ⟨R, 6, none⟩ (.slice (some ⟨b, o, none⟩) (l.length + 1) c)).heap.size := by rw [sz2]; exact hlt
  clear r3 k3 q3 T3 K1 HW d0 d1 d2 d3 d4 d5 d6 g0 g1 g2 g3 g4 g5 g6 x0 x1 H1 ltR1 sz2
  generalize ((W1.setCell ⟨R, 4, none⟩ (.int .i64 a0)).setCell ⟨R, 5, none⟩ (.int .i64 (t.size : Int))).setCell ⟨R, 6, none⟩ (.slice (some ⟨b, o, none⟩) (l.length + 1) c) = W3 at *
  refine (DU.out _ _ _ _ R3.out).mono ?_
  clear DU
  rintro e W4 ⟨rfl, hb4⟩
  have R4 := Lib.hid (R3.out.below hb4)
  have K4 := Lib.hid (K3.out.trans (Keep.of_gr (Gr.of_below (R := R) hb4) R3.out.le))
  have hw4 := Lib.hid (hw3.out.keep (Gr.of_below hb4))
  have x4 := (hb4.cell (p := ⟨b, o, none⟩) ltb).trans x0'
  have sz4 := hb4.size
  clear hb4 R3 K3 hw3 x0'
  go_wp2_with first
    | fail
    | (go_at_call 77; refine (MN.out _).mono ?_; clear MN; rintro e W5 ⟨rfl, hb5⟩; have R5 := Lib.hid (R4.out.below hb5); have K5 := Lib.hid (K4.out.trans (Keep.of_gr (Gr.of_below (R := R) hb5) R4.out.le)); have hw5 := Lib.hid (hw4.out.keep (Gr.of_below hb5)); have sz5 := hb5.size; obtain ⟨ltR5, ⟨p0, p1, p2, p3, p4, p5, p6⟩, ⟨q0, q1, q2, q3, q4, q5, q6⟩⟩ := R5.out.blk.sevenR; clear hb5 R4 K4 hw4 x4)
  all_goals
    first
    | have r6 := R5.out.put 6 (.slice (some ⟨b, o + 2, none⟩) l.length (c - 1)) (by decide) (st' := a0) (en' := (t.size : Int)) rfl
      have hw6 : Wd (W5.setCell ⟨R, 6, none⟩ (.slice (some ⟨b, o + 2, none⟩) l.length (c - 1))) R (some ⟨b, o + 2, none⟩) l.length (c - 1) l := (hw5.out.first_rest).keep (Gr.set W5 6 _)
      refine (HK.out _ _ _ _ r6 hw6).mono ?_
      have K6 := Lib.hid (K5.out.set 6 (.slice (some ⟨b, o + 2, none⟩) l.length (c - 1)))
      clear HK r6 hw6 hw5 K5 R5
      rintro e W6 (⟨hx, rfl, hb⟩ | ⟨hx, rfl, vr', vz', vl', wv', r7, k7⟩)
      · exact ⟨rfl, .inl ⟨hx, rfl, hb⟩⟩
      have K7 := Lib.hid (K6.out.trans k7)
      have R7 := Lib.hid r7
      have X7 := Lib.hid hx
      clear r7 k7 hx
      go_wp2
      go_end0
      exact .inr ⟨X7.out, rfl, _, _, _, _, _, _, R7.out, K7.out⟩
    | have hl0 : l = [] := List.eq_nil_of_length_eq_zero (by first | assumption | omega)
      subst hl0
      have r6 := R5.out.put 6 (.slice (some ⟨b, o, none⟩) 0 0) (by decide) (st' := a0) (en' := (t.size : Int)) rfl
      have hw6 : Wd (W5.setCell ⟨R, 6, none⟩ (.slice (some ⟨b, o, none⟩) 0 0)) R (some ⟨b, o, none⟩) 0 0 [] := (hw5.out.first_rest.none_left 0 (Nat.zero_le _)).keep (Gr.set W5 6 _)
      refine (HK.out _ _ _ _ r6 hw6).mono ?_
      have K6 := Lib.hid (K5.out.set 6 (.slice (some ⟨b, o, none⟩) 0 0))
      clear HK r6 hw6 hw5 K5 R5
      rintro e W6 (⟨hx, rfl, hb⟩ | ⟨hx, rfl, vr', vz', vl', wv', r7, k7⟩)
      · exact ⟨rfl, .inl ⟨hx, rfl, hb⟩⟩
      have K7 := Lib.hid (K6.out.trans k7)
      have R7 := Lib.hid r7
      have X7 := Lib.hid hx
      clear r7 k7 hx
      go_wp2
      go_end0
      exact .inr ⟨X7.out, rfl, _, _, _, _, _, _, R7.out, K7.out⟩
theorem mn_rule : mnVal ruleT = .func (.func 111) #[] #[] ∧ mnB ruleT = true := ⟨if_pos rfl, decide_eq_true (.inl rfl)⟩
theorem mn_zone : mnVal zoneT = .func (.func 112) #[] #[] ∧ mnB zoneT = true := by
  have n : ¬ zoneT = ruleT := by decide
  exact ⟨by unfold mnVal; rw [if_neg n, if_pos rfl], decide_eq_true (.inr (.inl rfl))⟩
theorem mn_link : mnVal linkT = .func (.func 113) #[] #[] ∧ mnB linkT = true := by
  have n : ¬ linkT = ruleT := by decide
  have m : ¬ linkT = zoneT := by decide
  exact ⟨by unfold mnVal; rw [if_neg n, if_neg m, if_pos rfl], decide_eq_true (.inr (.inr rfl))⟩
theorem mn_none {t : ByteArray} (h1 : ¬ t = ruleT) (h2 : ¬ t = zoneT) (h3 : ¬ t = linkT) : mnVal t = .nilFunc ∧ mnB t = false :=
  ⟨by unfold mnVal; rw [if_neg h1, if_neg h2, if_neg h3], decide_eq_false (by rintro (c | c | c) <;> contradiction)⟩
theorem readLineP {w0 W : World} {R hi : Nat} {S : Sr} {vr vz vl wv : Value} {ln st en : Int} (M : Mom w0) (E : Errs w0) (f : S.fits) (t : ByteArray) (h : Rds w0 R hi S vr vz vl ln st en wv W) :
    Calls Tryz.prog 45 #[.pointer (some ⟨R, 0, none⟩), .string t] W (Out w0 (lineStep S t ln).1 (LnR w0 R hi (lineStep S t ln).2 ln W)) := by
  have SP := splitQ t
  have sz := splitC_sz t
  obtain ⟨ws, a, x, e⟩ : ∃ ws a x, splitC t = (ws, a, x) := ⟨_, _, _, rfl⟩
  unfold lineStep
  rw [e] at SP sz ⊢
  dsimp only at SP sz ⊢
  by_cases hx : x = 0
  · subst hx
    rw [if_neg (fun c => c rfl)]
    match ws, sz, SP with
    | [], _, SP =>
      rw [if_pos rfl]
      exact ln_none w0 R hi S vr vz vl wv ln st en t W h a (Lib.hid SP)
    | (t0, a0) :: l, sz, SP =>
      rw [if_neg (by simp)]
      have szl : ∀ x ∈ l, x.1.size ≤ 1000 := fun x hx => sz x (List.mem_cons_of_mem _ hx)
      have q0 : fx ((t0, a0) :: l) 0 = t0 := rfl
      have q1 : fa ((t0, a0) :: l) 0 = a0 := rfl
      unfold lineFlt lineSrc
      rw [q0, q1]
      dsimp only
      by_cases ht : S.til = true
      · rw [if_pos ht, if_pos ht]
        have hz : 0 < S.zones.length := by
          apply Classical.byContradiction
          intro c
          unfold Sr.til at ht
          rw [List.eq_nil_of_length_eq_zero (show S.zones.length = 0 by omega)] at ht
          exact absurd ht (by decide)
        obtain ⟨Z, z, hS⟩ := list_snoc hz
        have fz := f.z
        have fe := (f.e z (by rw [hS]; simp)).2
        have c1 : szFlt ((t0, a0) :: l) (t.size : Int) ln 3 7 = countRes ((t0, a0) :: l) t ln 3 7 := sz_count ((t0, a0) :: l) t ln 0 3 7 (Nat.zero_le _)
        rw [(til_snoc hS).2, ← c1, hS, addTo_end]
        rw [hS, List.length_append, List.length_singleton] at fz
        refine ln_far w0 R hi S vr vz vl wv ln st en t W h t0 a0 l a (Lib.hid SP) (Lib.hid fun X st en wv r => ht ▸ dueP r f) _ _ (Lib.hid fun X A n c r hw => ?_)
        exact furtherL M E ((t0, a0) :: l) sz r.lt r.le (r.rdr hw) r.src Z z hS (by omega) (by omega)
      · have ht' : S.til = false := by simpa using ht
        rw [if_neg ht, if_neg ht]
        have DU := Lib.hid (fun X st en wv (r : Rds w0 R hi S vr vz vl ln st en wv X) => ht' ▸ dueP r f)
        have MN := meaningP t0
        by_cases h1 : t0 = ruleT
        · rw [if_pos h1, if_pos h1]
          have c1 : szFlt l (t.size : Int) ln 9 9 = countRes ((t0, a0) :: l) t ln 10 10 := sz_count ((t0, a0) :: l) t ln 1 9 9 (by simp)
          rw [← c1]
          rw [h1, mn_rule.1, mn_rule.2, ← h1] at MN
          refine ln_kind w0 R hi S vr vz vl wv ln st en t W h t0 a0 l a (Lib.hid SP) DU _ (enters_of Tryz.func111 (by kernel_rfl) rfl) (Lib.hid MN) _ _ (Lib.hid fun X A n c r hw => ?_)
          exact ruleL M E (t0, a0) l szl r.lt r.le (r.rdr hw) r.src (by have := f.r; omega)
        rw [if_neg h1, if_neg h1]
        by_cases h2 : t0 = zoneT
        · rw [if_pos h2, if_pos h2]
          have c1 : szFlt l (t.size : Int) ln 4 8 = countRes ((t0, a0) :: l) t ln 5 9 := sz_count ((t0, a0) :: l) t ln 1 4 8 (by simp)
          rw [← c1]
          rw [h2, mn_zone.1, mn_zone.2, ← h2] at MN
          refine ln_kind w0 R hi S vr vz vl wv ln st en t W h t0 a0 l a (Lib.hid SP) DU _ (enters_of Tryz.func112 (by kernel_rfl) rfl) (Lib.hid MN) _ _ (Lib.hid fun X A n c r hw => ?_)
          exact zoneL M E (t0, a0) l szl r.lt r.le (r.rdr hw) r.src (by have := f.z; omega)
        rw [if_neg h2]
        by_cases h3 : t0 = linkT
        · rw [if_pos h3, if_neg h2]
          have c1 : szFlt l (t.size : Int) ln 2 2 = countRes ((t0, a0) :: l) t ln 3 3 := sz_count ((t0, a0) :: l) t ln 1 2 2 (by simp)
          rw [← c1]
          rw [h3, mn_link.1, mn_link.2, ← h3] at MN
          refine ln_kind w0 R hi S vr vz vl wv ln st en t W h t0 a0 l a (Lib.hid SP) DU _ (enters_of Tryz.func113 (by kernel_rfl) rfl) (Lib.hid MN) _ _ (Lib.hid fun X A n c r hw => ?_)
          exact linkL (t0, a0) l szl r.lt r.le (r.rdr hw) r.src (by have := f.l; omega)
        · rw [if_neg h3]
          rw [(mn_none h1 h2 h3).1, (mn_none h1 h2 h3).2] at MN
          refine (ln_word w0 R hi S vr vz vl wv ln st en t W h t0 a0 l a (Lib.hid SP) DU (Lib.hid MN)).mono ?_
          intro e W' o
          exact o.imp id fun k => absurd k.1 (by show ¬ (13 : Int) = 0; decide)
  · rw [if_pos hx]
    exact ln_bad w0 R hi S vr vz vl wv ln st en t W h ws a x hx (Lib.hid SP)
theorem catch_idle (b c : Nat) (w : World) : CallsD Tryz.prog 43 #[.pointer (some ⟨b, 0, none⟩), .pointer (some ⟨c, 0, none⟩)] .returning w fun e u' w' => e = .returned (.tuple #[]) ∧ u' = .returning ∧ w' = w := by
  refine callsD_of_wpS Tryz.func43 rfl fun c₀ cs hu => ?_
  apply wpS_seq
  apply wpS_region
  simp [wpOpsS, go_sem, recoverD, hu, Tryz.ntmps43, Exit.thenS]
  simp only [Array.replicate_succ, Array.replicate_zero, List.push_toArray, List.append_toArray, List.nil_append, List.cons_append, List.setIfInBounds_toArray, List.set_cons_zero, List.set_cons_succ]
  refine wpS_of_wp ?_
  go_wp2
  cases c₀
  simp_all [bodyPostS, results, Tryz.results43]
theorem assert_fault (v : Value) (T : TypeId) (w : World) : (Instr.typeAssert (.iface 29 v) T 29 false).run Tryz.prog w = .ok v w := by
  unfold Instr.typeAssert
  simp [Sem.run_bind, run_underlying Tryz.underlying29, Result.andThen]
theorem catch_world {w : World} {b c : Nat} {x0 x1 x2 y0 y1 y2 u0 u1 u2 v0 v1 v2 : Value} (hbc : b ≠ c) (hB : Blk w b [x0, x1, x2]) (hC : Blk w c [y0, y1, y2]) (X : World)
    (e : X = ((((((w.setCell ⟨b, 0, none⟩ u0).setCell ⟨b, 1, none⟩ u1).setCell ⟨b, 2, none⟩ u2).setCell ⟨c, 0, none⟩ v0).setCell ⟨c, 1, none⟩ v1).setCell ⟨c, 2, none⟩ v2).drew) :
    Blk X b [u0, u1, u2] ∧ Blk X c [v0, v1, v2] ∧ ∀ B, B ≤ b → B ≤ c → Below B w X := by
  subst e
  have k1 := ((hB.upd 0 u0 (by simp) [u0, x1, x2] rfl).upd 1 u1 (by simp) [u0, u1, x2] rfl).upd 2 u2 (by simp) [u0, u1, u2] rfl
  have k2 := ((hC.far (Ne.symm hbc).symm 0 u0).far (Ne.symm hbc).symm 1 u1).far (Ne.symm hbc).symm 2 u2
  refine ⟨Blk.drew (((k1.far (Ne.symm hbc) 0 v0).far (Ne.symm hbc) 1 v1).far (Ne.symm hbc) 2 v2), Blk.drew (((k2.upd 0 v0 (by simp) [v0, y1, y2] rfl).upd 1 v1 (by simp) [v0, v1, y2] rfl).upd 2 v2 (by simp) [v0, v1, v2] rfl), fun B h1 h2 => ?_⟩
  exact (((((((Below.refl B w).setCell (p := ⟨b, 0, none⟩) h1 u0).setCell (p := ⟨b, 1, none⟩) h1 u1).setCell (p := ⟨b, 2, none⟩) h1 u2).setCell (p := ⟨c, 0, none⟩) h2 v0).setCell (p := ⟨c, 1, none⟩) h2 v1).setCell (p := ⟨c, 2, none⟩) h2 v2).drew
theorem catch_panic (b c : Nat) (hbc : b ≠ c) (x0 x1 x2 y0 y1 y2 : Value) (x ln a : Int) (w : World) (hB : Blk w b [x0, x1, x2]) (hC : Blk w c [y0, y1, y2]) : CallsD Tryz.prog 43 #[.pointer (some ⟨b, 0, none⟩), .pointer (some ⟨c, 0, none⟩)] (.panicking [{ v := .iface 29 (.agg #[.int .i64 x, .int .i64 ln, .int .i64 a]), recovered := false }]) w fun e u' w' =>
    e = .returned (.tuple #[]) ∧ u' = .panicking [{ v := .iface 29 (.agg #[.int .i64 x, .int .i64 ln, .int .i64 a]), recovered := true }] ∧ Blk w' b [.slice none 0 0, .slice none 0 0, .slice none 0 0] ∧ Blk w' c [.int .i64 x, .int .i64 ln, .int .i64 a] ∧ ∀ B, B ≤ b → B ≤ c → Below B w w' := by
  have AF := assert_fault
  have HB := Lib.hid hB
  have HC := Lib.hid hC
  obtain ⟨lb, b0, b1, b2, bz0, bz1, bz2⟩ := hB.three
  obtain ⟨lc, c0, c1, c2, cz0, cz1, cz2⟩ := hC.three
  clear hB hC
  refine callsD_of_wpS Tryz.func43 rfl fun c₀ cs hu => ?_
  apply wpS_seq
  apply wpS_region
  simp [wpOpsS, go_sem, recoverD, hu, Tryz.ntmps43, Exit.thenS]
  simp only [Array.replicate_succ, Array.replicate_zero, List.push_toArray, List.append_toArray, List.nil_append, List.cons_append, List.setIfInBounds_toArray, List.set_cons_zero, List.set_cons_succ]
  refine wpS_of_wp ?_
  go_wp2_with fail
  go_region
  go_wp2
  simp [bodyPostS, results, Tryz.results43]
  exact catch_world hbc HB.out HC.out _ rfl
def readRes (s : ByteArray) : Sr × Flt :=
  if ¬ (linesGo (lnsFrom s 0 0) 1 .none).1.1 = 0 then (.none, (linesGo (lnsFrom s 0 0) 1 .none).1)
  else if (linesGo (lnsFrom s 0 0) 1 .none).2.til = true then (.none, (14, ((lnsFrom s 0 0).length : Int) + 1, 0))
  else ((linesGo (lnsFrom s 0 0) 1 .none).2, Flt.no)
def RetSA (w : World) (r : Sr × Flt) (e : Ending) (w' : World) : Prop := ∃ vr vz vl hi, e = .returned (.tuple #[.agg #[vr, vz, vl], r.2.val]) ∧ w.heap.size ≤ hi ∧ SrcAt w' hi r.1 vr vz vl ∧ Below w.heap.size w w'
def RdRel (w0 : World) (R hi : Nat) (ls : List ByteArray) (W3 : World) (v : Value) (wr : World) : Prop := ∃ (q : Nat) (S : Sr) (vr vz vl wv : Value) (st en : Int), q ≤ ls.length ∧ v = .int .i64 (q : Int) ∧ S.fits ∧ Rds w0 R hi S vr vz vl (q : Int) st en wv wr ∧ Keep hi R W3 wr ∧ linesGo ls 1 .none = linesGo (ls.drop q) ((q : Int) + 1) S
theorem Rds.line {w0 W : World} {R hi : Nat} {S : Sr} {vr vz vl wv : Value} {ln st en : Int} (h : Rds w0 R hi S vr vz vl ln st en wv W) (ln' : Int) : Rds w0 R hi S vr vz vl ln' st en wv (W.setCell ⟨R, 3, none⟩ (.int .i64 ln')) :=
  (Rds.stored h.ge h.lt h.le h.hb 3 (.int .i64 ln') h.blk (by simp [rdVals]) rfl h.src (Keep.refl hi R W)).1
theorem rgo_step {ls : List ByteArray} {q : Nat} {S : Sr} (h : q < ls.length) : linesGo (ls.drop q) ((q : Int) + 1) S = if (lineStep S ls[q] ((q : Int) + 1)).1.1 = 0 then linesGo (ls.drop (q + 1)) (((q + 1 : Nat) : Int) + 1) (lineStep S ls[q] ((q : Int) + 1)).2 else ((lineStep S ls[q] ((q : Int) + 1)).1, S) := by
  rw [List.drop_eq_getElem_cons h, linesGo]
  rfl
theorem rgo_end {ls : List ByteArray} {q : Nat} {S : Sr} {k : Int} (h : ¬ q < ls.length) : linesGo (ls.drop q) k S = (Flt.no, S) := by
  rw [List.drop_eq_nil_of_le (by omega)]
  rfl
theorem read_start (w W3 : World) (hb3 : Below (((w.alloc (.cells #[.slice none 0 0, .slice none 0 0, .slice none 0 0] 26)).alloc (.cells #[.int .i64 0, .int .i64 0, .int .i64 0] 29)).alloc (.cells #[.slice none 0 0, .slice none 0 0, .slice none 0 0, .int .i64 0, .int .i64 0, .int .i64 0, .slice none 0 0] 76)).heap.size (((w.alloc (.cells #[.slice none 0 0, .slice none 0 0, .slice none 0 0] 26)).alloc (.cells #[.int .i64 0, .int .i64 0, .int .i64 0] 29)).alloc (.cells #[.slice none 0 0, .slice none 0 0, .slice none 0 0, .int .i64 0, .int .i64 0, .int .i64 0, .slice none 0 0] 76)) W3) :
    Rds ((w.alloc (.cells #[.slice none 0 0, .slice none 0 0, .slice none 0 0] 26)).alloc (.cells #[.int .i64 0, .int .i64 0, .int .i64 0] 29)) (w.heap.size + 2) W3.heap.size .none (.slice none 0 0) (.slice none 0 0) (.slice none 0 0) 0 0 0 (.slice none 0 0) W3 ∧
    Blk ((w.alloc (.cells #[.slice none 0 0, .slice none 0 0, .slice none 0 0] 26)).alloc (.cells #[.int .i64 0, .int .i64 0, .int .i64 0] 29)) w.heap.size [.slice none 0 0, .slice none 0 0, .slice none 0 0] ∧ Blk ((w.alloc (.cells #[.slice none 0 0, .slice none 0 0, .slice none 0 0] 26)).alloc (.cells #[.int .i64 0, .int .i64 0, .int .i64 0] 29)) (w.heap.size + 1) [.int .i64 0, .int .i64 0, .int .i64 0] ∧
    Below w.heap.size w ((w.alloc (.cells #[.slice none 0 0, .slice none 0 0, .slice none 0 0] 26)).alloc (.cells #[.int .i64 0, .int .i64 0, .int .i64 0] 29)) ∧ ((w.alloc (.cells #[.slice none 0 0, .slice none 0 0, .slice none 0 0] 26)).alloc (.cells #[.int .i64 0, .int .i64 0, .int .i64 0] 29)).heap.size = w.heap.size + 2 ∧ W3.heap[w.heap.size + 2]? = some (.cells #[.slice none 0 0, .slice none 0 0, .slice none 0 0, .int .i64 0, .int .i64 0, .int .i64 0, .slice none 0 0] 76) ∧ w.heap.size + 2 < W3.heap.size := by
  have z0 : ((w.alloc (.cells #[.slice none 0 0, .slice none 0 0, .slice none 0 0] 26)).alloc (.cells #[.int .i64 0, .int .i64 0, .int .i64 0] 29)).heap.size = w.heap.size + 2 := by simp
  have k3 := blk_lit ((w.alloc (.cells #[.slice none 0 0, .slice none 0 0, .slice none 0 0] 26)).alloc (.cells #[.int .i64 0, .int .i64 0, .int .i64 0] 29)) 76 [.slice none 0 0, .slice none 0 0, .slice none 0 0, .int .i64 0, .int .i64 0, .int .i64 0, .slice none 0 0]
  rw [z0] at k3
  have z1 := hb3.size
  have z2 : (((w.alloc (.cells #[.slice none 0 0, .slice none 0 0, .slice none 0 0] 26)).alloc (.cells #[.int .i64 0, .int .i64 0, .int .i64 0] 29)).alloc (.cells #[.slice none 0 0, .slice none 0 0, .slice none 0 0, .int .i64 0, .int .i64 0, .int .i64 0, .slice none 0 0] 76)).heap.size = w.heap.size + 3 := by simp
  rw [z2] at z1
  have k2 := blk_lit (w.alloc (.cells #[.slice none 0 0, .slice none 0 0, .slice none 0 0] 26)) 29 [.int .i64 0, .int .i64 0, .int .i64 0]
  rw [World.size_alloc] at k2
  have b0 := below_box ((w.alloc (.cells #[.slice none 0 0, .slice none 0 0, .slice none 0 0] 26)).alloc (.cells #[.int .i64 0, .int .i64 0, .int .i64 0] 29)) (.cells #[.slice none 0 0, .slice none 0 0, .slice none 0 0, .int .i64 0, .int .i64 0, .int .i64 0, .slice none 0 0] 76)
  have hh : (((w.alloc (.cells #[.slice none 0 0, .slice none 0 0, .slice none 0 0] 26)).alloc (.cells #[.int .i64 0, .int .i64 0, .int .i64 0] 29)).alloc (.cells #[.slice none 0 0, .slice none 0 0, .slice none 0 0, .int .i64 0, .int .i64 0, .int .i64 0, .slice none 0 0] 76)).heap[w.heap.size + 2]? = some (.cells #[.slice none 0 0, .slice none 0 0, .slice none 0 0, .int .i64 0, .int .i64 0, .int .i64 0, .slice none 0 0] 76) := by
    have := World.alloc_heap_new ((w.alloc (.cells #[.slice none 0 0, .slice none 0 0, .slice none 0 0] 26)).alloc (.cells #[.int .i64 0, .int .i64 0, .int .i64 0] 29)) (.cells #[.slice none 0 0, .slice none 0 0, .slice none 0 0, .int .i64 0, .int .i64 0, .int .i64 0, .slice none 0 0] 76)
    rwa [z0] at this
  refine ⟨⟨by omega, by omega, Nat.le_refl _, below_thru b0 hb3, k3.below hb3, SrcAt.empty _ _⟩, (blk_lit w 26 [.slice none 0 0, .slice none 0 0, .slice none 0 0]).more _, k2, below_thru (below_box w _) (below_box _ _), z0, (hb3.block _ (by rw [z2]; omega)).trans hh, by omega⟩
theorem six_world {w : World} {b c : Nat} {S : Sr} {vr vz vl : Value} {x0 x1 x2 y0 y1 y2 u0 u1 u2 v0 v1 v2 : Value} {X : World} (hbc : b ≠ c) (hB : Blk w b [x0, x1, x2]) (hC : Blk w c [y0, y1, y2]) (hi : Nat) (SA : SrcAt w hi S vr vz vl) (h1 : b < hi) (h2 : c < hi)
    (e : X = (((((w.setCell ⟨b, 0, none⟩ u0).setCell ⟨b, 1, none⟩ u1).setCell ⟨b, 2, none⟩ u2).setCell ⟨c, 0, none⟩ v0).setCell ⟨c, 1, none⟩ v1).setCell ⟨c, 2, none⟩ v2) :
    Blk X b [u0, u1, u2] ∧ Blk X c [v0, v1, v2] ∧ (∀ B, B ≤ b → B ≤ c → Below B w X) ∧ SrcAt X hi S vr vz vl := by
  subst e
  have k1 := ((hB.upd 0 u0 (by simp) [u0, x1, x2] rfl).upd 1 u1 (by simp) [u0, u1, x2] rfl).upd 2 u2 (by simp) [u0, u1, u2] rfl
  have k2 := ((hC.far (Ne.symm hbc).symm 0 u0).far (Ne.symm hbc).symm 1 u1).far (Ne.symm hbc).symm 2 u2
  refine ⟨((k1.far (Ne.symm hbc) 0 v0).far (Ne.symm hbc) 1 v1).far (Ne.symm hbc) 2 v2, ((k2.upd 0 v0 (by simp) [v0, y1, y2] rfl).upd 1 v1 (by simp) [v0, v1, y2] rfl).upd 2 v2 (by simp) [v0, v1, v2] rfl, fun B h1 h2 => ?_, ?_⟩
  · exact ((((((Below.refl B w).setCell (p := ⟨b, 0, none⟩) h1 u0).setCell (p := ⟨b, 1, none⟩) h1 u1).setCell (p := ⟨b, 2, none⟩) h1 u2).setCell (p := ⟨c, 0, none⟩) h2 v0).setCell (p := ⟨c, 1, none⟩) h2 v1).setCell (p := ⟨c, 2, none⟩) h2 v2
  · exact (((((SA.gr (Gr.set _ 0 u0) h1).gr (Gr.set _ 1 u1) h1).gr (Gr.set _ 2 u2) h1).gr (Gr.set _ 0 v0) h2).gr (Gr.set _ 1 v1) h2).gr (Gr.set _ 2 v2) h2
theorem lines_apart {W3 : World} {R g o : Nat} {t : ByteArray} (hR : W3.heap[R]? = some (.cells #[.slice none 0 0, .slice none 0 0, .slice none 0 0, .int .i64 0, .int .i64 0, .int .i64 0, .slice none 0 0] 76)) (h : W3.cell? ⟨g, o, none⟩ = some (.string t)) : g ≠ R := by
  intro c
  subst c
  unfold World.cell? at h
  simp only [hR] at h
  match o, h with
  | 0, h => simp at h
  | 1, h => simp at h
  | 2, h => simp at h
  | 3, h => simp at h
  | 4, h => simp at h
  | 5, h => simp at h
  | 6, h => simp at h
  | o + 7, h => simp at h
theorem readP (s : ByteArray) (hs : s.size ≤ 1000000) (w : World) (M : Mom w) (E : Errs w) : Calls Tryz.prog 24 #[.string s] w (RetSA w (readRes s)) := by
  have hmf : ∀ (fn : Fn) (first cap : Array Value) (w : World), (Instr.makeFunc fn first cap).run Tryz.prog w = .ok (.func fn first cap) w := fun _ _ _ _ => rfl
  have LN := Lib.hid (linesP s hs)
  have MH := Lib.hid M
  have EH := Lib.hid E
  clear M E
  have HR := Lib.hid (show readRes s = if ¬ (linesGo (lnsFrom s 0 0) 1 .none).1.1 = 0 then (.none, (linesGo (lnsFrom s 0 0) 1 .none).1) else if (linesGo (lnsFrom s 0 0) 1 .none).2.til = true then (.none, (14, ((lnsFrom s 0 0).length : Int) + 1, 0)) else ((linesGo (lnsFrom s 0 0) 1 .none).2, Flt.no) from rfl)
  have szl : (lnsFrom s 0 0).length ≤ 1000000 := by have := lns_count (s := s) s.size 0 (by omega) (Nat.zero_le _); omega
  generalize readRes s = res at *
  generalize lnsFrom s 0 0 = ls at *
  go_enter_defers Tryz.func24, Tryz.ntmps24
  go_wp2_with fail
  refine (LN.out _).mono ?_
  clear LN
  rintro e W3 ⟨A, n, c, rfl, hS, hb3⟩
  obtain ⟨rd, kb, kc, bw, sz0, hR, ltR⟩ := read_start w W3 hb3
  obtain rfl := hS.len
  have M0 := Lib.hid (MH.out.mono bw)
  have E0 := Lib.hid (EH.out.mono bw)
  have RD := Lib.hid rd
  have KB := Lib.hid kb
  have KC := Lib.hid kc
  have BW := Lib.hid bw
  have CL := Lib.hid hS.cells
  have hcp := hS.cap
  have hmx := hS.max
  have HH := Lib.hid hR
  unfold maxLen at hmx
  clear rd kb kc bw hS hb3 MH EH hR
  generalize hw0 : (w.alloc (.cells #[.slice none 0 0, .slice none 0 0, .slice none 0 0] 26)).alloc (.cells #[.int .i64 0, .int .i64 0, .int .i64 0] 29) = w0 at *
  clear hw0
  go_wp2_with fail
  go_loopw [6, 11] (fun _ v wr => RdRel w0 (w.heap.size + 2) W3.heap.size ls W3 v wr) (fun _ v _ => ls.length - (intOf v).toNat)
  case atStart => exact ⟨0, .none, _, _, _, _, _, _, Nat.zero_le _, rfl, fits_none, RD.out, Keep.refl _ _ _, rfl⟩
  case round =>
    obtain ⟨q, S, vr, vz, vl, wv, st, en, hq, rfl, hf, hrd, hk, hg⟩ := hrel
    have wq1 : wrap64 ((q : Int) + 1) = (q : Int) + 1 := by unfold wrap64; omega
    have wq2 : IntKind.i64.wrap ((q : Int) + 1) = (q : Int) + 1 := by rw [IntWalk.i64_in _ (by omega)]
    have szr := hk.size
    obtain ⟨ltr, ⟨c0, c1, c2, c3, c4, c5, c6⟩, ⟨f0, f1, f2, f3, f4, f5, f6⟩⟩ := hrd.blk.sevenR
    by_cases hqn : q < ls.length
    · have d1 : decide ((q : Int) < (ls.length : Int)) = true := decide_eq_true (by omega)
      obtain ⟨g, o, rfl, hgl, hc⟩ := CL.out (by omega)
      have x0 := hc q hqn
      have ng := lines_apart HH.out x0
      have xq := (World.cell?_of_block (w := W3) (a := ⟨g, o + q, none⟩) (hk.block g hgl ng)).trans x0
      have r1 := hrd.line ((q : Int) + 1)
      have RL := Lib.hid (readLineP M0.out E0.out hf ls[q] r1)
      have kk := Lib.hid (hk.set 3 (.int .i64 ((q : Int) + 1)))
      have GS := Lib.hid (rgo_step (S := S) hqn)
      have GG := Lib.hid hg
      have szs : (wr.setCell ⟨w.heap.size + 2, 3, none⟩ (.int .i64 ((q : Int) + 1))).heap.size = wr.heap.size := by simp [World.setCell]
      have HF := Lib.hid hf
      clear hf hg hc hk hrd r1 x0 c0 c1 c2 c4 c5 c6 f0 f1 f2 f4 f5 f6 CL RD
      generalize ls[q] = t at *
      go_wp2_with fail
      refine RL.out.mono ?_
      clear RL
      rintro e W4 (⟨hx, rfl, hb⟩ | ⟨hx, rfl, vr', vz', vl', st', en', wv', r5, k5⟩)
      · refine leaves_cons (f := 43) (args := #[.pointer (some ⟨w.heap.size, 0, none⟩), .pointer (some ⟨w.heap.size + 1, 0, none⟩)]) (by simp) (by simp [go_sem]) ?_
        refine (catch_panic w.heap.size (w.heap.size + 1) (by omega) _ _ _ _ _ _ _ _ _ W4 (KB.out.below (hb.mono (by omega))) (KC.out.below (hb.mono (by omega)))).mono ?_
        rintro e u' w'' ⟨rfl, rfl, hB2, hC2, hbb⟩
        have re : res = (.none, (lineStep S t ((q : Int) + 1)).1) := by
          rw [HR.out, GG.out, GS.out, if_neg hx, if_pos hx]
        obtain ⟨_, p0, p1, p2, _, _, _⟩ := hB2.three
        obtain ⟨_, p3, p4, p5, _, _, _⟩ := hC2.three
        have fin : RetSA w res (.returned (.tuple #[.agg #[.slice none 0 0, .slice none 0 0, .slice none 0 0], (lineStep S t ((q : Int) + 1)).1.val])) w'' := re.symm ▸ ⟨.slice none 0 0, .slice none 0 0, .slice none 0 0, w.heap.size, rfl, Nat.le_refl _, SrcAt.empty _ _, (BW.out.trans (hb.mono (by omega))).trans (hbb _ (Nat.le_refl _) (by omega))⟩
        simp [Leaves, settle, results, Tryz.results24, go_sem, p0, p1, p2, p3, p4, p5]
        exact fin
      · have R5 := Lib.hid r5
        have K5 := Lib.hid (kk.out.trans k5)
        have F5 := Lib.hid (fits_step HF.out hx)
        have G5 := Lib.hid (show linesGo ls 1 .none = linesGo (ls.drop (q + 1)) (((q + 1 : Nat) : Int) + 1) (lineStep S t ((q : Int) + 1)).2 by rw [GG.out, GS.out, if_pos hx])
        clear r5 k5 kk HF GG GS hx
        go_wp2_with fail
        go_roundw
        case rel => exact ⟨q + 1, _, _, _, _, _, _, _, by omega, by simp, F5.out, by have := R5.out; simpa using this, K5.out, G5.out⟩
        case measure => simp only [intOf]; omega
    · have d1 : decide ((q : Int) < (ls.length : Int)) = false := decide_eq_false (by omega)
      obtain rfl : q = ls.length := by omega
      have GG := Lib.hid (hg.trans (rgo_end hqn))
      have DU := dueP hrd hf
      have BW4 := Lib.hid hrd.hb
      have RD4 := Lib.hid hrd
      cases ht : S.til
      · rw [ht] at DU
        obtain ⟨zs, hzs⟩ := hrd.src.zonesA
        obtain ⟨Ar, cr, er⟩ := own_sl hrd.src.rules
        obtain ⟨Az, cz, ez⟩ := own_sl hzs
        obtain ⟨Al, cl, el⟩ := own_sl hrd.src.links
        clear hzs
        have DH := Lib.hid DU
        have re : res = (S, Flt.no) := by
          rw [HR.out, GG.out, if_neg (fun c => c rfl), if_neg (by rw [ht]; decide)]
        have RE := Lib.hid re
        clear DU hg hf hk hrd hq ht RD re CL c0 c1 c2 c3 c4 c5 c6 f0 f1 f2 f3 f4 f5 f6
        go_wp2_with fail
        refine DH.out.mono ?_
        clear DH
        rintro e W4 ⟨rfl, hb4⟩
        have rd4 := RD4.out.below hb4
        have kb4 := KB.out.below rd4.hb
        have kc4 := KC.out.below rd4.hb
        have H4 := Lib.hid rd4.hb
        have S4 := Lib.hid rd4.src
        subst er ez el
        obtain ⟨ltr4, ⟨c0, c1, c2, c3, c4, c5, c6⟩, ⟨f0, f1, f2, f3, f4, f5, f6⟩⟩ := rd4.blk.sevenR
        have szb := kb4.lt
        obtain ⟨_, b0, b1, b2, z0, z1, z2⟩ := kb4.three
        obtain ⟨_, y0, y1, y2, v0, v1, v2⟩ := kc4.three
        have CW := Lib.hid (fun X e => six_world (X := X) (u0 := .slice Ar S.rules.length cr) (u1 := .slice Az S.zones.length cz) (u2 := .slice Al S.links.length cl) (v0 := .int .i64 0) (v1 := .int .i64 0) (v2 := .int .i64 0) (show w.heap.size ≠ w.heap.size + 1 by omega) kb4 kc4 W3.heap.size S4.out (by omega) (by omega) e)
        clear rd4 kb4 kc4 hb4 RD4
        go_wp2
        refine leaves_cons (f := 43) (args := #[.pointer (some ⟨w.heap.size, 0, none⟩), .pointer (some ⟨w.heap.size + 1, 0, none⟩)]) (by simp) (by simp [go_sem]) ?_
        refine (catch_idle w.heap.size (w.heap.size + 1) _).mono ?_
        rintro e u' w'' ⟨rfl, rfl, rfl⟩
        obtain ⟨q1, q2, q3, q4⟩ := CW.out _ rfl
        obtain ⟨_, p0, p1, p2, _, _, _⟩ := q1.three
        obtain ⟨_, p3, p4, p5, _, _, _⟩ := q2.three
        simp [Leaves, settle, results, Tryz.results24, go_sem, p0, p1, p2, p3, p4, p5]
        rw [RE.out]
        exact ⟨_, _, _, W3.heap.size, rfl, by omega, q4, (BW.out.trans (H4.out.mono (by omega))).trans (q3 _ (Nat.le_refl _) (by omega))⟩
      · rw [ht] at DU
        have DH := Lib.hid DU
        have re : res = (.none, (14, (ls.length : Int) + 1, 0)) := by
          rw [HR.out, GG.out, if_neg (fun c => c rfl), if_pos ht]
        clear DU hg hf hk hrd hq ht RD CL c0 c1 c2 c3 c4 c5 c6 f0 f1 f2 f3 f4 f5 f6
        have RE := Lib.hid re
        clear re
        go_wp2_with fail
        refine DH.out.mono ?_
        clear DH
        rintro e W4 ⟨rfl, hb4⟩
        have rd4 := RD4.out.below hb4
        have rd5 := rd4.line ((ls.length : Int) + 1)
        have FB := Lib.hid (failB w0 (w.heap.size + 2) vr vz vl wv ((ls.length : Int) + 1) st en 14 0 _ rd5.blk rd5.hb)
        obtain ⟨ltr4, ⟨c0, c1, c2, c3, c4, c5, c6⟩, ⟨f0, f1, f2, f3, f4, f5, f6⟩⟩ := rd4.blk.sevenR
        clear rd4 rd5 hb4 RD4
        go_wp2_with fail
        refine FB.out.mono ?_
        clear FB
        rintro e W5 ⟨rfl, hb⟩
        refine leaves_cons (f := 43) (args := #[.pointer (some ⟨w.heap.size, 0, none⟩), .pointer (some ⟨w.heap.size + 1, 0, none⟩)]) (by simp) (by simp [go_sem]) ?_
        refine (catch_panic w.heap.size (w.heap.size + 1) (by omega) _ _ _ _ _ _ _ _ _ W5 (KB.out.below (hb.mono (by omega))) (KC.out.below (hb.mono (by omega)))).mono ?_
        rintro e u' w'' ⟨rfl, rfl, hB2, hC2, hbb⟩
        obtain ⟨_, p0, p1, p2, _, _, _⟩ := hB2.three
        obtain ⟨_, p3, p4, p5, _, _, _⟩ := hC2.three
        have fin : RetSA w res (.returned (.tuple #[.agg #[.slice none 0 0, .slice none 0 0, .slice none 0 0], (.agg #[.int .i64 14, .int .i64 ((ls.length : Int) + 1), .int .i64 0])])) w'' := RE.out.symm ▸ ⟨.slice none 0 0, .slice none 0 0, .slice none 0 0, w.heap.size, rfl, Nat.le_refl _, SrcAt.empty _ _, (BW.out.trans (hb.mono (by omega))).trans (hbb _ (Nat.le_refl _) (by omega))⟩
        simp [Leaves, settle, results, Tryz.results24, go_sem, p0, p1, p2, p3, p4, p5]
        exact fin
theorem flat_at {α : Type} {f : α → List Value} {k : Nat} : ∀ (L : List α), (∀ x ∈ L, (f x).length = k) → ∀ (i j : Nat) (h : i < L.length) (u : Value), (f L[i])[j]? = some u → (L.flatMap f)[i * k + j]? = some u
  | [], _, i, _, h, _, _ => absurd h (Nat.not_lt_zero i)
  | x :: L, hk, i, j, h, u, hu => by
    have hx := hk x (List.mem_cons_self ..)
    rw [List.flatMap_cons]
    cases i with
    | zero =>
      have hu' : (f x)[j]? = some u := hu
      have lt : j < (f x).length := by
        apply Classical.byContradiction
        intro c
        rw [List.getElem?_eq_none (by omega)] at hu'
        cases hu'
      rw [Nat.zero_mul, Nat.zero_add, List.getElem?_append_left lt]
      exact hu'
    | succ i =>
      rw [Nat.succ_mul, List.getElem?_append_right (by omega), hx, show i * k + k + j - k = i * k + j by omega]
      exact flat_at L (fun y hy => hk y (List.mem_cons_of_mem _ hy)) i j (by simpa using h) u hu
theorem rs_of_own {α : Type} {f : α → List Value} {k : Nat} {w : World} {base : Nat} {e : TypeId} {v : Value} {L : List α} (hk : ∀ x ∈ L, (f x).length = k) (h : w.ownsRow base e k v L.length (L.flatMap f)) : ∃ A c, v = .slice A L.length c ∧ Rs k w A L.length c (L.map f) := by
  rcases h.2 with ⟨a, b⟩ | ⟨g, cap, cur, a, _, hh, hnc, hm, _, _⟩
  · refine ⟨none, 0, by rw [a, b], ?_⟩
    rw [List.eq_nil_of_length_eq_zero b]
    exact Rs.nil k w
  · refine ⟨_, _, a, ⟨List.length_map .., hnc, hm, fun _ => ⟨g, 0, rfl, ?_, fun i hi j u hu => ?_⟩⟩⟩
    · exact (h.lt g (by rw [a]; rfl)).2
    · rw [Nat.zero_add]
      subst a
      refine own_cell h (i * k + j) u (flat_at L hk i j (by simpa using hi) u ?_)
      simpa using hu
def hdOf : Value → Hd
  | .slice a n c => ⟨a, n, c⟩
  | _ => ⟨none, 0, 0⟩
theorem SrcAt.toV {W : World} {hi : Nat} {S : Sr} {vr vz vl : Value} (h : SrcAt W hi S vr vz vl) : ∃ (a b c : Hd) (ze : List Ze), vr = a.val ∧ vz = b.val ∧ vl = c.val ∧ SrcV W S a b c ze := by
  obtain ⟨ze, e, o⟩ := h
  have o1 : W.ownsRow hi 57 11 vr S.rules.length (S.rules.flatMap Rl.vals) := o.own _ (List.mem_cons_self ..)
  have o2 : W.ownsRow hi 59 2 vl S.links.length (S.links.flatMap Lk.vals) := o.own _ (List.mem_cons_of_mem _ (List.mem_cons_self ..))
  have o3 : W.ownsRow hi 55 2 vz ze.length (ze.flatMap fun p => p.1.vals p.2) := o.own (zonesO vz ze) (List.mem_cons_of_mem _ (List.mem_cons_of_mem _ (List.mem_cons_self ..)))
  have o4 : ∀ p ∈ ze, W.ownsRow hi 52 13 p.2 p.1.eras.length (p.1.eras.flatMap Er.vals) := fun p hp => o.own (erasO p.2 p.1.eras) (List.mem_cons_of_mem _ (List.mem_cons_of_mem _ (List.mem_cons_of_mem _ (List.mem_map.2 ⟨p, hp, rfl⟩))))
  obtain ⟨A1, c1, e1, r1⟩ := rs_of_own (f := Rl.vals) (k := 11) (fun x _ => rfl) o1
  obtain ⟨A2, c2, e2, r2⟩ := rs_of_own (f := Lk.vals) (k := 2) (fun x _ => rfl) o2
  obtain ⟨A3, c3, e3, r3⟩ := rs_of_own (f := fun p : Zn × Value => p.1.vals p.2) (k := 2) (fun x _ => rfl) o3
  have hd : ∀ p ∈ ze, (hdOf p.2).val = p.2 := fun p hp => by
    obtain ⟨A, c, q, _⟩ := rs_of_own (f := Er.vals) (k := 13) (fun x _ => rfl) (o4 p hp)
    rw [q]
    rfl
  refine ⟨⟨A1, _, c1⟩, ⟨A3, _, c3⟩, ⟨A2, _, c2⟩, ze.map fun p => (p.1, hdOf p.2), e1, e3, e2, ⟨r1, ?_, r2, ?_, ?_⟩⟩
  · have : (ze.map fun p => (p.1, hdOf p.2)).map Ze.vals = ze.map fun p => p.1.vals p.2 := by
      rw [List.map_map]
      refine List.map_congr_left fun p hp => ?_
      show [.string p.1.name, (hdOf p.2).val] = _
      rw [hd p hp]
      rfl
    rw [this]
    exact r3
  · intro q hq
    obtain ⟨p, hp, rfl⟩ := List.mem_map.1 hq
    obtain ⟨A, c, q, r⟩ := rs_of_own (f := Er.vals) (k := 13) (fun x _ => rfl) (o4 p hp)
    unfold eraRows
    dsimp only
    rw [q]
    exact r
  · rw [List.map_map]
    exact e
theorem src_read {s : ByteArray} (h : ¬ 100000 < s.size) : srcRes s = readRes s := if_neg h
theorem two_boxes (w : World) (A B : Array Value) (TA TB : TypeId) : Blk ((w.alloc (.cells A TA)).alloc (.cells B TB)) w.heap.size A.toList ∧ Blk ((w.alloc (.cells A TA)).alloc (.cells B TB)) (w.heap.size + 1) B.toList ∧ Below w.heap.size w ((w.alloc (.cells A TA)).alloc (.cells B TB)) ∧ ((w.alloc (.cells A TA)).alloc (.cells B TB)).heap.size = w.heap.size + 2 := by
  have k2 := blk_lit (w.alloc (.cells A TA)) TB B.toList
  rw [World.size_alloc] at k2
  exact ⟨(blk_lit w TA A.toList).more _, k2, below_thru (below_box w _) (below_box _ _), by simp⟩
theorem parseSrcP (s : ByteArray) (hs : s.size ≤ maxLen) (w : World) (M : Mom w) (E : Errs w) : Calls Tryz.prog 9 #[.string s] w (RetSrcF w (srcRes s)) := by
  have sz : s.size ≤ 9223372036854775807 := hs
  obtain ⟨kb, kc, bw, sz0⟩ := two_boxes w #[.slice none 0 0, .slice none 0 0, .slice none 0 0] #[.int .i64 0, .int .i64 0, .int .i64 0] 26 29
  by_cases h : 100000 < s.size
  · have g : decide (100000 < s.size) = true := decide_eq_true h
    have g' : decide ((100000 : Int) < s.size) = true := decide_eq_true (by omega)
    have HR := Lib.hid (show srcRes s = (.none, (12, 0, 0)) from if_pos h)
    clear h M E
    go_enter Tryz.func9, Tryz.ntmps9
    go_wp2
    obtain ⟨kb', kc', bw', _⟩ := two_boxes w #[.slice none 0 0, .slice none 0 0, .slice none 0 0] #[.int .i64 12, .int .i64 0, .int .i64 0] 26 29
    obtain ⟨_, p0, p1, p2, _, _, _⟩ := kb'.three
    obtain ⟨_, p3, p4, p5, _, _, _⟩ := kc'.three
    simp [bodyPost, results, Tryz.results9, go_sem, p0, p1, p2, p3, p4, p5]
    rw [HR.out]
    exact ⟨⟨none, 0, 0⟩, ⟨none, 0, 0⟩, ⟨none, 0, 0⟩, [], rfl, ⟨Rs.nil _ _, Rs.nil _ _, Rs.nil _ _, (fun p h => absurd h List.not_mem_nil), rfl⟩, bw'⟩
  · have g : decide (100000 < s.size) = false := decide_eq_false h
    have g' : decide ((100000 : Int) < s.size) = false := decide_eq_false (by omega)
    have RP0 := fun X M E => (src_read h) ▸ readP s (by omega) X M E
    have MB := Lib.hid (M.mono bw)
    have EB := Lib.hid (E.mono bw)
    clear h M E
    generalize srcRes s = res at *
    obtain ⟨S, x, ln, a⟩ := res
    have RP := Lib.hid (fun X M E => (RP0 X M E).mono (R' := fun e W' => ∃ (A1 : Option Addr) (n1 c1 : Nat) (A2 : Option Addr) (n2 c2 : Nat) (A3 : Option Addr) (n3 c3 hi : Nat), e = .returned (.tuple #[.agg #[.slice A1 n1 c1, .slice A2 n2 c2, .slice A3 n3 c3], .agg #[.int .i64 x, .int .i64 ln, .int .i64 a]]) ∧ X.heap.size ≤ hi ∧ SrcAt W' hi S (.slice A1 n1 c1) (.slice A2 n2 c2) (.slice A3 n3 c3) ∧ Below X.heap.size X W') fun e W' ⟨vr, vz, vl, hi, he, h1, h2, h3⟩ => by
      obtain ⟨xs, hz⟩ := h2.zonesA
      obtain ⟨A1, c1, rfl⟩ := own_sl h2.rules
      obtain ⟨A2, c2, rfl⟩ := own_sl hz
      obtain ⟨A3, c3, rfl⟩ := own_sl h2.links
      exact ⟨_, _, _, _, _, _, _, _, _, hi, he, h1, h2, h3⟩)
    clear RP0
    have KB := Lib.hid kb
    have KC := Lib.hid kc
    have BW := Lib.hid bw
    clear kb kc bw
    go_enter Tryz.func9, Tryz.ntmps9
    go_wp2_with fail
    refine (RP.out _ MB.out EB.out).mono ?_
    clear RP MB EB
    rintro e W1 ⟨A1, n1, c1, A2, n2, c2, A3, n3, c3, hi, rfl, hhi, SA, hb⟩
    rw [sz0] at hhi
    have kb1 := KB.out.below hb
    have kc1 := KC.out.below hb
    have bw1 := Lib.hid (below_thru BW.out hb)
    obtain ⟨_, b0, b1, b2, z0, z1, z2⟩ := kb1.three
    obtain ⟨_, y0, y1, y2, v0, v1, v2⟩ := kc1.three
    have CW := Lib.hid (fun X e => six_world (X := X) (u0 := .slice A1 n1 c1) (u1 := .slice A2 n2 c2) (u2 := .slice A3 n3 c3) (v0 := .int .i64 x) (v1 := .int .i64 ln) (v2 := .int .i64 a) (show w.heap.size ≠ w.heap.size + 1 by omega) kb1 kc1 hi SA (by omega) (by omega) e)
    clear kb1 kc1 hb SA KB KC BW
    go_wp2
    obtain ⟨q1, q2, q3, q4⟩ := CW.out _ rfl
    obtain ⟨_, p0, p1, p2, _, _, _⟩ := q1.three
    obtain ⟨_, p3, p4, p5, _, _, _⟩ := q2.three
    simp [bodyPost, results, Tryz.results9, go_sem, p0, p1, p2, p3, p4, p5]
    obtain ⟨ha, hb', hc, ze, e1, e2, e3, SV⟩ := q4.toV
    exact ⟨ha, hb', hc, ze, by rw [← e1, ← e2, ← e3]; rfl, SV, bw1.out.trans (q3 _ (Nat.le_refl _) (by omega))⟩
end Go.Proofs.YtnkmlfbnfndfpaaGreatDoor
