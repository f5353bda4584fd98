/- The document's answer of layer 2: is a number a wide one; that. -/
import Derived.Test.YtnopgdheffnfdaaWof
import Derived.Test.YtnopgdheffnfdaaFits
import Derived.Test.YtnopgdheffnfdaaDiv
import Derived.Test.YtnopgdheffnfdaaAny
namespace Go.Proofs.Ytnopgdheffnfdaa
open Go.RowKit

theorem two127_pow : (2 : Int) ^ 127 = two127 := by decide
theorem power127 (W : World) : Calls Try.prog 37 #[.int .i64 127] W (RetZ W two127) := by
  have := power_any 127 (by decide) W
  rw [two127_pow] at this
  exact this
theorem pow8 : (65536 : Nat) ^ 8 = 340282366920938463463374607431768211456 := by decide
theorem two127_small : (two127).natAbs < 65536 ^ 8 := by rw [pow8]; decide
theorem ntwo127_small : (-two127).natAbs < 65536 ^ 8 := by rw [pow8]; decide
set_option maxHeartbeats 4000000 in
theorem wfits_great (p : Bool) (A : Option Addr) (n c : Nat) (z : Int) (w : World) (hz : Zs w p A n c z) (hn : n ≤ 2000) (h : two127 ≤ z) :
    Calls Try.prog 57 #[.agg #[.bool p, .slice A n c]] w (RetWB w 0 0 false) := by
  have hc : 0 ≤ cmpZ z two127 := by
    rcases Int.lt_or_eq_of_le h with h1 | h1
    · rw [cmpZ_gt h1]; decide
    · rw [cmpZ_eq h1.symm]; decide
  clear h
  generalize hv : cmpZ z two127 = cv at *
  have HV := Lib.hid hv
  clear hv
  go_enter Try.func57, Try.ntmps57
  go_wp2_with fail
  have b1 := (Box.new w p (.slice A n c) 38).below' (below_alloc2 _ (.cells #[.int .i64 0, .int .u64 0] 24))
  have b2 := Pair.new (w.alloc (.cells #[.bool p, .slice A n c] 38)) (.int .i64 0) (.int .u64 0) 24
  rw [World.size_alloc] at b2
  have HB := below_next (below_alloc2 w (.cells #[.bool p, .slice A n c] 38)) (below_alloc2 _ (.cells #[.int .i64 0, .int .u64 0] 24))
  generalize (w.alloc (.cells #[.bool p, .slice A n c] 38)).alloc (.cells #[.int .i64 0, .int .u64 0] 24) = w0 at *
  have B := b1.drew
  have P2 := b2.drew
  obtain ⟨_, a0, a1, _, _⟩ := b1
  have hX := (hz.below HB).drew
  replace HB := HB.drew
  clear b2 hz
  go_region_with (first
      | (go_at_call 37; refine (power127 _).mono ?_; rintro e w1 ⟨r, C, k, f, rfl, hD, hb⟩
         have hk := hD.small two127_small
         replace hX := hX.below hb
         replace B := B.below' hb
         replace P2 := P2.below hb
         replace HB := below_next HB hb
         clear hb
         obtain ⟨_, a2, a3, _, _⟩ := id B
         obtain ⟨_, p0, p1, p2, p3⟩ := id P2)
      | (go_at_call 21; refine (cmp_any p r A C n k c f z two127 _ hX hD (by omega) (by omega)).mono ?_; rintro e w2 ⟨rfl, hb⟩
         rw [HV.out]
         replace hX := hX.below hb
         replace B := B.below' hb
         replace P2 := P2.below hb
         replace HB := below_next HB hb
         clear hb
         obtain ⟨_, a2, a3, _, _⟩ := id B
         obtain ⟨_, p0, p1, p2, p3⟩ := id P2))
  all_goals
    go_wp2
    exact bodyPost_ret (v := .tuple #[.agg #[.int .i64 0, .int .u64 0], .bool false]) (by simp [results, Try.results57, go_sem, p0, p1]) rfl ⟨rfl, (HB.setCell (p := ⟨w.heap.size + 1, 0, none⟩) (Nat.le_succ _) _).setCell (p := ⟨w.heap.size + 1, 1, none⟩) (Nat.le_succ _) _⟩

set_option maxHeartbeats 4000000 in
theorem wfits_less (p : Bool) (A : Option Addr) (n c : Nat) (z : Int) (w : World) (hz : Zs w p A n c z) (hn : n ≤ 900000) (h : z < -two127) :
    Calls Try.prog 57 #[.agg #[.bool p, .slice A n c]] w (RetWB w 0 0 false) := by
  have hc1 : cmpZ z two127 = -1 := cmpZ_lt (by unfold two127 at *; omega)
  have hc2 : cmpZ z (-two127) = -1 := cmpZ_lt h
  clear h
  have HV1 := Lib.hid hc1
  have HV2 := Lib.hid hc2
  clear hc1 hc2
  go_enter Try.func57, Try.ntmps57
  go_wp2_with fail
  have b1 := (Box.new w p (.slice A n c) 38).below' (below_alloc2 _ (.cells #[.int .i64 0, .int .u64 0] 24))
  have b2 := Pair.new (w.alloc (.cells #[.bool p, .slice A n c] 38)) (.int .i64 0) (.int .u64 0) 24
  rw [World.size_alloc] at b2
  have HB := below_next (below_alloc2 w (.cells #[.bool p, .slice A n c] 38)) (below_alloc2 _ (.cells #[.int .i64 0, .int .u64 0] 24))
  generalize (w.alloc (.cells #[.bool p, .slice A n c] 38)).alloc (.cells #[.int .i64 0, .int .u64 0] 24) = w0 at *
  have B := b1.drew
  have P2 := b2.drew
  obtain ⟨_, a0, a1, _, _⟩ := b1
  have hX := (hz.below HB).drew
  replace HB := HB.drew
  clear b2 hz
  go_region_held3 (fun w' => w'.cell? ⟨w.heap.size, 0, none⟩ = some (.bool p) ∧ w'.cell? ⟨w.heap.size, 1, none⟩ = some (.slice A n c)) (first | exact ⟨B.c0, B.c1⟩ | go_keep)
    (first
      | (go_at_call 37; refine (power127 _).mono ?_; rintro e w1 ⟨r, C, k, f, rfl, hD, hb⟩
         have hk := hD.small two127_small
         replace hX := hX.below hb
         replace B := B.below' hb
         replace P2 := P2.below hb
         replace HB := below_next HB hb
         clear hb
         obtain ⟨_, a2, a3, _, _⟩ := id B
         obtain ⟨_, p0, p1, p2, p3⟩ := id P2)
      | (go_at_call 34; refine (neg_any r C k f _ _ hD (by omega)).mono ?_; rintro e w1 ⟨r, C, k, f, rfl, hD, hb⟩
         have hk := hD.small ntwo127_small
         replace hX := hX.below hb
         replace B := B.below' hb
         replace P2 := P2.below hb
         replace HB := below_next HB hb
         clear hb
         obtain ⟨_, a2, a3, _, _⟩ := id B
         obtain ⟨_, p0, p1, p2, p3⟩ := id P2)
      | (go_at_call 21; refine (cmp_any p r A C n k c f z _ _ hX hD (by omega) (by omega)).mono ?_; rintro e w2 ⟨rfl, hb⟩
         first | rw [HV1.out] | rw [HV2.out]
         replace hX := hX.below hb
         replace B := B.below' hb
         replace P2 := P2.below hb
         replace HB := below_next HB hb
         clear hb
         obtain ⟨_, a2, a3, _, _⟩ := id B
         obtain ⟨_, p0, p1, p2, p3⟩ := id P2))
  go_wp2
  exact bodyPost_ret (v := .tuple #[.agg #[.int .i64 0, .int .u64 0], .bool false]) (by simp [results, Try.results57, go_sem, p0, p1]) rfl ⟨rfl, (HB.setCell (p := ⟨w.heap.size + 1, 0, none⟩) (Nat.le_succ _) _).setCell (p := ⟨w.heap.size + 1, 1, none⟩) (Nat.le_succ _) _⟩

theorem wide_halves {z : Int} (h : InW z) : In64 (z.fdiv 18446744073709551616) ∧ z.fdiv 18446744073709551616 = hiW z ∧ z.fmod 18446744073709551616 = loW z ∧ 0 ≤ loW z ∧ loW z < 18446744073709551616 := by
  have e1 : z.fdiv 18446744073709551616 = z / 18446744073709551616 := Int.fdiv_eq_ediv_of_nonneg _ (by decide)
  have e2 : z.fmod 18446744073709551616 = z % 18446744073709551616 := Int.fmod_eq_emod_of_nonneg _ (by decide)
  unfold InW two127 at h
  unfold hiW loW In64
  rw [e1, e2]
  omega

theorem small5z {x : Int} (h : In64 x) : x.natAbs < 65536 ^ 5 := by
  have : (65536 : Nat) ^ 5 = 1208925819614629174706176 := by decide
  rw [this]; unfold In64 at h; omega

/-- What Fits keeps: its number, its answer's block, and what was there before it. -/
structure WK (w : World) (p : Bool) (A : Option Addr) (n c : Nat) (z : Int) (W : World) : Prop where
  bx : Box W w.heap.size p (.slice A n c)
  pr : Pair W (w.heap.size + 1) (.int .i64 0) (.int .u64 0)
  zx : Zs W p A n c z
  hb : Below w.heap.size w W
theorem WK.kept (w : World) (p : Bool) (A : Option Addr) (n c : Nat) (z : Int) : Kept (w.heap.size + 1) (WK w p A n c z) :=
  ⟨fun _ _ h k => ⟨h.bx.below' k, h.pr.below k, h.zx.below k, below_next h.hb k⟩,
   fun W b q v r u h bx hlt => ⟨h.bx.far2 (by omega) _ _, h.pr.far2 (by omega) _ _, h.zx.set2 bx.c0 _ _, (h.hb.setCell (p := ⟨b, 0, none⟩) (by show _ ≤ b; omega) _).setCell (p := ⟨b, 1, none⟩) (by show _ ≤ b; omega) _⟩⟩

def WFRel (n : Nat) (l : List Nat) (v i : Value) : Prop :=
  ∃ k : Nat, k ≤ n ∧ i = .int .i64 ((k : Int) - 1) ∧ v = .int .u64 ((val (l.drop k) : Nat) : Int)

set_option maxRecDepth 100000 in
set_option maxHeartbeats 8000000 in
theorem wfits_yes (p : Bool) (A : Option Addr) (n c : Nat) (z : Int) (w : World) (hz : Zs w p A n c z) (hn : n ≤ 2000) (h : InW z) :
    Calls Try.prog 57 #[.agg #[.bool p, .slice A n c]] w (RetWB w (hiW z) (loW z) true) := by
  obtain ⟨hh1, hh2, hh3, hh4, hh5⟩ := wide_halves h
  obtain ⟨h1, h2⟩ := h
  have hc1 : cmpZ z two127 = -1 := cmpZ_lt h2
  have hc2 : ¬ (cmpZ z (-two127) < 0) := by
    rcases Int.lt_or_eq_of_le h1 with h3 | h3
    · rw [cmpZ_gt h3]; decide
    · rw [cmpZ_eq h3.symm]; decide
  generalize hcv : cmpZ z (-two127) = cv at *
  have HV1 := Lib.hid hc1
  have HV2 := Lib.hid hcv
  have HH1 := Lib.hid hh1
  have HH2 := Lib.hid hh2
  have HH3 := Lib.hid hh3
  clear hc1 hcv h1 h2 hh1 hh2 hh3
  go_enter Try.func57, Try.ntmps57
  go_wp2_with fail
  have b1 := (Box.new w p (.slice A n c) 38).below' (below_alloc2 _ (.cells #[.int .i64 0, .int .u64 0] 24))
  have b2 := Pair.new (w.alloc (.cells #[.bool p, .slice A n c] 38)) (.int .i64 0) (.int .u64 0) 24
  rw [World.size_alloc] at b2
  have HB := below_next (below_alloc2 w (.cells #[.bool p, .slice A n c] 38)) (below_alloc2 _ (.cells #[.int .i64 0, .int .u64 0] 24))
  generalize (w.alloc (.cells #[.bool p, .slice A n c] 38)).alloc (.cells #[.int .i64 0, .int .u64 0] 24) = w0 at *
  have B := b1.drew
  have P2 := b2.drew
  obtain ⟨_, a0, a1, _, _⟩ := b1
  have hX := (hz.below HB).drew
  replace HB := HB.drew
  clear b2 hz
  go_region_held3 (fun w' => w'.cell? ⟨w.heap.size, 0, none⟩ = some (.bool p) ∧ w'.cell? ⟨w.heap.size, 1, none⟩ = some (.slice A n c)) (first | exact ⟨B.c0, B.c1⟩ | go_keep)
    (first
      | (go_at_call 37; refine (power127 _).mono ?_; rintro e w1 ⟨r, C, k, f, rfl, hD, hb⟩
         have hk := hD.small two127_small
         replace hX := hX.below hb
         replace B := B.below' hb
         replace P2 := P2.below hb
         replace HB := below_next HB hb
         clear hb
         obtain ⟨_, a2, a3, _, _⟩ := id B
         obtain ⟨_, p0, p1, p2, p3⟩ := id P2)
      | (go_at_call 34; refine (neg_any r C k f _ _ hD (by omega)).mono ?_; rintro e w1 ⟨r, C, k, f, rfl, hD, hb⟩
         have hk := hD.small ntwo127_small
         replace hX := hX.below hb
         replace B := B.below' hb
         replace P2 := P2.below hb
         replace HB := below_next HB hb
         clear hb
         obtain ⟨_, a2, a3, _, _⟩ := id B
         obtain ⟨_, p0, p1, p2, p3⟩ := id P2)
      | (go_at_call 21; refine (cmp_any p r A C n k c f z _ _ hX hD (by omega) (by omega)).mono ?_; rintro e w2 ⟨rfl, hb⟩
         first | rw [HV1.out] | rw [HV2.out]
         replace hX := hX.below hb
         replace B := B.below' hb
         replace P2 := P2.below hb
         replace HB := below_next HB hb
         clear hb
         obtain ⟨_, a2, a3, _, _⟩ := id B
         obtain ⟨_, p0, p1, p2, p3⟩ := id P2))
  clear hD hk a0 a1 a2 a3 p0 p1 p2 p3
  obtain ⟨_, a0, a1, _, _⟩ := id B
  go_upto_region 3 with fail
  have st : PreD (w.heap.size + 1) (WK w p A n c z) w2 [] := ⟨WK.kept w p A n c z, ⟨B, P2, hX, HB⟩, P2.lt, (fun b h => by cases h), (fun b h => by cases h), List.nodup_nil⟩
  clear B P2 hX HB
  go_cut [4, 5] (fun v4 v5 wx => DivCutD (w.heap.size + 1) (WK w p A n c z) (hiW z) (loW z) v4 v5 wx)
  case first =>
    have gn := behind st.lt w.heap.size (by omega)
    obtain ⟨gn1, gn2⟩ := gn
    have ONE := Lib.hid (show ((2 : Int) ^ 64).natAbs < 65536 ^ 5 by rw [pow64]; decide)
    go_region_held3 (fun w' => w'.cell? ⟨w.heap.size, 0, none⟩ = some (.bool p) ∧ w'.cell? ⟨w.heap.size, 1, none⟩ = some (.slice A n c)) (first | (with_reducible exact ⟨st.k.bx.c0, st.k.bx.c1⟩) | (with_reducible exact ⟨st.alloc1.k.bx.c0, st.alloc1.k.bx.c1⟩) | (with_reducible exact ⟨st.alloc2.k.bx.c0, st.alloc2.k.bx.c1⟩) | (with_reducible exact ⟨st.drew.k.bx.c0, st.drew.k.bx.c1⟩) | (with_reducible exact ⟨st.alloc1.drew.k.bx.c0, st.alloc1.drew.k.bx.c1⟩) | (with_reducible exact ⟨st.alloc2.drew.k.bx.c0, st.alloc2.drew.k.bx.c1⟩) | go_keep)
      (first
        | (go_at_call 37; refine (power64 _).mono ?_; rintro e w1 ⟨r1, C1, k1, f1, rfl, z1, hb⟩
           have l1 := z1.small ONE.out
           with_reducible (first | replace st := st.below hb | replace st := st.alloc1.below hb | replace st := st.alloc2.below hb | replace st := st.drew.below hb | replace st := st.alloc1.drew.below hb | replace st := st.alloc2.drew.below hb)
           clear hb
           obtain ⟨_, a2, a3, _, _⟩ := id st.k.bx
           have gn := behind st.lt w.heap.size (by omega)
           obtain ⟨gn1, gn2⟩ := gn
           try obtain ⟨gm1, gm2⟩ := behind (st.ge _ (List.mem_cons_self ..)) w.heap.size (by omega)
           try obtain ⟨gk1, gk2⟩ := behind (st.ge _ (List.mem_cons_of_mem _ (List.mem_cons_self ..))) w.heap.size (by omega)
           try obtain ⟨_, x0, x1, x2, x3⟩ := st.al _ (List.mem_cons_self ..)
           try obtain ⟨_, x4, x5, x6, x7⟩ := st.al _ (List.mem_cons_of_mem _ (List.mem_cons_self ..))
          )
        | (go_at_call 20; refine (div_any p r1 A C1 n k1 c f1 z (2 ^ 64) _ (by with_reducible first | exact st.k.zx | exact (st.k.zx.below (below_alloc2 _ _)) | exact ((st.k.zx.below (below_alloc2 _ _)).below (below_alloc2 _ _)) | exact (st.k.zx.drew) | exact ((st.k.zx.below (below_alloc2 _ _)).drew) | exact (((st.k.zx.below (below_alloc2 _ _)).below (below_alloc2 _ _)).drew)) (by with_reducible first | exact z1 | exact (z1.below (below_alloc2 _ _)) | exact ((z1.below (below_alloc2 _ _)).below (below_alloc2 _ _)) | exact (z1.drew) | exact ((z1.below (below_alloc2 _ _)).drew) | exact (((z1.below (below_alloc2 _ _)).below (below_alloc2 _ _)).drew)) (by omega) (by omega) (by rw [pow64]; decide)).mono ?_; rintro e w1 ⟨r3, C3, k3, f3, r4, C4, k4, f4, rfl, z3, z4, hb⟩
           rw [pow64, HH2.out] at z3
           rw [pow64, HH3.out] at z4
           with_reducible (first | replace st := st.below hb | replace st := st.alloc1.below hb | replace st := st.alloc2.below hb | replace st := st.drew.below hb | replace st := st.alloc1.drew.below hb | replace st := st.alloc2.drew.below hb)
           clear hb
           obtain ⟨_, a2, a3, _, _⟩ := id st.k.bx
           have gn := behind st.lt w.heap.size (by omega)
           obtain ⟨gn1, gn2⟩ := gn
           try obtain ⟨gm1, gm2⟩ := behind (st.ge _ (List.mem_cons_self ..)) w.heap.size (by omega)
           try obtain ⟨gk1, gk2⟩ := behind (st.ge _ (List.mem_cons_of_mem _ (List.mem_cons_self ..))) w.heap.size (by omega)
           try obtain ⟨_, x0, x1, x2, x3⟩ := st.al _ (List.mem_cons_self ..)
           try obtain ⟨_, x4, x5, x6, x7⟩ := st.al _ (List.mem_cons_of_mem _ (List.mem_cons_self ..))
          ))
    all_goals
      go_wp2_with fail
      go_meet
      refine ⟨_, _, r3, C3, k3, f3, r4, C4, k4, f4, rfl, rfl, ?_⟩
      with_reducible first | exact st.fin1a z3 z4 | exact st.fin1b z3 z4 | exact st.fin2a z3 z4 | exact st.fin2b z3 z4 | exact st.fin3a z3 z4 | exact st.fin3b z3 z4
  case rest =>
    clear a0 a1
    obtain ⟨g, h, pq, Aq, nq, cq, pr, Ar, nr, cr, rfl, rfl, s0⟩ := hcut
    have hds := s0.zr.ds
    have F1 := Lib.hid (fits_yes pq Aq nq cq (hiW z) wc s0.zq (by have h1 := s0.zq.small (k := 5) (small5z (by have := HH1.out; rw [HH2.out] at this; exact this)); omega) (by have := HH1.out; rw [HH2.out] at this; unfold In64 at this; unfold two63; omega) (by have := HH1.out; rw [HH2.out] at this; unfold In64 at this; unfold two63; omega))
    have hnr := s0.zr.small (k := 5) (by
      have : (65536 : Nat) ^ 5 = 1208925819614629174706176 := by decide
      rw [this]; omega)
    obtain ⟨_, a0, a1, _, _⟩ := id s0.bq
    go_wp2_with fail
    refine F1.out.mono ?_
    rintro e w5 ⟨rfl, k5⟩
    have s5 := s0.below k5
    replace hds := hds.below k5
    clear k5 a0 a1 s0 F1
    obtain ⟨_, a0, a1, _, _⟩ := id s5.br
    go_wp2_with fail
    go_loop [8, 9] (fun v i => WFRel nr (digs (loW z).natAbs) v i) (fun _ i => (intOf i + 1).toNat)
    case atStart =>
      refine ⟨nr, Nat.le_refl _, rfl, ?_⟩
      rw [List.drop_of_length_le (by rw [hds.len]; exact Nat.le_refl _)]
      rfl
    case round =>
      obtain ⟨k, hk, rfl, rfl⟩ := hrel
      rcases k with _ | k
      · have he : ((val ((digs (loW z).natAbs).drop 0) : Nat) : Int) = loW z := by rw [List.drop_zero, val_digs]; omega
        have HE := Lib.hid he
        clear he
        rw [HE.out]
        obtain ⟨_, d0, d1, e0, e1⟩ := id s5.k.pr
        have HB := s5.k.hb
        clear hds
        go_wp2
        exact bodyPost_ret (v := .tuple #[.agg #[.int .i64 (hiW z), .int .u64 (loW z)], .bool true]) (by simp [results, Try.results57, go_sem, d0, d1]) rfl ⟨rfl, (HB.setCell (p := ⟨w.heap.size + 1, 0, none⟩) (Nat.le_succ _) _).setCell (p := ⟨w.heap.size + 1, 1, none⟩) (Nat.le_succ _) _⟩
      · rw [show ((k + 1 : Nat) : Int) - 1 = k from by omega]
        obtain ⟨gb, rfl, hg, hcl⟩ := hds.cells (by omega)
        have q1 := hcl k (by omega)
        have hlt : k < (digs (loW z).natAbs).length := by rw [hds.len]; omega
        have hstep := val_drop (digs (loW z).natAbs) k hlt
        have hle := val_drop_le (digs (loW z).natAbs) k
        rw [val_digs] at hle
        have hd := hds.dig.getD k
        clear hcl hlt
        generalize (digs (loW z).natAbs).getD k 0 = D at *
        generalize val ((digs (loW z).natAbs).drop (k + 1)) = V at *
        have HS := Lib.hid hstep
        have hb1 : D + 65536 * V ≤ 18446744073709551615 := by omega
        clear hstep hle
        go_wp2
        go_round
        case rel => exact ⟨k, by omega, rfl, int_eq (by rw [HS.out]; show _ = ((D + 65536 * V : Nat) : Int); omega)⟩
        case measure => simp only [intOf]; omega
end Go.Proofs.Ytnopgdheffnfdaa
