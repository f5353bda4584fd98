/- The rounds of DivideRests in which quotients are told. -/
import Derived.Test.YtgkajbelekjahaaMrestsa
import Derived.Deep.RegionHeld3
namespace Go.Proofs.Ytgkajbelekjahaa
open Go.RowKit

theorem keptP_and {lo : Nat} {K1 K2 : World → Prop} (h1 : Kept lo K1) (h2 : Kept lo K2) : Kept lo (fun W => K1 W ∧ K2 W) :=
  ⟨fun W W' h k => ⟨h1.below W W' h.1 k, h2.below W W' h.2 k⟩, fun W b p v r u h bx hlt => ⟨h1.set2 W b p v r u h.1 bx hlt, h2.set2 W b p v r u h.2 bx hlt⟩⟩
theorem keptP_box {lo g : Nat} {p : Bool} {v : Value} (hg : g ≤ lo) : Kept lo (fun W => Box W g p v) :=
  ⟨fun _ _ h k => h.below' k, fun _ _ _ _ _ _ h _ hlt => h.far2 (by omega) _ _⟩
theorem keptP_zs {lo : Nat} {p : Bool} {A : Option Addr} {n c : Nat} {z : Int} : Kept lo (fun W => Zs W p A n c z) :=
  ⟨fun _ _ h k => h.below k, fun _ _ _ _ _ _ h bx _ => h.set2 bx.c0 _ _⟩

set_option maxRecDepth 100000 in
set_option maxHeartbeats 8000000 in
theorem rests_fine (a b Qf Rf Qt Rt sb' sa' rf rt : Int) (FL : Hid (∀ W, Calls Try.prog 10 #[.agg #[.int .i64 (hiW a), .int .u64 (loW a)], .agg #[.int .i64 (hiW b), .int .u64 (loW b)]] W (RetHalves W (hiW Qf) (loW Qf) (hiW Rf) (loW Rf) 0))) (TR : Hid (∀ W, Calls Try.prog 13 #[.agg #[.int .i64 (hiW a), .int .u64 (loW a)], .agg #[.int .i64 (hiW b), .int .u64 (loW b)]] W (RetHalves W (hiW Qt) (loW Qt) (hiW Rt) (loW Rt) 0))) (Oa : Hid (∀ W, Calls Try.prog 20 #[.agg #[.int .i64 (hiW a), .int .u64 (loW a)]] W (RetZ W a))) (sa : Hid (a.natAbs < 65536 ^ 9)) (Ob : Hid (∀ W, Calls Try.prog 20 #[.agg #[.int .i64 (hiW b), .int .u64 (loW b)]] W (RetZ W b))) (sb : Hid (b.natAbs < 65536 ^ 9)) (OQf : Hid (∀ W, Calls Try.prog 20 #[.agg #[.int .i64 (hiW Qf), .int .u64 (loW Qf)]] W (RetZ W Qf))) (sQf : Hid (Qf.natAbs < 65536 ^ 9)) (ORf : Hid (∀ W, Calls Try.prog 20 #[.agg #[.int .i64 (hiW Rf), .int .u64 (loW Rf)]] W (RetZ W Rf))) (sRf : Hid (Rf.natAbs < 65536 ^ 9)) (OQt : Hid (∀ W, Calls Try.prog 20 #[.agg #[.int .i64 (hiW Qt), .int .u64 (loW Qt)]] W (RetZ W Qt))) (sQt : Hid (Qt.natAbs < 65536 ^ 9)) (ORt : Hid (∀ W, Calls Try.prog 20 #[.agg #[.int .i64 (hiW Rt), .int .u64 (loW Rt)]] W (RetZ W Rt))) (sRt : Hid (Rt.natAbs < 65536 ^ 9)) (SB : Hid (∀ W, Calls Try.prog 23 #[.agg #[.int .i64 (hiW b), .int .u64 (loW b)]] W (RetV W (.int .i64 sb')))) (SA : Hid (∀ W, Calls Try.prog 23 #[.agg #[.int .i64 (hiW a), .int .u64 (loW a)]] W (RetV W (.int .i64 sa')))) (SRf : Hid (∀ W, Calls Try.prog 23 #[.agg #[.int .i64 (hiW Rf), .int .u64 (loW Rf)]] W (RetV W (.int .i64 rf)))) (SRt : Hid (∀ W, Calls Try.prog 23 #[.agg #[.int .i64 (hiW Rt), .int .u64 (loW Rt)]] W (RetV W (.int .i64 rt)))) (ef : Hid (Qf * b + Rf = a)) (et : Hid (Qt * b + Rt = a)) (lf : Hid (Rf.natAbs < b.natAbs)) (lt : Hid (Rt.natAbs < b.natAbs)) (hf : rf = 0 ∨ (rf == 0) = false ∧ rf = sb') (ht : rt = 0 ∨ (rt == 0) = false ∧ rt = sa') (w : World) :
    Calls Try.prog 8 #[.agg #[.int .i64 (hiW a), .int .u64 (loW a)], .agg #[.int .i64 (hiW b), .int .u64 (loW b)]] w (RetV w (.bool true)) := by
  go_enter Try.func8, Try.ntmps8
  go_wp2_with fail
  have KK := (((PairsK.nil w).more (.int .i64 (hiW a)) (.int .u64 (loW a)) 24).more (.int .i64 (hiW b)) (.int .u64 (loW b)) 24)
  try simp only [World.size_alloc] at KK
  generalize ((w.alloc (.cells #[.int .i64 (hiW a), .int .u64 (loW a)] 24)).alloc (.cells #[.int .i64 (hiW b), .int .u64 (loW b)] 24)) = w0 at *
  have lt0 : w.heap.size + 1 < w0.heap.size := (KK.head).lt
  have lt1 : w.heap.size < w0.heap.size := (KK.tail.head).lt
  obtain ⟨lo, hlo⟩ : ∃ lo, lo + 1 = w0.heap.size := ⟨w0.heap.size - 1, by omega⟩
  have la0 : w.heap.size + 1 ≤ lo := by omega
  have la1 : w.heap.size ≤ lo := by omega
  have st : PreD lo (PairsK w [(w.heap.size + 1, .int .i64 (hiW b), .int .u64 (loW b)), (w.heap.size, .int .i64 (hiW a), .int .u64 (loW a))]) w0 [] := ⟨PairsK.keptZ w _ lo (by simp <;> omega) (by omega), KK, by omega, (fun b h => by cases h), (fun b h => by cases h), List.nodup_nil⟩
  clear hlo KK lt0 lt1
  go_cut [5, 6] (fun v v' wx => DivCutD lo (PairsK w [(w.heap.size + 1, .int .i64 (hiW b), .int .u64 (loW b)), (w.heap.size, .int .i64 (hiW a), .int .u64 (loW a))]) (a) (b) v v' wx)
  case first =>
    obtain ⟨_, ja0, jb0, _, _⟩ := st.k.tail.head
    obtain ⟨_, ja1, jb1, _, _⟩ := st.k.head
    have ⟨gp0, gq0⟩ := behindG st.lt la0
    have ⟨gp1, gq1⟩ := behindG st.lt la1
    go_region_held3 (fun w' => w'.cell? ⟨w.heap.size, 0, none⟩ = some (.int .i64 (hiW a)) ∧ w'.cell? ⟨w.heap.size, 1, none⟩ = some (.int .u64 (loW a)) ∧ w'.cell? ⟨w.heap.size + 1, 0, none⟩ = some (.int .i64 (hiW b)) ∧ w'.cell? ⟨w.heap.size + 1, 1, none⟩ = some (.int .u64 (loW b))) (first | (with_reducible exact ⟨st.k.tail.head.c0, st.k.tail.head.c1, st.k.head.c0, st.k.head.c1⟩) | (with_reducible exact ⟨st.alloc1.k.tail.head.c0, st.alloc1.k.tail.head.c1, st.alloc1.k.head.c0, st.alloc1.k.head.c1⟩) | (with_reducible exact ⟨st.alloc2.k.tail.head.c0, st.alloc2.k.tail.head.c1, st.alloc2.k.head.c0, st.alloc2.k.head.c1⟩) | (with_reducible exact ⟨st.drew.k.tail.head.c0, st.drew.k.tail.head.c1, st.drew.k.head.c0, st.drew.k.head.c1⟩) | (with_reducible exact ⟨st.alloc1.drew.k.tail.head.c0, st.alloc1.drew.k.tail.head.c1, st.alloc1.drew.k.head.c0, st.alloc1.drew.k.head.c1⟩) | (with_reducible exact ⟨st.alloc2.drew.k.tail.head.c0, st.alloc2.drew.k.tail.head.c1, st.alloc2.drew.k.head.c0, st.alloc2.drew.k.head.c1⟩) | go_keep)
      (first
        | (go_at_call 20; (with_reducible refine (Oa.out _).mono ?_); rintro e x ⟨p1, A1, n1, c1, rfl, z1, k⟩
           have l1 := z1.small sa.out
           with_reducible (first | replace st := st.below k | replace st := st.alloc1.below k | replace st := st.alloc2.below k | replace st := st.drew.below k | replace st := st.alloc1.drew.below k | replace st := st.alloc2.drew.below k)
           clear k
           obtain ⟨_, ka0, kb0, _, _⟩ := st.k.tail.head
           obtain ⟨_, ka1, kb1, _, _⟩ := st.k.head
           obtain ⟨gp0, gq0⟩ := behindG st.lt la0
           try obtain ⟨gr0, gs0⟩ := behindG (st.ge _ (List.mem_cons_self ..)) la0
           try obtain ⟨gt0, gu0⟩ := behindG (st.ge _ (List.mem_cons_of_mem _ (List.mem_cons_self ..))) la0
           obtain ⟨gp1, gq1⟩ := behindG st.lt la1
           try obtain ⟨gr1, gs1⟩ := behindG (st.ge _ (List.mem_cons_self ..)) la1
           try obtain ⟨gt1, gu1⟩ := behindG (st.ge _ (List.mem_cons_of_mem _ (List.mem_cons_self ..))) la1
           try obtain ⟨_, y0, y1, y2, y3⟩ := st.al _ (List.mem_cons_self ..)
           try obtain ⟨_, y4, y5, y6, y7⟩ := st.al _ (List.mem_cons_of_mem _ (List.mem_cons_self ..)))
        | (go_at_call 20; (with_reducible refine (Ob.out _).mono ?_); rintro e x ⟨p2, A2, n2, c2, rfl, z2, k⟩
           have l2 := z2.small sb.out
           with_reducible (first | replace z1 := z1.below k | replace z1 := (z1.below (below_box _ _)).below k | replace z1 := z1.drew.below k | replace z1 := (z1.below (below_box _ _)).drew.below k | replace z1 := ((z1.below (below_box _ _)).below (below_box _ _)).below k | replace z1 := ((z1.below (below_box _ _)).below (below_box _ _)).drew.below k)
           with_reducible (first | replace st := st.below k | replace st := st.alloc1.below k | replace st := st.alloc2.below k | replace st := st.drew.below k | replace st := st.alloc1.drew.below k | replace st := st.alloc2.drew.below k)
           clear k
           obtain ⟨_, ka0, kb0, _, _⟩ := st.k.tail.head
           obtain ⟨_, ka1, kb1, _, _⟩ := st.k.head
           obtain ⟨gp0, gq0⟩ := behindG st.lt la0
           try obtain ⟨gr0, gs0⟩ := behindG (st.ge _ (List.mem_cons_self ..)) la0
           try obtain ⟨gt0, gu0⟩ := behindG (st.ge _ (List.mem_cons_of_mem _ (List.mem_cons_self ..))) la0
           obtain ⟨gp1, gq1⟩ := behindG st.lt la1
           try obtain ⟨gr1, gs1⟩ := behindG (st.ge _ (List.mem_cons_self ..)) la1
           try obtain ⟨gt1, gu1⟩ := behindG (st.ge _ (List.mem_cons_of_mem _ (List.mem_cons_self ..))) la1
           try obtain ⟨_, y0, y1, y2, y3⟩ := st.al _ (List.mem_cons_self ..)
           try obtain ⟨_, y4, y5, y6, y7⟩ := st.al _ (List.mem_cons_of_mem _ (List.mem_cons_self ..))))
    all_goals
      go_wp2_with fail
      go_meet
      refine ⟨_, _, p1, A1, n1, c1, p2, A2, n2, c2, rfl, rfl, ?_⟩
      with_reducible first | exact st.fin1a z1 z2 | exact st.fin1b z1 z2 | exact st.fin2a z1 z2 | exact st.fin2b z1 z2 | exact st.fin3a z1 z2 | exact st.fin3b z1 z2
  case rest =>
  clear st
  obtain ⟨gx, gy, px, Ax, nx, cx, py, Ay, ny, cy, rfl, rfl, s0⟩ := hcut
  have HR : RK w a b gx px Ax nx cx gy py Ay ny cy wc := ⟨s0.k, s0.bq, s0.br, s0.zq, s0.zr⟩
  clear s0 la0 la1 lo
  go_wp2_with fail
  go_loopw [7] (fun v7 wr => RRel w a b gx px Ax nx cx gy py Ay ny cy v7 wr) (fun v7 _ => (2 - intOf v7).toNat)
  case atStart => exact ⟨0, .inl rfl, rfl, HR⟩
  case round =>
    clear HR
    obtain ⟨i, hi, rfl, hk⟩ := hrel
    rcases hi with rfl | rfl | rfl
    · obtain ⟨_, a0, a1, _, _⟩ := hk.kk.tail.head
      obtain ⟨_, b0, b1, _, _⟩ := hk.kk.head
      go_wp2_with fail
      refine (FL.out _).mono ?_
      rintro o w1 ⟨rfl, k⟩
      replace hk := hk.below k
      clear k a0 a1 b0 b1
      obtain ⟨_, a0, a1, _, _⟩ := (hk.below (below_thru (below_box _ (.cells #[.int .i64 (hiW Qf), .int .u64 (loW Qf)] 24)) (below_box _ (.cells #[.int .i64 (hiW Rf), .int .u64 (loW Rf)] 24)))).kk.tail.head
      obtain ⟨_, b0, b1, _, _⟩ := (hk.below (below_thru (below_box _ (.cells #[.int .i64 (hiW Qf), .int .u64 (loW Qf)] 24)) (below_box _ (.cells #[.int .i64 (hiW Rf), .int .u64 (loW Rf)] 24)))).kk.head
      go_wp2_with fail
      have BB := below_thru (below_box w1 (.cells #[.int .i64 (hiW Qf), .int .u64 (loW Qf)] 24)) (below_box _ (.cells #[.int .i64 (hiW Rf), .int .u64 (loW Rf)] 24))
      have PQ := (Pair.new w1 (.int .i64 (hiW Qf)) (.int .u64 (loW Qf)) 24).below (below_box _ (.cells #[.int .i64 (hiW Rf), .int .u64 (loW Rf)] 24))
      have PR := Pair.new (w1.alloc (.cells #[.int .i64 (hiW Qf), .int .u64 (loW Qf)] 24)) (.int .i64 (hiW Rf)) (.int .u64 (loW Rf)) 24
      rw [World.size_alloc] at PR
      have hg := hk.kk.hb.size
      generalize (w1.alloc (.cells #[.int .i64 (hiW Qf), .int .u64 (loW Qf)] 24)).alloc (.cells #[.int .i64 (hiW Rf), .int .u64 (loW Rf)] 24) = w2 at *
      clear a0 a1 b0 b1
      replace hk := hk.below BB
      clear BB
      generalize w1.heap.size = g at *
      have hw : w2 = w2 := rfl
      clear hw
      have KP := (hk.kk.cons PQ).cons PR
      obtain ⟨_, r0, r1, _, _⟩ := KP.head
      go_wp2_with fail
      clear r0 r1
      clear PQ PR
      refine (ORf.out _).mono ?_
      rintro o w5 ⟨ps, As, ns, cs, rfl, zs, k⟩
      have ls := zs.small sRf.out
      obtain ⟨_, bx, by', zx, zy⟩ := hk.below k
      replace KP := KP.below k
      clear k hk
      go_wp2_with fail
      have kb := below_box w5 (.cells #[.bool ps, .slice As ns cs] 42)
      have bs := Box.new w5 ps (.slice As ns cs) 42
      replace KP := KP.below kb
      replace bx := bx.below' kb
      replace by' := by'.below' kb
      replace zx := zx.below kb
      replace zy := zy.below kb
      replace zs := zs.below kb
      clear kb
      generalize w5.alloc (.cells #[.bool ps, .slice As ns cs] 42) = w6 at *
      generalize w5.heap.size = gs at *
      have lx := zx.small sa.out
      have ly := zy.small sb.out
      have SQ := Lib.hid (show (Qf * b).natAbs < 65536 ^ 18 by
        rw [Int.natAbs_mul, show (65536 : Nat) ^ 18 = 65536 ^ 9 * 65536 ^ 9 from by decide]
        exact Nat.mul_lt_mul'' sQf.out sb.out)
      have hws : w.heap.size ≤ w6.heap.size := KP.hb.size
      have lt0 : g + 1 < w6.heap.size := (KP.head).lt
      have lt1 : g < w6.heap.size := (KP.tail.head).lt
      have lt2 : w.heap.size + 1 < w6.heap.size := (KP.tail.tail.head).lt
      have lt3 : w.heap.size < w6.heap.size := (KP.tail.tail.tail.head).lt
      have lt4 : gx < w6.heap.size := bx.lt
      have lt5 : gy < w6.heap.size := by'.lt
      have lt6 : gs < w6.heap.size := bs.lt
      obtain ⟨lo, hlo⟩ : ∃ lo, lo + 1 = w6.heap.size := ⟨w6.heap.size - 1, by omega⟩
      have la0 : g + 1 ≤ lo := by omega
      have la1 : g ≤ lo := by omega
      have la2 : w.heap.size + 1 ≤ lo := by omega
      have la3 : w.heap.size ≤ lo := by omega
      have la4 : gx ≤ lo := by omega
      have la5 : gy ≤ lo := by omega
      have la6 : gs ≤ lo := by omega
      have st : PreD lo (fun W => PairsK w [(g + 1, .int .i64 (hiW Rf), .int .u64 (loW Rf)), (g, .int .i64 (hiW Qf), .int .u64 (loW Qf)), (w.heap.size + 1, .int .i64 (hiW b), .int .u64 (loW b)), (w.heap.size, .int .i64 (hiW a), .int .u64 (loW a))] W ∧ (Box W gx px (.slice Ax nx cx) ∧ (Box W gy py (.slice Ay ny cy) ∧ (Box W gs ps (.slice As ns cs) ∧ (Zs W px Ax nx cx a ∧ (Zs W py Ay ny cy b ∧ Zs W ps As ns cs Rf)))))) w6 [] := ⟨keptP_and (PairsK.keptZ w _ lo (by simp <;> omega) (by omega)) (keptP_and (keptP_box (by omega)) (keptP_and (keptP_box (by omega)) (keptP_and (keptP_box (by omega)) (keptP_and keptP_zs (keptP_and keptP_zs keptP_zs))))), ⟨KP, bx, by', bs, zx, zy, zs⟩, by omega, (fun b h => by cases h), (fun b h => by cases h), List.nodup_nil⟩
      clear hlo lt0 lt1 lt2 lt3 lt4 lt5 lt6
      go_cut [12] (fun v wx => OneCut lo (fun W => PairsK w [(g + 1, .int .i64 (hiW Rf), .int .u64 (loW Rf)), (g, .int .i64 (hiW Qf), .int .u64 (loW Qf)), (w.heap.size + 1, .int .i64 (hiW b), .int .u64 (loW b)), (w.heap.size, .int .i64 (hiW a), .int .u64 (loW a))] W ∧ (Box W gx px (.slice Ax nx cx) ∧ (Box W gy py (.slice Ay ny cy) ∧ (Box W gs ps (.slice As ns cs) ∧ (Zs W px Ax nx cx a ∧ (Zs W py Ay ny cy b ∧ Zs W ps As ns cs Rf)))))) (Qf * b + Rf) v wx)
      case first =>
        obtain ⟨_, ja0, jb0, _, _⟩ := st.k.1.tail.head
        obtain ⟨_, ja1, jb1, _, _⟩ := st.k.2.2.1
        obtain ⟨_, ja2, jb2, _, _⟩ := st.k.2.2.2.1
        have ⟨gp0, gq0⟩ := behindG st.lt la0
        have ⟨gp1, gq1⟩ := behindG st.lt la1
        have ⟨gp2, gq2⟩ := behindG st.lt la2
        have ⟨gp3, gq3⟩ := behindG st.lt la3
        have ⟨gp4, gq4⟩ := behindG st.lt la4
        have ⟨gp5, gq5⟩ := behindG st.lt la5
        have ⟨gp6, gq6⟩ := behindG st.lt la6
        go_region_held3 (fun w' => w'.cell? ⟨g, 0, none⟩ = some (.int .i64 (hiW Qf)) ∧ w'.cell? ⟨g, 1, none⟩ = some (.int .u64 (loW Qf)) ∧ w'.cell? ⟨gy, 0, none⟩ = some (.bool py) ∧ w'.cell? ⟨gy, 1, none⟩ = some (.slice Ay ny cy) ∧ w'.cell? ⟨gs, 0, none⟩ = some (.bool ps) ∧ w'.cell? ⟨gs, 1, none⟩ = some (.slice As ns cs)) (first | (with_reducible exact ⟨st.k.1.tail.head.c0, st.k.1.tail.head.c1, st.k.2.2.1.c0, st.k.2.2.1.c1, st.k.2.2.2.1.c0, st.k.2.2.2.1.c1⟩) | (with_reducible exact ⟨st.alloc1.k.1.tail.head.c0, st.alloc1.k.1.tail.head.c1, st.alloc1.k.2.2.1.c0, st.alloc1.k.2.2.1.c1, st.alloc1.k.2.2.2.1.c0, st.alloc1.k.2.2.2.1.c1⟩) | (with_reducible exact ⟨st.alloc2.k.1.tail.head.c0, st.alloc2.k.1.tail.head.c1, st.alloc2.k.2.2.1.c0, st.alloc2.k.2.2.1.c1, st.alloc2.k.2.2.2.1.c0, st.alloc2.k.2.2.2.1.c1⟩) | (with_reducible exact ⟨st.drew.k.1.tail.head.c0, st.drew.k.1.tail.head.c1, st.drew.k.2.2.1.c0, st.drew.k.2.2.1.c1, st.drew.k.2.2.2.1.c0, st.drew.k.2.2.2.1.c1⟩) | (with_reducible exact ⟨st.alloc1.drew.k.1.tail.head.c0, st.alloc1.drew.k.1.tail.head.c1, st.alloc1.drew.k.2.2.1.c0, st.alloc1.drew.k.2.2.1.c1, st.alloc1.drew.k.2.2.2.1.c0, st.alloc1.drew.k.2.2.2.1.c1⟩) | (with_reducible exact ⟨st.alloc2.drew.k.1.tail.head.c0, st.alloc2.drew.k.1.tail.head.c1, st.alloc2.drew.k.2.2.1.c0, st.alloc2.drew.k.2.2.1.c1, st.alloc2.drew.k.2.2.2.1.c0, st.alloc2.drew.k.2.2.2.1.c1⟩) | go_keep)
          (first
            | (go_at_call 20; (with_reducible refine (OQf.out _).mono ?_); rintro e x ⟨p1, A1, n1, c1, rfl, z1, k⟩
               have l1 := z1.small sQf.out
               with_reducible (first | replace st := st.below k | replace st := st.alloc1.below k | replace st := st.alloc2.below k | replace st := st.drew.below k | replace st := st.alloc1.drew.below k | replace st := st.alloc2.drew.below k)
               clear k
               obtain ⟨_, ka0, kb0, _, _⟩ := st.k.1.tail.head
               obtain ⟨_, ka1, kb1, _, _⟩ := st.k.2.2.1
               obtain ⟨_, ka2, kb2, _, _⟩ := st.k.2.2.2.1
               obtain ⟨gp0, gq0⟩ := behindG st.lt la0
               try obtain ⟨gr0, gs0⟩ := behindG (st.ge _ (List.mem_cons_self ..)) la0
               obtain ⟨gp1, gq1⟩ := behindG st.lt la1
               try obtain ⟨gr1, gs1⟩ := behindG (st.ge _ (List.mem_cons_self ..)) la1
               obtain ⟨gp2, gq2⟩ := behindG st.lt la2
               try obtain ⟨gr2, gs2⟩ := behindG (st.ge _ (List.mem_cons_self ..)) la2
               obtain ⟨gp3, gq3⟩ := behindG st.lt la3
               try obtain ⟨gr3, gs3⟩ := behindG (st.ge _ (List.mem_cons_self ..)) la3
               obtain ⟨gp4, gq4⟩ := behindG st.lt la4
               try obtain ⟨gr4, gs4⟩ := behindG (st.ge _ (List.mem_cons_self ..)) la4
               obtain ⟨gp5, gq5⟩ := behindG st.lt la5
               try obtain ⟨gr5, gs5⟩ := behindG (st.ge _ (List.mem_cons_self ..)) la5
               obtain ⟨gp6, gq6⟩ := behindG st.lt la6
               try obtain ⟨gr6, gs6⟩ := behindG (st.ge _ (List.mem_cons_self ..)) la6
               try obtain ⟨_, y0, y1, y2, y3⟩ := st.al _ (List.mem_cons_self ..))
            | (go_at_call 25; (with_reducible refine (mul_any p1 py A1 Ay n1 ny c1 cy Qf b _ (by with_reducible first | exact z1 | exact (z1.below (below_box _ _)) | exact z1.drew | exact (z1.below (below_box _ _)).drew | exact ((z1.below (below_box _ _)).below (below_box _ _)) | exact ((z1.below (below_box _ _)).below (below_box _ _)).drew) (by with_reducible first | exact st.k.2.2.2.2.2.1 | exact st.alloc1.k.2.2.2.2.2.1 | exact st.alloc2.k.2.2.2.2.2.1 | exact st.drew.k.2.2.2.2.2.1 | exact st.alloc1.drew.k.2.2.2.2.2.1 | exact st.alloc2.drew.k.2.2.2.2.2.1) (by omega) (by omega)).mono ?_); rintro e x ⟨p2, A2, n2, c2, rfl, z2, k⟩
               have l2 := z2.small SQ.out
               with_reducible (first | replace st := st.below k | replace st := st.alloc1.below k | replace st := st.alloc2.below k | replace st := st.drew.below k | replace st := st.alloc1.drew.below k | replace st := st.alloc2.drew.below k)
               clear k
               obtain ⟨_, ka0, kb0, _, _⟩ := st.k.1.tail.head
               obtain ⟨_, ka1, kb1, _, _⟩ := st.k.2.2.1
               obtain ⟨_, ka2, kb2, _, _⟩ := st.k.2.2.2.1
               obtain ⟨gp0, gq0⟩ := behindG st.lt la0
               try obtain ⟨gr0, gs0⟩ := behindG (st.ge _ (List.mem_cons_self ..)) la0
               obtain ⟨gp1, gq1⟩ := behindG st.lt la1
               try obtain ⟨gr1, gs1⟩ := behindG (st.ge _ (List.mem_cons_self ..)) la1
               obtain ⟨gp2, gq2⟩ := behindG st.lt la2
               try obtain ⟨gr2, gs2⟩ := behindG (st.ge _ (List.mem_cons_self ..)) la2
               obtain ⟨gp3, gq3⟩ := behindG st.lt la3
               try obtain ⟨gr3, gs3⟩ := behindG (st.ge _ (List.mem_cons_self ..)) la3
               obtain ⟨gp4, gq4⟩ := behindG st.lt la4
               try obtain ⟨gr4, gs4⟩ := behindG (st.ge _ (List.mem_cons_self ..)) la4
               obtain ⟨gp5, gq5⟩ := behindG st.lt la5
               try obtain ⟨gr5, gs5⟩ := behindG (st.ge _ (List.mem_cons_self ..)) la5
               obtain ⟨gp6, gq6⟩ := behindG st.lt la6
               try obtain ⟨gr6, gs6⟩ := behindG (st.ge _ (List.mem_cons_self ..)) la6
               try obtain ⟨_, y0, y1, y2, y3⟩ := st.al _ (List.mem_cons_self ..))
            | (go_at_call 24; (with_reducible refine (add_any p2 ps A2 As n2 ns c2 cs (Qf * b) Rf _ (by with_reducible first | exact z2 | exact (z2.below (below_box _ _)) | exact z2.drew | exact (z2.below (below_box _ _)).drew | exact ((z2.below (below_box _ _)).below (below_box _ _)) | exact ((z2.below (below_box _ _)).below (below_box _ _)).drew) (by with_reducible first | exact st.k.2.2.2.2.2.2 | exact st.alloc1.k.2.2.2.2.2.2 | exact st.alloc2.k.2.2.2.2.2.2 | exact st.drew.k.2.2.2.2.2.2 | exact st.alloc1.drew.k.2.2.2.2.2.2 | exact st.alloc2.drew.k.2.2.2.2.2.2) (by omega) (by omega)).mono ?_); rintro e x ⟨p3, A3, n3, c3, rfl, z3, k⟩
               with_reducible (first | replace st := st.below k | replace st := st.alloc1.below k | replace st := st.alloc2.below k | replace st := st.drew.below k | replace st := st.alloc1.drew.below k | replace st := st.alloc2.drew.below k)
               clear k
               obtain ⟨_, ka0, kb0, _, _⟩ := st.k.1.tail.head
               obtain ⟨_, ka1, kb1, _, _⟩ := st.k.2.2.1
               obtain ⟨_, ka2, kb2, _, _⟩ := st.k.2.2.2.1
               obtain ⟨gp0, gq0⟩ := behindG st.lt la0
               try obtain ⟨gr0, gs0⟩ := behindG (st.ge _ (List.mem_cons_self ..)) la0
               obtain ⟨gp1, gq1⟩ := behindG st.lt la1
               try obtain ⟨gr1, gs1⟩ := behindG (st.ge _ (List.mem_cons_self ..)) la1
               obtain ⟨gp2, gq2⟩ := behindG st.lt la2
               try obtain ⟨gr2, gs2⟩ := behindG (st.ge _ (List.mem_cons_self ..)) la2
               obtain ⟨gp3, gq3⟩ := behindG st.lt la3
               try obtain ⟨gr3, gs3⟩ := behindG (st.ge _ (List.mem_cons_self ..)) la3
               obtain ⟨gp4, gq4⟩ := behindG st.lt la4
               try obtain ⟨gr4, gs4⟩ := behindG (st.ge _ (List.mem_cons_self ..)) la4
               obtain ⟨gp5, gq5⟩ := behindG st.lt la5
               try obtain ⟨gr5, gs5⟩ := behindG (st.ge _ (List.mem_cons_self ..)) la5
               obtain ⟨gp6, gq6⟩ := behindG st.lt la6
               try obtain ⟨gr6, gs6⟩ := behindG (st.ge _ (List.mem_cons_self ..)) la6
               try obtain ⟨_, y0, y1, y2, y3⟩ := st.al _ (List.mem_cons_self ..)))
        all_goals
          go_wp2_with fail
          go_meet
          refine ⟨_, p3, A3, n3, c3, rfl, ?_⟩
          with_reducible first | exact st.one1 z3 | exact st.one2 z3
      case rest =>
      clear st
      obtain ⟨gw, pw, Aw, nw, cw, rfl, s0⟩ := hcut
      clear KP bx by' bs zx zy zs hws
      obtain ⟨KP, bx, by', bs, zx, zy, zs⟩ := s0.k
      have bw := s0.bx
      have zw := s0.zx
      rw [ef.out] at zw
      have lw := zw.small sa.out
      clear s0 la0 la1 la2 la3 la4 la5 la6 lo SQ
      obtain ⟨_, b0, b1, _, _⟩ := KP.tail.tail.head
      go_wp2_with fail
      refine (SB.out _).mono ?_
      rintro o w7 ⟨rfl, k⟩
      replace KP := KP.below k
      replace bx := bx.below' k
      replace by' := by'.below' k
      replace bs := bs.below' k
      replace bw := bw.below' k
      replace zx := zx.below k
      replace zy := zy.below k
      replace zs := zs.below k
      replace zw := zw.below k
      clear k b0 b1
      go_wp2_with fail
      have CW := Lib.hid (show ∀ W, Zs W pw Aw nw cw a → Zs W px Ax nx cx a → Calls Try.prog 26 #[.agg #[.bool pw, .slice Aw nw cw], .agg #[.bool px, .slice Ax nx cx]] W (RetV W (.int .i64 0)) from fun W h1 h2 => by have := cmp_any pw px Aw Ax nw nx cw cx _ _ W h1 h2 (by omega) (by omega); rwa [cmpZ_eq rfl] at this)
      have CL := Lib.hid (show ∀ p q A B n m c d W, Zs W p A n c (Rf.natAbs : Int) → Zs W q B m d (b.natAbs : Int) → n ≤ 900000 → m ≤ 900000 → Calls Try.prog 26 #[.agg #[.bool p, .slice A n c], .agg #[.bool q, .slice B m d]] W (RetV W (.int .i64 (-1))) from fun p q A B n m c d W h1 h2 h3 h4 => by have := cmp_any p q A B n m c d _ _ W h1 h2 h3 h4; rwa [cmpZ_lt (by have := lf.out; omega)] at this)
      have SR9 := Lib.hid (show ((Rf.natAbs : Int)).natAbs < 65536 ^ 9 by rw [Int.natAbs_natCast]; exact sRf.out)
      have SB9 := Lib.hid (show ((b.natAbs : Int)).natAbs < 65536 ^ 9 by rw [Int.natAbs_natCast]; exact sb.out)
      have k : Below w7.heap.size w7 w7.drew := (Below.refl _ _).drew
      replace KP := KP.below k
      replace bx := bx.below' k
      replace by' := by'.below' k
      replace bs := bs.below' k
      replace bw := bw.below' k
      replace zx := zx.below k
      replace zy := zy.below k
      replace zs := zs.below k
      replace zw := zw.below k
      clear k
      rcases hf with h0 | ⟨h0, h1⟩
      · subst h0
        refine wp_region_noPanic ?_
        refine wp_region_held_drew (S := (fun w' => w'.cell? ⟨gw, 0, none⟩ = some (.bool pw) ∧ w'.cell? ⟨gw, 1, none⟩ = some (.slice Aw nw cw) ∧ w'.cell? ⟨gx, 0, none⟩ = some (.bool px) ∧ w'.cell? ⟨gx, 1, none⟩ = some (.slice Ax nx cx) ∧ w'.cell? ⟨gs, 0, none⟩ = some (.bool ps) ∧ w'.cell? ⟨gs, 1, none⟩ = some (.slice As ns cs) ∧ w'.cell? ⟨gy, 0, none⟩ = some (.bool py) ∧ w'.cell? ⟨gy, 1, none⟩ = some (.slice Ay ny cy) ∧ w'.cell? ⟨g + 1, 0, none⟩ = some (.int .i64 (hiW Rf)) ∧ w'.cell? ⟨g + 1, 1, none⟩ = some (.int .u64 (loW Rf)))) (by kernel_rfl) ⟨bw.c0, bw.c1, bx.c0, bx.c1, bs.c0, bs.c1, by'.c0, by'.c1, KP.head.c0, KP.head.c1⟩ (fun hHeld => ?_)
        refine wpAnyH_take (i := 0) (oi := { dst := some 75, op := Op.load 42 (Operand.tmp 12), type := 42, pos := "law.go:78", after := #[], guard := none }) (v := ?_) rfl (by kernel_rfl) (by kernel_rfl) (by kernel_rfl) (fun _ _ _ h => h) (Or.inl ⟨by rfl, ?_⟩) (by assumption) ?_
        rotate_left
        · intro w hSw
          try dsimp only at hSw
          go_simp
          any_goals with_reducible rfl
        try simp only [Act.put, List.setIfInBounds_toArray, List.set_cons_zero, List.set_cons_succ]
        refine wpAnyH_take (i := 1) (oi := { dst := some 76, op := Op.load 42 (Operand.tmp 5), type := 42, pos := "law.go:78", after := #[], guard := none }) (v := ?_) rfl (by kernel_rfl) (by kernel_rfl) (by kernel_rfl) (fun _ _ _ h => h) (Or.inl ⟨by rfl, ?_⟩) (by assumption) ?_
        rotate_left
        · intro w hSw
          try dsimp only at hSw
          go_simp
          any_goals with_reducible rfl
        try simp only [Act.put, List.setIfInBounds_toArray, List.set_cons_zero, List.set_cons_succ]
        refine wpAnyH_ready (rs := [2]) (by kernel_rfl) (by simp) ?_
        refine AllReadyH.cons (o := { dst := some 77, op := Op.call { callee := Callee.value (Operand.func 26), args := #[Operand.tmp 75, Operand.tmp 76], argTypes := #[42, 42] }, type := 3, pos := "law.go:78", after := #[{ on := 0, ground := Ground.data }, { on := 1, ground := Ground.data }], guard := none }) rfl (fun K hK => ?_) AllReadyH.nil
        go_simp
        go_at_call 26
        refine (CW.out _ zw zx).mono ?_
        rintro o wx ⟨rfl, k⟩
        replace KP := KP.below k
        replace bx := bx.below' k
        replace by' := by'.below' k
        replace bs := bs.below' k
        replace bw := bw.below' k
        replace zx := zx.below k
        replace zy := zy.below k
        replace zs := zs.below k
        replace zw := zw.below k
        clear k
        refine hK.out _ _ (⟨bw.c0, bw.c1, bx.c0, bx.c1, bs.c0, bs.c1, by'.c0, by'.c1, KP.head.c0, KP.head.c1⟩) (fun hHeld => ?_)
        clear hK K
        try simp only [Act.put, List.setIfInBounds_toArray, List.set_cons_zero, List.set_cons_succ]
        refine wpAnyH_take (i := 3) (oi := { dst := some 78, op := Op.binOp BinOp.neq 3 (Operand.tmp 77) (Operand.const (Value.int IntKind.i64 0)) 3, type := 4, pos := "law.go:78", after := #[{ on := 2, ground := Ground.data }], guard := none }) (v := ?_) rfl (by kernel_rfl) (by kernel_rfl) (by kernel_rfl) (fun _ _ _ h => h) (Or.inl ⟨by rfl, ?_⟩) (by assumption) ?_
        rotate_left
        · intro w hSw
          try dsimp only at hSw
          go_simp
          any_goals with_reducible rfl
        try simp only [Act.put, List.setIfInBounds_toArray, List.set_cons_zero, List.set_cons_succ]
        refine wpAnyH_take (i := 4) (oi := { dst := some 79, op := Op.move (Operand.tmp 78), type := 4, pos := "law.go:78", after := #[{ on := 3, ground := Ground.data }, { on := 2, ground := Ground.chain }], guard := none }) (v := ?_) rfl (by kernel_rfl) (by kernel_rfl) (by kernel_rfl) (fun _ _ _ h => h) (Or.inl ⟨by rfl, ?_⟩) (by assumption) ?_
        rotate_left
        · intro w hSw
          try dsimp only at hSw
          go_simp
          any_goals with_reducible rfl
        try simp only [Act.put, List.setIfInBounds_toArray, List.set_cons_zero, List.set_cons_succ]
        refine wpAnyH_take (i := 5) (oi := { dst := some 80, op := Op.load 42 (Operand.tmp 11), type := 42, pos := "law.go:78", after := #[{ on := 4, ground := Ground.guard }], guard := some (4, false) }) (v := ?_) rfl (by kernel_rfl) (by kernel_rfl) (by kernel_rfl) (fun _ _ _ h => h) (Or.inl ⟨by rfl, ?_⟩) (by assumption) ?_
        rotate_left
        · intro w hSw
          try dsimp only at hSw
          go_simp
          any_goals with_reducible rfl
        try simp only [Act.put, List.setIfInBounds_toArray, List.set_cons_zero, List.set_cons_succ]
        refine wpAnyH_take (i := 7) (oi := { dst := some 82, op := Op.load 42 (Operand.tmp 6), type := 42, pos := "law.go:78", after := #[{ on := 4, ground := Ground.guard }], guard := some (4, false) }) (v := ?_) rfl (by kernel_rfl) (by kernel_rfl) (by kernel_rfl) (fun _ _ _ h => h) (Or.inl ⟨by rfl, ?_⟩) (by assumption) ?_
        rotate_left
        · intro w hSw
          try dsimp only at hSw
          go_simp
          any_goals with_reducible rfl
        try simp only [Act.put, List.setIfInBounds_toArray, List.set_cons_zero, List.set_cons_succ]
        refine wpAnyH_ready (rs := [6]) (by kernel_rfl) (by simp) ?_
        refine AllReadyH.cons (o := { dst := some 81, op := Op.call { callee := Callee.value (Operand.func 27), args := #[Operand.tmp 80], argTypes := #[42] }, type := 42, pos := "law.go:78", after := #[{ on := 5, ground := Ground.data }, { on := 4, ground := Ground.chain }, { on := 4, ground := Ground.guard }], guard := some (4, false) }) rfl (fun K hK => ?_) AllReadyH.nil
        go_simp
        go_at_call 27
        refine (abs_any ps As ns cs Rf _ zs (by omega)).mono ?_
        rintro o wx ⟨p7, A7, n7, c7, rfl, z7, k⟩
        have l7 := z7.small SR9.out
        replace KP := KP.below k
        replace bx := bx.below' k
        replace by' := by'.below' k
        replace bs := bs.below' k
        replace bw := bw.below' k
        replace zx := zx.below k
        replace zy := zy.below k
        replace zs := zs.below k
        replace zw := zw.below k
        clear k
        refine hK.out _ _ (⟨bw.c0, bw.c1, bx.c0, bx.c1, bs.c0, bs.c1, by'.c0, by'.c1, KP.head.c0, KP.head.c1⟩) (fun hHeld => ?_)
        clear hK K
        try simp only [Act.put, List.setIfInBounds_toArray, List.set_cons_zero, List.set_cons_succ]
        refine wpAnyH_ready (rs := [8]) (by kernel_rfl) (by simp) ?_
        refine AllReadyH.cons (o := { dst := some 83, op := Op.call { callee := Callee.value (Operand.func 27), args := #[Operand.tmp 82], argTypes := #[42] }, type := 42, pos := "law.go:78", after := #[{ on := 7, ground := Ground.data }, { on := 6, ground := Ground.chain }, { on := 4, ground := Ground.guard }], guard := some (4, false) }) rfl (fun K hK => ?_) AllReadyH.nil
        go_simp
        go_at_call 27
        refine (abs_any py Ay ny cy b _ zy (by omega)).mono ?_
        rintro o wx ⟨p8, A8, n8, c8, rfl, z8, k⟩
        have l8 := z8.small SB9.out
        replace z7 := z7.below k
        replace KP := KP.below k
        replace bx := bx.below' k
        replace by' := by'.below' k
        replace bs := bs.below' k
        replace bw := bw.below' k
        replace zx := zx.below k
        replace zy := zy.below k
        replace zs := zs.below k
        replace zw := zw.below k
        clear k
        refine hK.out _ _ (⟨bw.c0, bw.c1, bx.c0, bx.c1, bs.c0, bs.c1, by'.c0, by'.c1, KP.head.c0, KP.head.c1⟩) (fun hHeld => ?_)
        clear hK K
        try simp only [Act.put, List.setIfInBounds_toArray, List.set_cons_zero, List.set_cons_succ]
        refine wpAnyH_ready (rs := [9]) (by kernel_rfl) (by simp) ?_
        refine AllReadyH.cons (o := { dst := some 84, op := Op.call { callee := Callee.value (Operand.func 26), args := #[Operand.tmp 81, Operand.tmp 83], argTypes := #[42, 42] }, type := 3, pos := "law.go:78", after := #[{ on := 6, ground := Ground.data }, { on := 8, ground := Ground.data }, { on := 8, ground := Ground.chain }, { on := 4, ground := Ground.guard }], guard := some (4, false) }) rfl (fun K hK => ?_) AllReadyH.nil
        go_simp
        go_at_call 26
        refine (CL.out p7 p8 A7 A8 n7 n8 c7 c8 _ z7 z8 (by omega) (by omega)).mono ?_
        rintro o wx ⟨rfl, k⟩
        replace KP := KP.below k
        replace bx := bx.below' k
        replace by' := by'.below' k
        replace bs := bs.below' k
        replace bw := bw.below' k
        replace zx := zx.below k
        replace zy := zy.below k
        replace zs := zs.below k
        replace zw := zw.below k
        clear k
        refine hK.out _ _ (⟨bw.c0, bw.c1, bx.c0, bx.c1, bs.c0, bs.c1, by'.c0, by'.c1, KP.head.c0, KP.head.c1⟩) (fun hHeld => ?_)
        clear hK K
        try simp only [Act.put, List.setIfInBounds_toArray, List.set_cons_zero, List.set_cons_succ]
        refine wpAnyH_take (i := 10) (oi := { dst := some 85, op := Op.binOp BinOp.geq 3 (Operand.tmp 84) (Operand.const (Value.int IntKind.i64 0)) 3, type := 4, pos := "law.go:78", after := #[{ on := 9, ground := Ground.data }, { on := 4, ground := Ground.guard }], guard := some (4, false) }) (v := ?_) rfl (by kernel_rfl) (by kernel_rfl) (by kernel_rfl) (fun _ _ _ h => h) (Or.inl ⟨by rfl, ?_⟩) (by assumption) ?_
        rotate_left
        · intro w hSw
          try dsimp only at hSw
          go_simp
          any_goals with_reducible rfl
        try simp only [Act.put, List.setIfInBounds_toArray, List.set_cons_zero, List.set_cons_succ]
        refine wpAnyH_take (i := 11) (oi := { dst := some 86, op := Op.pick (Operand.tmp 79) (Operand.const (Value.bool true)) (Operand.tmp 85), type := 4, pos := "law.go:78", after := #[{ on := 4, ground := Ground.data }, { on := 10, ground := Ground.data }], guard := none }) (v := ?_) rfl (by kernel_rfl) (by kernel_rfl) (by kernel_rfl) (fun _ _ _ h => h) (Or.inl ⟨by rfl, ?_⟩) (by assumption) ?_
        rotate_left
        · intro w hSw
          try dsimp only at hSw
          go_simp
          any_goals with_reducible rfl
        try simp only [Act.put, List.setIfInBounds_toArray, List.set_cons_zero, List.set_cons_succ]
        refine wpAnyH_take (i := 12) (oi := { dst := some 87, op := Op.move (Operand.tmp 86), type := 4, pos := "law.go:78", after := #[{ on := 11, ground := Ground.data }, { on := 9, ground := Ground.chain }], guard := none }) (v := ?_) rfl (by kernel_rfl) (by kernel_rfl) (by kernel_rfl) (fun _ _ _ h => h) (Or.inl ⟨by rfl, ?_⟩) (by assumption) ?_
        rotate_left
        · intro w hSw
          try dsimp only at hSw
          go_simp
          any_goals with_reducible rfl
        try simp only [Act.put, List.setIfInBounds_toArray, List.set_cons_zero, List.set_cons_succ]
        refine wpAnyH_take (i := 13) (oi := { dst := some 88, op := Op.load 24 (Operand.tmp 9), type := 24, pos := "law.go:78", after := #[{ on := 12, ground := Ground.guard }], guard := some (12, false) }) (v := ?_) rfl (by kernel_rfl) (by kernel_rfl) (by kernel_rfl) (fun _ _ _ h => h) (Or.inl ⟨by rfl, ?_⟩) (by assumption) ?_
        rotate_left
        · intro w hSw
          try dsimp only at hSw
          go_simp
          any_goals with_reducible rfl
        try simp only [Act.put, List.setIfInBounds_toArray, List.set_cons_zero, List.set_cons_succ]
        refine wpAnyH_ready (rs := [14]) (by kernel_rfl) (by simp) ?_
        refine AllReadyH.cons (o := { dst := some 89, op := Op.call { callee := Callee.value (Operand.func 23), args := #[Operand.tmp 88], argTypes := #[24] }, type := 3, pos := "law.go:78", after := #[{ on := 13, ground := Ground.data }, { on := 12, ground := Ground.chain }, { on := 12, ground := Ground.guard }], guard := some (12, false) }) rfl (fun K hK => ?_) AllReadyH.nil
        go_simp
        go_at_call 23
        refine (SRf.out _).mono ?_
        rintro o wx ⟨rfl, k⟩
        replace KP := KP.below k
        replace bx := bx.below' k
        replace by' := by'.below' k
        replace bs := bs.below' k
        replace bw := bw.below' k
        replace zx := zx.below k
        replace zy := zy.below k
        replace zs := zs.below k
        replace zw := zw.below k
        clear k
        refine hK.out _ _ (⟨bw.c0, bw.c1, bx.c0, bx.c1, bs.c0, bs.c1, by'.c0, by'.c1, KP.head.c0, KP.head.c1⟩) (fun hHeld => ?_)
        clear hK K
        try simp only [Act.put, List.setIfInBounds_toArray, List.set_cons_zero, List.set_cons_succ]
        refine wpAnyH_take (i := 15) (oi := { dst := some 90, op := Op.binOp BinOp.neq 3 (Operand.tmp 89) (Operand.const (Value.int IntKind.i64 0)) 3, type := 4, pos := "law.go:78", after := #[{ on := 14, ground := Ground.data }, { on := 12, ground := Ground.guard }], guard := some (12, false) }) (v := ?_) rfl (by kernel_rfl) (by kernel_rfl) (by kernel_rfl) (fun _ _ _ h => h) (Or.inl ⟨by rfl, ?_⟩) (by assumption) ?_
        rotate_left
        · intro w hSw
          try dsimp only at hSw
          go_simp
          any_goals with_reducible rfl
        try simp only [Act.put, List.setIfInBounds_toArray, List.set_cons_zero, List.set_cons_succ]
        refine wpAnyH_take (i := 16) (oi := { dst := some 91, op := Op.move (Operand.tmp 90), type := 4, pos := "law.go:78", after := #[{ on := 15, ground := Ground.data }, { on := 14, ground := Ground.chain }, { on := 12, ground := Ground.guard }], guard := some (12, false) }) (v := ?_) rfl (by kernel_rfl) (by kernel_rfl) (by kernel_rfl) (fun _ _ _ h => h) (Or.inl ⟨by rfl, ?_⟩) (by assumption) ?_
        rotate_left
        · intro w hSw
          try dsimp only at hSw
          go_simp
          any_goals with_reducible rfl
        try simp only [Act.put, List.setIfInBounds_toArray, List.set_cons_zero, List.set_cons_succ]
        refine wpAnyH_take (i := 17) (oi := { dst := some 92, op := Op.load 24 (Operand.tmp 9), type := 24, pos := "law.go:78", after := #[{ on := 16, ground := Ground.guard }], guard := some (16, true) }) (v := undef) rfl (by kernel_rfl) (by kernel_rfl) (by kernel_rfl) (fun _ _ _ h => h) (Or.inr ⟨by rfl, rfl⟩) (by assumption) ?_
        try simp only [Act.put, List.setIfInBounds_toArray, List.set_cons_zero, List.set_cons_succ]
        refine wpAnyH_take (i := 19) (oi := { dst := some 94, op := Op.move (Operand.tmp 13), type := 3, pos := "law.go:78", after := #[{ on := 16, ground := Ground.guard }], guard := some (16, true) }) (v := undef) rfl (by kernel_rfl) (by kernel_rfl) (by kernel_rfl) (fun _ _ _ h => h) (Or.inr ⟨by rfl, rfl⟩) (by assumption) ?_
        try simp only [Act.put, List.setIfInBounds_toArray, List.set_cons_zero, List.set_cons_succ]
        refine wpAnyH_take (i := 18) (oi := { dst := some 93, op := Op.call { callee := Callee.value (Operand.func 23), args := #[Operand.tmp 92], argTypes := #[24] }, type := 3, pos := "law.go:78", after := #[{ on := 17, ground := Ground.data }, { on := 16, ground := Ground.chain }, { on := 16, ground := Ground.guard }], guard := some (16, true) }) (v := undef) rfl (by kernel_rfl) (by kernel_rfl) (by kernel_rfl) (fun _ _ _ h => h) (Or.inr ⟨by rfl, rfl⟩) (by assumption) ?_
        try simp only [Act.put, List.setIfInBounds_toArray, List.set_cons_zero, List.set_cons_succ]
        refine wpAnyH_take (i := 20) (oi := { dst := some 95, op := Op.binOp BinOp.neq 3 (Operand.tmp 93) (Operand.tmp 94) 3, type := 4, pos := "law.go:78", after := #[{ on := 18, ground := Ground.data }, { on := 19, ground := Ground.data }, { on := 16, ground := Ground.guard }], guard := some (16, true) }) (v := undef) rfl (by kernel_rfl) (by kernel_rfl) (by kernel_rfl) (fun _ _ _ h => h) (Or.inr ⟨by rfl, rfl⟩) (by assumption) ?_
        try simp only [Act.put, List.setIfInBounds_toArray, List.set_cons_zero, List.set_cons_succ]
        refine wpAnyH_take (i := 21) (oi := { dst := some 96, op := Op.pick (Operand.tmp 91) (Operand.tmp 95) (Operand.const (Value.bool false)), type := 4, pos := "law.go:78", after := #[{ on := 16, ground := Ground.data }, { on := 20, ground := Ground.data }, { on := 12, ground := Ground.guard }], guard := some (12, false) }) (v := ?_) rfl (by kernel_rfl) (by kernel_rfl) (by kernel_rfl) (fun _ _ _ h => h) (Or.inl ⟨by rfl, ?_⟩) (by assumption) ?_
        rotate_left
        · intro w hSw
          try dsimp only at hSw
          go_simp
          any_goals with_reducible rfl
        try simp only [Act.put, List.setIfInBounds_toArray, List.set_cons_zero, List.set_cons_succ]
        refine wpAnyH_take (i := 22) (oi := { dst := some 97, op := Op.pick (Operand.tmp 87) (Operand.const (Value.bool true)) (Operand.tmp 96), type := 4, pos := "law.go:78", after := #[{ on := 12, ground := Ground.data }, { on := 21, ground := Ground.data }], guard := none }) (v := ?_) rfl (by kernel_rfl) (by kernel_rfl) (by kernel_rfl) (fun _ _ _ h => h) (Or.inl ⟨by rfl, ?_⟩) (by assumption) ?_
        rotate_left
        · intro w hSw
          try dsimp only at hSw
          go_simp
          any_goals with_reducible rfl
        try simp only [Act.put, List.setIfInBounds_toArray, List.set_cons_zero, List.set_cons_succ]
        refine wpAnyH_done (by kernel_rfl) ?_ _
        refine NoPanic.normal ?_
        go_wp2_with fail
        go_roundw
        case rel => exact ⟨1, .inr (.inl rfl), rfl, ⟨KP.tail.tail, bx, by', zx, zy⟩⟩
        case measure => simp [intOf]
      · subst h1
        have sn : ¬ rf = 0 := by rw [beq_eq_false_iff_ne] at h0; exact h0
        have sn1 : (rf != 0) = true := by simp [sn]
        have sn2 : (!(rf == 0)) = true := by simp [sn]
        have sn3 : decide (rf = 0) = false := by simp [sn]
        refine wp_region_noPanic ?_
        refine wp_region_held_drew (S := (fun w' => w'.cell? ⟨gw, 0, none⟩ = some (.bool pw) ∧ w'.cell? ⟨gw, 1, none⟩ = some (.slice Aw nw cw) ∧ w'.cell? ⟨gx, 0, none⟩ = some (.bool px) ∧ w'.cell? ⟨gx, 1, none⟩ = some (.slice Ax nx cx) ∧ w'.cell? ⟨gs, 0, none⟩ = some (.bool ps) ∧ w'.cell? ⟨gs, 1, none⟩ = some (.slice As ns cs) ∧ w'.cell? ⟨gy, 0, none⟩ = some (.bool py) ∧ w'.cell? ⟨gy, 1, none⟩ = some (.slice Ay ny cy) ∧ w'.cell? ⟨g + 1, 0, none⟩ = some (.int .i64 (hiW Rf)) ∧ w'.cell? ⟨g + 1, 1, none⟩ = some (.int .u64 (loW Rf)))) (by kernel_rfl) ⟨bw.c0, bw.c1, bx.c0, bx.c1, bs.c0, bs.c1, by'.c0, by'.c1, KP.head.c0, KP.head.c1⟩ (fun hHeld => ?_)
        refine wpAnyH_take (i := 0) (oi := { dst := some 75, op := Op.load 42 (Operand.tmp 12), type := 42, pos := "law.go:78", after := #[], guard := none }) (v := ?_) rfl (by kernel_rfl) (by kernel_rfl) (by kernel_rfl) (fun _ _ _ h => h) (Or.inl ⟨by rfl, ?_⟩) (by assumption) ?_
        rotate_left
        · intro w hSw
          try dsimp only at hSw
          go_simp
          any_goals with_reducible rfl
        try simp only [Act.put, List.setIfInBounds_toArray, List.set_cons_zero, List.set_cons_succ]
        refine wpAnyH_take (i := 1) (oi := { dst := some 76, op := Op.load 42 (Operand.tmp 5), type := 42, pos := "law.go:78", after := #[], guard := none }) (v := ?_) rfl (by kernel_rfl) (by kernel_rfl) (by kernel_rfl) (fun _ _ _ h => h) (Or.inl ⟨by rfl, ?_⟩) (by assumption) ?_
        rotate_left
        · intro w hSw
          try dsimp only at hSw
          go_simp
          any_goals with_reducible rfl
        try simp only [Act.put, List.setIfInBounds_toArray, List.set_cons_zero, List.set_cons_succ]
        refine wpAnyH_ready (rs := [2]) (by kernel_rfl) (by simp) ?_
        refine AllReadyH.cons (o := { dst := some 77, op := Op.call { callee := Callee.value (Operand.func 26), args := #[Operand.tmp 75, Operand.tmp 76], argTypes := #[42, 42] }, type := 3, pos := "law.go:78", after := #[{ on := 0, ground := Ground.data }, { on := 1, ground := Ground.data }], guard := none }) rfl (fun K hK => ?_) AllReadyH.nil
        go_simp
        go_at_call 26
        refine (CW.out _ zw zx).mono ?_
        rintro o wx ⟨rfl, k⟩
        replace KP := KP.below k
        replace bx := bx.below' k
        replace by' := by'.below' k
        replace bs := bs.below' k
        replace bw := bw.below' k
        replace zx := zx.below k
        replace zy := zy.below k
        replace zs := zs.below k
        replace zw := zw.below k
        clear k
        refine hK.out _ _ (⟨bw.c0, bw.c1, bx.c0, bx.c1, bs.c0, bs.c1, by'.c0, by'.c1, KP.head.c0, KP.head.c1⟩) (fun hHeld => ?_)
        clear hK K
        try simp only [Act.put, List.setIfInBounds_toArray, List.set_cons_zero, List.set_cons_succ]
        refine wpAnyH_take (i := 3) (oi := { dst := some 78, op := Op.binOp BinOp.neq 3 (Operand.tmp 77) (Operand.const (Value.int IntKind.i64 0)) 3, type := 4, pos := "law.go:78", after := #[{ on := 2, ground := Ground.data }], guard := none }) (v := ?_) rfl (by kernel_rfl) (by kernel_rfl) (by kernel_rfl) (fun _ _ _ h => h) (Or.inl ⟨by rfl, ?_⟩) (by assumption) ?_
        rotate_left
        · intro w hSw
          try dsimp only at hSw
          go_simp
          any_goals with_reducible rfl
        try simp only [Act.put, List.setIfInBounds_toArray, List.set_cons_zero, List.set_cons_succ]
        refine wpAnyH_take (i := 4) (oi := { dst := some 79, op := Op.move (Operand.tmp 78), type := 4, pos := "law.go:78", after := #[{ on := 3, ground := Ground.data }, { on := 2, ground := Ground.chain }], guard := none }) (v := ?_) rfl (by kernel_rfl) (by kernel_rfl) (by kernel_rfl) (fun _ _ _ h => h) (Or.inl ⟨by rfl, ?_⟩) (by assumption) ?_
        rotate_left
        · intro w hSw
          try dsimp only at hSw
          go_simp
          any_goals with_reducible rfl
        try simp only [Act.put, List.setIfInBounds_toArray, List.set_cons_zero, List.set_cons_succ]
        refine wpAnyH_take (i := 5) (oi := { dst := some 80, op := Op.load 42 (Operand.tmp 11), type := 42, pos := "law.go:78", after := #[{ on := 4, ground := Ground.guard }], guard := some (4, false) }) (v := ?_) rfl (by kernel_rfl) (by kernel_rfl) (by kernel_rfl) (fun _ _ _ h => h) (Or.inl ⟨by rfl, ?_⟩) (by assumption) ?_
        rotate_left
        · intro w hSw
          try dsimp only at hSw
          go_simp
          any_goals with_reducible rfl
        try simp only [Act.put, List.setIfInBounds_toArray, List.set_cons_zero, List.set_cons_succ]
        refine wpAnyH_take (i := 7) (oi := { dst := some 82, op := Op.load 42 (Operand.tmp 6), type := 42, pos := "law.go:78", after := #[{ on := 4, ground := Ground.guard }], guard := some (4, false) }) (v := ?_) rfl (by kernel_rfl) (by kernel_rfl) (by kernel_rfl) (fun _ _ _ h => h) (Or.inl ⟨by rfl, ?_⟩) (by assumption) ?_
        rotate_left
        · intro w hSw
          try dsimp only at hSw
          go_simp
          any_goals with_reducible rfl
        try simp only [Act.put, List.setIfInBounds_toArray, List.set_cons_zero, List.set_cons_succ]
        refine wpAnyH_ready (rs := [6]) (by kernel_rfl) (by simp) ?_
        refine AllReadyH.cons (o := { dst := some 81, op := Op.call { callee := Callee.value (Operand.func 27), args := #[Operand.tmp 80], argTypes := #[42] }, type := 42, pos := "law.go:78", after := #[{ on := 5, ground := Ground.data }, { on := 4, ground := Ground.chain }, { on := 4, ground := Ground.guard }], guard := some (4, false) }) rfl (fun K hK => ?_) AllReadyH.nil
        go_simp
        go_at_call 27
        refine (abs_any ps As ns cs Rf _ zs (by omega)).mono ?_
        rintro o wx ⟨p7, A7, n7, c7, rfl, z7, k⟩
        have l7 := z7.small SR9.out
        replace KP := KP.below k
        replace bx := bx.below' k
        replace by' := by'.below' k
        replace bs := bs.below' k
        replace bw := bw.below' k
        replace zx := zx.below k
        replace zy := zy.below k
        replace zs := zs.below k
        replace zw := zw.below k
        clear k
        refine hK.out _ _ (⟨bw.c0, bw.c1, bx.c0, bx.c1, bs.c0, bs.c1, by'.c0, by'.c1, KP.head.c0, KP.head.c1⟩) (fun hHeld => ?_)
        clear hK K
        try simp only [Act.put, List.setIfInBounds_toArray, List.set_cons_zero, List.set_cons_succ]
        refine wpAnyH_ready (rs := [8]) (by kernel_rfl) (by simp) ?_
        refine AllReadyH.cons (o := { dst := some 83, op := Op.call { callee := Callee.value (Operand.func 27), args := #[Operand.tmp 82], argTypes := #[42] }, type := 42, pos := "law.go:78", after := #[{ on := 7, ground := Ground.data }, { on := 6, ground := Ground.chain }, { on := 4, ground := Ground.guard }], guard := some (4, false) }) rfl (fun K hK => ?_) AllReadyH.nil
        go_simp
        go_at_call 27
        refine (abs_any py Ay ny cy b _ zy (by omega)).mono ?_
        rintro o wx ⟨p8, A8, n8, c8, rfl, z8, k⟩
        have l8 := z8.small SB9.out
        replace z7 := z7.below k
        replace KP := KP.below k
        replace bx := bx.below' k
        replace by' := by'.below' k
        replace bs := bs.below' k
        replace bw := bw.below' k
        replace zx := zx.below k
        replace zy := zy.below k
        replace zs := zs.below k
        replace zw := zw.below k
        clear k
        refine hK.out _ _ (⟨bw.c0, bw.c1, bx.c0, bx.c1, bs.c0, bs.c1, by'.c0, by'.c1, KP.head.c0, KP.head.c1⟩) (fun hHeld => ?_)
        clear hK K
        try simp only [Act.put, List.setIfInBounds_toArray, List.set_cons_zero, List.set_cons_succ]
        refine wpAnyH_ready (rs := [9]) (by kernel_rfl) (by simp) ?_
        refine AllReadyH.cons (o := { dst := some 84, op := Op.call { callee := Callee.value (Operand.func 26), args := #[Operand.tmp 81, Operand.tmp 83], argTypes := #[42, 42] }, type := 3, pos := "law.go:78", after := #[{ on := 6, ground := Ground.data }, { on := 8, ground := Ground.data }, { on := 8, ground := Ground.chain }, { on := 4, ground := Ground.guard }], guard := some (4, false) }) rfl (fun K hK => ?_) AllReadyH.nil
        go_simp
        go_at_call 26
        refine (CL.out p7 p8 A7 A8 n7 n8 c7 c8 _ z7 z8 (by omega) (by omega)).mono ?_
        rintro o wx ⟨rfl, k⟩
        replace KP := KP.below k
        replace bx := bx.below' k
        replace by' := by'.below' k
        replace bs := bs.below' k
        replace bw := bw.below' k
        replace zx := zx.below k
        replace zy := zy.below k
        replace zs := zs.below k
        replace zw := zw.below k
        clear k
        refine hK.out _ _ (⟨bw.c0, bw.c1, bx.c0, bx.c1, bs.c0, bs.c1, by'.c0, by'.c1, KP.head.c0, KP.head.c1⟩) (fun hHeld => ?_)
        clear hK K
        try simp only [Act.put, List.setIfInBounds_toArray, List.set_cons_zero, List.set_cons_succ]
        refine wpAnyH_take (i := 10) (oi := { dst := some 85, op := Op.binOp BinOp.geq 3 (Operand.tmp 84) (Operand.const (Value.int IntKind.i64 0)) 3, type := 4, pos := "law.go:78", after := #[{ on := 9, ground := Ground.data }, { on := 4, ground := Ground.guard }], guard := some (4, false) }) (v := ?_) rfl (by kernel_rfl) (by kernel_rfl) (by kernel_rfl) (fun _ _ _ h => h) (Or.inl ⟨by rfl, ?_⟩) (by assumption) ?_
        rotate_left
        · intro w hSw
          try dsimp only at hSw
          go_simp
          any_goals with_reducible rfl
        try simp only [Act.put, List.setIfInBounds_toArray, List.set_cons_zero, List.set_cons_succ]
        refine wpAnyH_take (i := 11) (oi := { dst := some 86, op := Op.pick (Operand.tmp 79) (Operand.const (Value.bool true)) (Operand.tmp 85), type := 4, pos := "law.go:78", after := #[{ on := 4, ground := Ground.data }, { on := 10, ground := Ground.data }], guard := none }) (v := ?_) rfl (by kernel_rfl) (by kernel_rfl) (by kernel_rfl) (fun _ _ _ h => h) (Or.inl ⟨by rfl, ?_⟩) (by assumption) ?_
        rotate_left
        · intro w hSw
          try dsimp only at hSw
          go_simp
          any_goals with_reducible rfl
        try simp only [Act.put, List.setIfInBounds_toArray, List.set_cons_zero, List.set_cons_succ]
        refine wpAnyH_take (i := 12) (oi := { dst := some 87, op := Op.move (Operand.tmp 86), type := 4, pos := "law.go:78", after := #[{ on := 11, ground := Ground.data }, { on := 9, ground := Ground.chain }], guard := none }) (v := ?_) rfl (by kernel_rfl) (by kernel_rfl) (by kernel_rfl) (fun _ _ _ h => h) (Or.inl ⟨by rfl, ?_⟩) (by assumption) ?_
        rotate_left
        · intro w hSw
          try dsimp only at hSw
          go_simp
          any_goals with_reducible rfl
        try simp only [Act.put, List.setIfInBounds_toArray, List.set_cons_zero, List.set_cons_succ]
        refine wpAnyH_take (i := 13) (oi := { dst := some 88, op := Op.load 24 (Operand.tmp 9), type := 24, pos := "law.go:78", after := #[{ on := 12, ground := Ground.guard }], guard := some (12, false) }) (v := ?_) rfl (by kernel_rfl) (by kernel_rfl) (by kernel_rfl) (fun _ _ _ h => h) (Or.inl ⟨by rfl, ?_⟩) (by assumption) ?_
        rotate_left
        · intro w hSw
          try dsimp only at hSw
          go_simp
          any_goals with_reducible rfl
        try simp only [Act.put, List.setIfInBounds_toArray, List.set_cons_zero, List.set_cons_succ]
        refine wpAnyH_ready (rs := [14]) (by kernel_rfl) (by simp) ?_
        refine AllReadyH.cons (o := { dst := some 89, op := Op.call { callee := Callee.value (Operand.func 23), args := #[Operand.tmp 88], argTypes := #[24] }, type := 3, pos := "law.go:78", after := #[{ on := 13, ground := Ground.data }, { on := 12, ground := Ground.chain }, { on := 12, ground := Ground.guard }], guard := some (12, false) }) rfl (fun K hK => ?_) AllReadyH.nil
        go_simp
        go_at_call 23
        refine (SRf.out _).mono ?_
        rintro o wx ⟨rfl, k⟩
        replace KP := KP.below k
        replace bx := bx.below' k
        replace by' := by'.below' k
        replace bs := bs.below' k
        replace bw := bw.below' k
        replace zx := zx.below k
        replace zy := zy.below k
        replace zs := zs.below k
        replace zw := zw.below k
        clear k
        refine hK.out _ _ (⟨bw.c0, bw.c1, bx.c0, bx.c1, bs.c0, bs.c1, by'.c0, by'.c1, KP.head.c0, KP.head.c1⟩) (fun hHeld => ?_)
        clear hK K
        try simp only [Act.put, List.setIfInBounds_toArray, List.set_cons_zero, List.set_cons_succ]
        refine wpAnyH_take (i := 15) (oi := { dst := some 90, op := Op.binOp BinOp.neq 3 (Operand.tmp 89) (Operand.const (Value.int IntKind.i64 0)) 3, type := 4, pos := "law.go:78", after := #[{ on := 14, ground := Ground.data }, { on := 12, ground := Ground.guard }], guard := some (12, false) }) (v := ?_) rfl (by kernel_rfl) (by kernel_rfl) (by kernel_rfl) (fun _ _ _ h => h) (Or.inl ⟨by rfl, ?_⟩) (by assumption) ?_
        rotate_left
        · intro w hSw
          try dsimp only at hSw
          go_simp
          any_goals with_reducible rfl
        try simp only [Act.put, List.setIfInBounds_toArray, List.set_cons_zero, List.set_cons_succ]
        refine wpAnyH_take (i := 16) (oi := { dst := some 91, op := Op.move (Operand.tmp 90), type := 4, pos := "law.go:78", after := #[{ on := 15, ground := Ground.data }, { on := 14, ground := Ground.chain }, { on := 12, ground := Ground.guard }], guard := some (12, false) }) (v := ?_) rfl (by kernel_rfl) (by kernel_rfl) (by kernel_rfl) (fun _ _ _ h => h) (Or.inl ⟨by rfl, ?_⟩) (by assumption) ?_
        rotate_left
        · intro w hSw
          try dsimp only at hSw
          go_simp
          any_goals with_reducible rfl
        try simp only [Act.put, List.setIfInBounds_toArray, List.set_cons_zero, List.set_cons_succ]
        refine wpAnyH_take (i := 17) (oi := { dst := some 92, op := Op.load 24 (Operand.tmp 9), type := 24, pos := "law.go:78", after := #[{ on := 16, ground := Ground.guard }], guard := some (16, true) }) (v := ?_) rfl (by kernel_rfl) (by kernel_rfl) (by kernel_rfl) (fun _ _ _ h => h) (Or.inl ⟨by rfl, ?_⟩) (by assumption) ?_
        rotate_left
        · intro w hSw
          try dsimp only at hSw
          go_simp
          any_goals with_reducible rfl
        try simp only [Act.put, List.setIfInBounds_toArray, List.set_cons_zero, List.set_cons_succ]
        refine wpAnyH_take (i := 19) (oi := { dst := some 94, op := Op.move (Operand.tmp 13), type := 3, pos := "law.go:78", after := #[{ on := 16, ground := Ground.guard }], guard := some (16, true) }) (v := ?_) rfl (by kernel_rfl) (by kernel_rfl) (by kernel_rfl) (fun _ _ _ h => h) (Or.inl ⟨by rfl, ?_⟩) (by assumption) ?_
        rotate_left
        · intro w hSw
          try dsimp only at hSw
          go_simp
          any_goals with_reducible rfl
        try simp only [Act.put, List.setIfInBounds_toArray, List.set_cons_zero, List.set_cons_succ]
        refine wpAnyH_ready (rs := [18]) (by kernel_rfl) (by simp) ?_
        refine AllReadyH.cons (o := { dst := some 93, op := Op.call { callee := Callee.value (Operand.func 23), args := #[Operand.tmp 92], argTypes := #[24] }, type := 3, pos := "law.go:78", after := #[{ on := 17, ground := Ground.data }, { on := 16, ground := Ground.chain }, { on := 16, ground := Ground.guard }], guard := some (16, true) }) rfl (fun K hK => ?_) AllReadyH.nil
        go_simp
        go_at_call 23
        refine (SRf.out _).mono ?_
        rintro o wx ⟨rfl, k⟩
        replace KP := KP.below k
        replace bx := bx.below' k
        replace by' := by'.below' k
        replace bs := bs.below' k
        replace bw := bw.below' k
        replace zx := zx.below k
        replace zy := zy.below k
        replace zs := zs.below k
        replace zw := zw.below k
        clear k
        refine hK.out _ _ (⟨bw.c0, bw.c1, bx.c0, bx.c1, bs.c0, bs.c1, by'.c0, by'.c1, KP.head.c0, KP.head.c1⟩) (fun hHeld => ?_)
        clear hK K
        try simp only [Act.put, List.setIfInBounds_toArray, List.set_cons_zero, List.set_cons_succ]
        refine wpAnyH_take (i := 20) (oi := { dst := some 95, op := Op.binOp BinOp.neq 3 (Operand.tmp 93) (Operand.tmp 94) 3, type := 4, pos := "law.go:78", after := #[{ on := 18, ground := Ground.data }, { on := 19, ground := Ground.data }, { on := 16, ground := Ground.guard }], guard := some (16, true) }) (v := ?_) rfl (by kernel_rfl) (by kernel_rfl) (by kernel_rfl) (fun _ _ _ h => h) (Or.inl ⟨by rfl, ?_⟩) (by assumption) ?_
        rotate_left
        · intro w hSw
          try dsimp only at hSw
          go_simp
          any_goals with_reducible rfl
        try simp only [Act.put, List.setIfInBounds_toArray, List.set_cons_zero, List.set_cons_succ]
        refine wpAnyH_take (i := 21) (oi := { dst := some 96, op := Op.pick (Operand.tmp 91) (Operand.tmp 95) (Operand.const (Value.bool false)), type := 4, pos := "law.go:78", after := #[{ on := 16, ground := Ground.data }, { on := 20, ground := Ground.data }, { on := 12, ground := Ground.guard }], guard := some (12, false) }) (v := ?_) rfl (by kernel_rfl) (by kernel_rfl) (by kernel_rfl) (fun _ _ _ h => h) (Or.inl ⟨by rfl, ?_⟩) (by assumption) ?_
        rotate_left
        · intro w hSw
          try dsimp only at hSw
          go_simp
          any_goals with_reducible rfl
        try simp only [Act.put, List.setIfInBounds_toArray, List.set_cons_zero, List.set_cons_succ]
        refine wpAnyH_take (i := 22) (oi := { dst := some 97, op := Op.pick (Operand.tmp 87) (Operand.const (Value.bool true)) (Operand.tmp 96), type := 4, pos := "law.go:78", after := #[{ on := 12, ground := Ground.data }, { on := 21, ground := Ground.data }], guard := none }) (v := ?_) rfl (by kernel_rfl) (by kernel_rfl) (by kernel_rfl) (fun _ _ _ h => h) (Or.inl ⟨by rfl, ?_⟩) (by assumption) ?_
        rotate_left
        · intro w hSw
          try dsimp only at hSw
          go_simp
          any_goals with_reducible rfl
        try simp only [Act.put, List.setIfInBounds_toArray, List.set_cons_zero, List.set_cons_succ]
        refine wpAnyH_done (by kernel_rfl) ?_ _
        refine NoPanic.normal ?_
        go_wp2_with fail
        go_roundw
        case rel => exact ⟨1, .inr (.inl rfl), rfl, ⟨KP.tail.tail, bx, by', zx, zy⟩⟩
        case measure => simp [intOf]
    · obtain ⟨_, a0, a1, _, _⟩ := hk.kk.tail.head
      obtain ⟨_, b0, b1, _, _⟩ := hk.kk.head
      go_wp2_with fail
      refine (FL.out _).mono ?_
      rintro o w1 ⟨rfl, k⟩
      replace hk := hk.below k
      clear k a0 a1 b0 b1
      obtain ⟨_, a0, a1, _, _⟩ := (hk.below (below_thru (below_box _ (.cells #[.int .i64 (hiW Qf), .int .u64 (loW Qf)] 24)) (below_box _ (.cells #[.int .i64 (hiW Rf), .int .u64 (loW Rf)] 24)))).kk.tail.head
      obtain ⟨_, b0, b1, _, _⟩ := (hk.below (below_thru (below_box _ (.cells #[.int .i64 (hiW Qf), .int .u64 (loW Qf)] 24)) (below_box _ (.cells #[.int .i64 (hiW Rf), .int .u64 (loW Rf)] 24)))).kk.head
      go_wp2_with fail
      have BB := below_thru (below_box w1 (.cells #[.int .i64 (hiW Qf), .int .u64 (loW Qf)] 24)) (below_box _ (.cells #[.int .i64 (hiW Rf), .int .u64 (loW Rf)] 24))
      have PQ := (Pair.new w1 (.int .i64 (hiW Qf)) (.int .u64 (loW Qf)) 24).below (below_box _ (.cells #[.int .i64 (hiW Rf), .int .u64 (loW Rf)] 24))
      have PR := Pair.new (w1.alloc (.cells #[.int .i64 (hiW Qf), .int .u64 (loW Qf)] 24)) (.int .i64 (hiW Rf)) (.int .u64 (loW Rf)) 24
      rw [World.size_alloc] at PR
      have hg := hk.kk.hb.size
      generalize (w1.alloc (.cells #[.int .i64 (hiW Qf), .int .u64 (loW Qf)] 24)).alloc (.cells #[.int .i64 (hiW Rf), .int .u64 (loW Rf)] 24) = w2 at *
      refine (TR.out _).mono ?_
      rintro o w3 ⟨rfl, k⟩
      replace BB := below_thru BB k
      replace PQ := PQ.below k
      replace PR := PR.below k
      clear k a0 a1 b0 b1
      obtain ⟨_, u0, u1, u2, u3⟩ := id PQ
      obtain ⟨_, v0, v1, v2, v3⟩ := id PR
      have i8 : w1.heap.size ≠ w1.heap.size + 1 := by omega
      have i9 : w1.heap.size + 1 ≠ w1.heap.size := by omega
      replace BB := (((BB.setCell (p := ⟨w1.heap.size, 0, none⟩) (Nat.le_refl _) (.int .i64 (hiW Qt))).setCell (p := ⟨w1.heap.size, 1, none⟩) (Nat.le_refl _) (.int .u64 (loW Qt))).setCell (p := ⟨w1.heap.size + 1, 0, none⟩) (by show _ ≤ w1.heap.size + 1; omega) (.int .i64 (hiW Rt))).setCell (p := ⟨w1.heap.size + 1, 1, none⟩) (by show _ ≤ w1.heap.size + 1; omega) (.int .u64 (loW Rt))
      replace PQ := (PQ.self2 (.int .i64 (hiW Qt)) (.int .u64 (loW Qt))).far2 i9 (.int .i64 (hiW Rt)) (.int .u64 (loW Rt))
      replace PR := (PR.far2 i8 (.int .i64 (hiW Qt)) (.int .u64 (loW Qt))).self2 (.int .i64 (hiW Rt)) (.int .u64 (loW Rt))
      replace hk := hk.below BB
      go_wp2_with fail
      clear u0 u1 u2 u3 v0 v1 v2 v3 i8 i9 BB
      have w4e : ∃ w4, w4 = (((w3.setCell ⟨w1.heap.size, 0, none⟩ (.int .i64 (hiW Qt))).setCell ⟨w1.heap.size, 1, none⟩ (.int .u64 (loW Qt))).setCell ⟨w1.heap.size + 1, 0, none⟩ (.int .i64 (hiW Rt))).setCell ⟨w1.heap.size + 1, 1, none⟩ (.int .u64 (loW Rt)) := ⟨_, rfl⟩
      obtain ⟨w4, w4e⟩ := w4e
      rw [← w4e] at hk PQ PR ⊢
      clear w4e
      generalize w1.heap.size = g at *
      have KP := (hk.kk.cons PQ).cons PR
      clear PQ PR
      refine (ORt.out _).mono ?_
      rintro o w5 ⟨ps, As, ns, cs, rfl, zs, k⟩
      have ls := zs.small sRt.out
      obtain ⟨_, bx, by', zx, zy⟩ := hk.below k
      replace KP := KP.below k
      clear k hk
      go_wp2_with fail
      have kb := below_box w5 (.cells #[.bool ps, .slice As ns cs] 42)
      have bs := Box.new w5 ps (.slice As ns cs) 42
      replace KP := KP.below kb
      replace bx := bx.below' kb
      replace by' := by'.below' kb
      replace zx := zx.below kb
      replace zy := zy.below kb
      replace zs := zs.below kb
      clear kb
      generalize w5.alloc (.cells #[.bool ps, .slice As ns cs] 42) = w6 at *
      generalize w5.heap.size = gs at *
      have lx := zx.small sa.out
      have ly := zy.small sb.out
      have SQ := Lib.hid (show (Qt * b).natAbs < 65536 ^ 18 by
        rw [Int.natAbs_mul, show (65536 : Nat) ^ 18 = 65536 ^ 9 * 65536 ^ 9 from by decide]
        exact Nat.mul_lt_mul'' sQt.out sb.out)
      have hws : w.heap.size ≤ w6.heap.size := KP.hb.size
      have lt0 : g + 1 < w6.heap.size := (KP.head).lt
      have lt1 : g < w6.heap.size := (KP.tail.head).lt
      have lt2 : w.heap.size + 1 < w6.heap.size := (KP.tail.tail.head).lt
      have lt3 : w.heap.size < w6.heap.size := (KP.tail.tail.tail.head).lt
      have lt4 : gx < w6.heap.size := bx.lt
      have lt5 : gy < w6.heap.size := by'.lt
      have lt6 : gs < w6.heap.size := bs.lt
      obtain ⟨lo, hlo⟩ : ∃ lo, lo + 1 = w6.heap.size := ⟨w6.heap.size - 1, by omega⟩
      have la0 : g + 1 ≤ lo := by omega
      have la1 : g ≤ lo := by omega
      have la2 : w.heap.size + 1 ≤ lo := by omega
      have la3 : w.heap.size ≤ lo := by omega
      have la4 : gx ≤ lo := by omega
      have la5 : gy ≤ lo := by omega
      have la6 : gs ≤ lo := by omega
      have st : PreD lo (fun W => PairsK w [(g + 1, .int .i64 (hiW Rt), .int .u64 (loW Rt)), (g, .int .i64 (hiW Qt), .int .u64 (loW Qt)), (w.heap.size + 1, .int .i64 (hiW b), .int .u64 (loW b)), (w.heap.size, .int .i64 (hiW a), .int .u64 (loW a))] W ∧ (Box W gx px (.slice Ax nx cx) ∧ (Box W gy py (.slice Ay ny cy) ∧ (Box W gs ps (.slice As ns cs) ∧ (Zs W px Ax nx cx a ∧ (Zs W py Ay ny cy b ∧ Zs W ps As ns cs Rt)))))) w6 [] := ⟨keptP_and (PairsK.keptZ w _ lo (by simp <;> omega) (by omega)) (keptP_and (keptP_box (by omega)) (keptP_and (keptP_box (by omega)) (keptP_and (keptP_box (by omega)) (keptP_and keptP_zs (keptP_and keptP_zs keptP_zs))))), ⟨KP, bx, by', bs, zx, zy, zs⟩, by omega, (fun b h => by cases h), (fun b h => by cases h), List.nodup_nil⟩
      clear hlo lt0 lt1 lt2 lt3 lt4 lt5 lt6
      go_cut [12] (fun v wx => OneCut lo (fun W => PairsK w [(g + 1, .int .i64 (hiW Rt), .int .u64 (loW Rt)), (g, .int .i64 (hiW Qt), .int .u64 (loW Qt)), (w.heap.size + 1, .int .i64 (hiW b), .int .u64 (loW b)), (w.heap.size, .int .i64 (hiW a), .int .u64 (loW a))] W ∧ (Box W gx px (.slice Ax nx cx) ∧ (Box W gy py (.slice Ay ny cy) ∧ (Box W gs ps (.slice As ns cs) ∧ (Zs W px Ax nx cx a ∧ (Zs W py Ay ny cy b ∧ Zs W ps As ns cs Rt)))))) (Qt * b + Rt) v wx)
      case first =>
        obtain ⟨_, ja0, jb0, _, _⟩ := st.k.1.tail.head
        obtain ⟨_, ja1, jb1, _, _⟩ := st.k.2.2.1
        obtain ⟨_, ja2, jb2, _, _⟩ := st.k.2.2.2.1
        have ⟨gp0, gq0⟩ := behindG st.lt la0
        have ⟨gp1, gq1⟩ := behindG st.lt la1
        have ⟨gp2, gq2⟩ := behindG st.lt la2
        have ⟨gp3, gq3⟩ := behindG st.lt la3
        have ⟨gp4, gq4⟩ := behindG st.lt la4
        have ⟨gp5, gq5⟩ := behindG st.lt la5
        have ⟨gp6, gq6⟩ := behindG st.lt la6
        go_region_held3 (fun w' => w'.cell? ⟨g, 0, none⟩ = some (.int .i64 (hiW Qt)) ∧ w'.cell? ⟨g, 1, none⟩ = some (.int .u64 (loW Qt)) ∧ w'.cell? ⟨gy, 0, none⟩ = some (.bool py) ∧ w'.cell? ⟨gy, 1, none⟩ = some (.slice Ay ny cy) ∧ w'.cell? ⟨gs, 0, none⟩ = some (.bool ps) ∧ w'.cell? ⟨gs, 1, none⟩ = some (.slice As ns cs)) (first | (with_reducible exact ⟨st.k.1.tail.head.c0, st.k.1.tail.head.c1, st.k.2.2.1.c0, st.k.2.2.1.c1, st.k.2.2.2.1.c0, st.k.2.2.2.1.c1⟩) | (with_reducible exact ⟨st.alloc1.k.1.tail.head.c0, st.alloc1.k.1.tail.head.c1, st.alloc1.k.2.2.1.c0, st.alloc1.k.2.2.1.c1, st.alloc1.k.2.2.2.1.c0, st.alloc1.k.2.2.2.1.c1⟩) | (with_reducible exact ⟨st.alloc2.k.1.tail.head.c0, st.alloc2.k.1.tail.head.c1, st.alloc2.k.2.2.1.c0, st.alloc2.k.2.2.1.c1, st.alloc2.k.2.2.2.1.c0, st.alloc2.k.2.2.2.1.c1⟩) | (with_reducible exact ⟨st.drew.k.1.tail.head.c0, st.drew.k.1.tail.head.c1, st.drew.k.2.2.1.c0, st.drew.k.2.2.1.c1, st.drew.k.2.2.2.1.c0, st.drew.k.2.2.2.1.c1⟩) | (with_reducible exact ⟨st.alloc1.drew.k.1.tail.head.c0, st.alloc1.drew.k.1.tail.head.c1, st.alloc1.drew.k.2.2.1.c0, st.alloc1.drew.k.2.2.1.c1, st.alloc1.drew.k.2.2.2.1.c0, st.alloc1.drew.k.2.2.2.1.c1⟩) | (with_reducible exact ⟨st.alloc2.drew.k.1.tail.head.c0, st.alloc2.drew.k.1.tail.head.c1, st.alloc2.drew.k.2.2.1.c0, st.alloc2.drew.k.2.2.1.c1, st.alloc2.drew.k.2.2.2.1.c0, st.alloc2.drew.k.2.2.2.1.c1⟩) | go_keep)
          (first
            | (go_at_call 20; (with_reducible refine (OQt.out _).mono ?_); rintro e x ⟨p1, A1, n1, c1, rfl, z1, k⟩
               have l1 := z1.small sQt.out
               with_reducible (first | replace st := st.below k | replace st := st.alloc1.below k | replace st := st.alloc2.below k | replace st := st.drew.below k | replace st := st.alloc1.drew.below k | replace st := st.alloc2.drew.below k)
               clear k
               obtain ⟨_, ka0, kb0, _, _⟩ := st.k.1.tail.head
               obtain ⟨_, ka1, kb1, _, _⟩ := st.k.2.2.1
               obtain ⟨_, ka2, kb2, _, _⟩ := st.k.2.2.2.1
               obtain ⟨gp0, gq0⟩ := behindG st.lt la0
               try obtain ⟨gr0, gs0⟩ := behindG (st.ge _ (List.mem_cons_self ..)) la0
               obtain ⟨gp1, gq1⟩ := behindG st.lt la1
               try obtain ⟨gr1, gs1⟩ := behindG (st.ge _ (List.mem_cons_self ..)) la1
               obtain ⟨gp2, gq2⟩ := behindG st.lt la2
               try obtain ⟨gr2, gs2⟩ := behindG (st.ge _ (List.mem_cons_self ..)) la2
               obtain ⟨gp3, gq3⟩ := behindG st.lt la3
               try obtain ⟨gr3, gs3⟩ := behindG (st.ge _ (List.mem_cons_self ..)) la3
               obtain ⟨gp4, gq4⟩ := behindG st.lt la4
               try obtain ⟨gr4, gs4⟩ := behindG (st.ge _ (List.mem_cons_self ..)) la4
               obtain ⟨gp5, gq5⟩ := behindG st.lt la5
               try obtain ⟨gr5, gs5⟩ := behindG (st.ge _ (List.mem_cons_self ..)) la5
               obtain ⟨gp6, gq6⟩ := behindG st.lt la6
               try obtain ⟨gr6, gs6⟩ := behindG (st.ge _ (List.mem_cons_self ..)) la6
               try obtain ⟨_, y0, y1, y2, y3⟩ := st.al _ (List.mem_cons_self ..))
            | (go_at_call 25; (with_reducible refine (mul_any p1 py A1 Ay n1 ny c1 cy Qt b _ (by with_reducible first | exact z1 | exact (z1.below (below_box _ _)) | exact z1.drew | exact (z1.below (below_box _ _)).drew | exact ((z1.below (below_box _ _)).below (below_box _ _)) | exact ((z1.below (below_box _ _)).below (below_box _ _)).drew) (by with_reducible first | exact st.k.2.2.2.2.2.1 | exact st.alloc1.k.2.2.2.2.2.1 | exact st.alloc2.k.2.2.2.2.2.1 | exact st.drew.k.2.2.2.2.2.1 | exact st.alloc1.drew.k.2.2.2.2.2.1 | exact st.alloc2.drew.k.2.2.2.2.2.1) (by omega) (by omega)).mono ?_); rintro e x ⟨p2, A2, n2, c2, rfl, z2, k⟩
               have l2 := z2.small SQ.out
               with_reducible (first | replace st := st.below k | replace st := st.alloc1.below k | replace st := st.alloc2.below k | replace st := st.drew.below k | replace st := st.alloc1.drew.below k | replace st := st.alloc2.drew.below k)
               clear k
               obtain ⟨_, ka0, kb0, _, _⟩ := st.k.1.tail.head
               obtain ⟨_, ka1, kb1, _, _⟩ := st.k.2.2.1
               obtain ⟨_, ka2, kb2, _, _⟩ := st.k.2.2.2.1
               obtain ⟨gp0, gq0⟩ := behindG st.lt la0
               try obtain ⟨gr0, gs0⟩ := behindG (st.ge _ (List.mem_cons_self ..)) la0
               obtain ⟨gp1, gq1⟩ := behindG st.lt la1
               try obtain ⟨gr1, gs1⟩ := behindG (st.ge _ (List.mem_cons_self ..)) la1
               obtain ⟨gp2, gq2⟩ := behindG st.lt la2
               try obtain ⟨gr2, gs2⟩ := behindG (st.ge _ (List.mem_cons_self ..)) la2
               obtain ⟨gp3, gq3⟩ := behindG st.lt la3
               try obtain ⟨gr3, gs3⟩ := behindG (st.ge _ (List.mem_cons_self ..)) la3
               obtain ⟨gp4, gq4⟩ := behindG st.lt la4
               try obtain ⟨gr4, gs4⟩ := behindG (st.ge _ (List.mem_cons_self ..)) la4
               obtain ⟨gp5, gq5⟩ := behindG st.lt la5
               try obtain ⟨gr5, gs5⟩ := behindG (st.ge _ (List.mem_cons_self ..)) la5
               obtain ⟨gp6, gq6⟩ := behindG st.lt la6
               try obtain ⟨gr6, gs6⟩ := behindG (st.ge _ (List.mem_cons_self ..)) la6
               try obtain ⟨_, y0, y1, y2, y3⟩ := st.al _ (List.mem_cons_self ..))
            | (go_at_call 24; (with_reducible refine (add_any p2 ps A2 As n2 ns c2 cs (Qt * b) Rt _ (by with_reducible first | exact z2 | exact (z2.below (below_box _ _)) | exact z2.drew | exact (z2.below (below_box _ _)).drew | exact ((z2.below (below_box _ _)).below (below_box _ _)) | exact ((z2.below (below_box _ _)).below (below_box _ _)).drew) (by with_reducible first | exact st.k.2.2.2.2.2.2 | exact st.alloc1.k.2.2.2.2.2.2 | exact st.alloc2.k.2.2.2.2.2.2 | exact st.drew.k.2.2.2.2.2.2 | exact st.alloc1.drew.k.2.2.2.2.2.2 | exact st.alloc2.drew.k.2.2.2.2.2.2) (by omega) (by omega)).mono ?_); rintro e x ⟨p3, A3, n3, c3, rfl, z3, k⟩
               with_reducible (first | replace st := st.below k | replace st := st.alloc1.below k | replace st := st.alloc2.below k | replace st := st.drew.below k | replace st := st.alloc1.drew.below k | replace st := st.alloc2.drew.below k)
               clear k
               obtain ⟨_, ka0, kb0, _, _⟩ := st.k.1.tail.head
               obtain ⟨_, ka1, kb1, _, _⟩ := st.k.2.2.1
               obtain ⟨_, ka2, kb2, _, _⟩ := st.k.2.2.2.1
               obtain ⟨gp0, gq0⟩ := behindG st.lt la0
               try obtain ⟨gr0, gs0⟩ := behindG (st.ge _ (List.mem_cons_self ..)) la0
               obtain ⟨gp1, gq1⟩ := behindG st.lt la1
               try obtain ⟨gr1, gs1⟩ := behindG (st.ge _ (List.mem_cons_self ..)) la1
               obtain ⟨gp2, gq2⟩ := behindG st.lt la2
               try obtain ⟨gr2, gs2⟩ := behindG (st.ge _ (List.mem_cons_self ..)) la2
               obtain ⟨gp3, gq3⟩ := behindG st.lt la3
               try obtain ⟨gr3, gs3⟩ := behindG (st.ge _ (List.mem_cons_self ..)) la3
               obtain ⟨gp4, gq4⟩ := behindG st.lt la4
               try obtain ⟨gr4, gs4⟩ := behindG (st.ge _ (List.mem_cons_self ..)) la4
               obtain ⟨gp5, gq5⟩ := behindG st.lt la5
               try obtain ⟨gr5, gs5⟩ := behindG (st.ge _ (List.mem_cons_self ..)) la5
               obtain ⟨gp6, gq6⟩ := behindG st.lt la6
               try obtain ⟨gr6, gs6⟩ := behindG (st.ge _ (List.mem_cons_self ..)) la6
               try obtain ⟨_, y0, y1, y2, y3⟩ := st.al _ (List.mem_cons_self ..)))
        all_goals
          go_wp2_with fail
          go_meet
          refine ⟨_, p3, A3, n3, c3, rfl, ?_⟩
          with_reducible first | exact st.one1 z3 | exact st.one2 z3
      case rest =>
      clear st
      obtain ⟨gw, pw, Aw, nw, cw, rfl, s0⟩ := hcut
      clear KP bx by' bs zx zy zs hws
      obtain ⟨KP, bx, by', bs, zx, zy, zs⟩ := s0.k
      have bw := s0.bx
      have zw := s0.zx
      rw [et.out] at zw
      have lw := zw.small sa.out
      clear s0 la0 la1 la2 la3 la4 la5 la6 lo SQ
      obtain ⟨_, b0, b1, _, _⟩ := KP.tail.tail.head
      go_wp2_with fail
      refine (SB.out _).mono ?_
      rintro o w7 ⟨rfl, k⟩
      replace KP := KP.below k
      replace bx := bx.below' k
      replace by' := by'.below' k
      replace bs := bs.below' k
      replace bw := bw.below' k
      replace zx := zx.below k
      replace zy := zy.below k
      replace zs := zs.below k
      replace zw := zw.below k
      clear k b0 b1
      obtain ⟨_, a0, a1, _, _⟩ := KP.tail.tail.tail.head
      go_wp2_with fail
      refine (SA.out _).mono ?_
      rintro o w8 ⟨rfl, k⟩
      replace KP := KP.below k
      replace bx := bx.below' k
      replace by' := by'.below' k
      replace bs := bs.below' k
      replace bw := bw.below' k
      replace zx := zx.below k
      replace zy := zy.below k
      replace zs := zs.below k
      replace zw := zw.below k
      clear k a0 a1
      go_wp2_with fail
      have CW := Lib.hid (show ∀ W, Zs W pw Aw nw cw a → Zs W px Ax nx cx a → Calls Try.prog 26 #[.agg #[.bool pw, .slice Aw nw cw], .agg #[.bool px, .slice Ax nx cx]] W (RetV W (.int .i64 0)) from fun W h1 h2 => by have := cmp_any pw px Aw Ax nw nx cw cx _ _ W h1 h2 (by omega) (by omega); rwa [cmpZ_eq rfl] at this)
      have CL := Lib.hid (show ∀ p q A B n m c d W, Zs W p A n c (Rt.natAbs : Int) → Zs W q B m d (b.natAbs : Int) → n ≤ 900000 → m ≤ 900000 → Calls Try.prog 26 #[.agg #[.bool p, .slice A n c], .agg #[.bool q, .slice B m d]] W (RetV W (.int .i64 (-1))) from fun p q A B n m c d W h1 h2 h3 h4 => by have := cmp_any p q A B n m c d _ _ W h1 h2 h3 h4; rwa [cmpZ_lt (by have := lt.out; omega)] at this)
      have SR9 := Lib.hid (show ((Rt.natAbs : Int)).natAbs < 65536 ^ 9 by rw [Int.natAbs_natCast]; exact sRt.out)
      have SB9 := Lib.hid (show ((b.natAbs : Int)).natAbs < 65536 ^ 9 by rw [Int.natAbs_natCast]; exact sb.out)
      have k : Below w8.heap.size w8 w8.drew := (Below.refl _ _).drew
      replace KP := KP.below k
      replace bx := bx.below' k
      replace by' := by'.below' k
      replace bs := bs.below' k
      replace bw := bw.below' k
      replace zx := zx.below k
      replace zy := zy.below k
      replace zs := zs.below k
      replace zw := zw.below k
      clear k
      rcases ht with h0 | ⟨h0, h1⟩
      · subst h0
        refine wp_region_noPanic ?_
        refine wp_region_held_drew (S := (fun w' => w'.cell? ⟨gw, 0, none⟩ = some (.bool pw) ∧ w'.cell? ⟨gw, 1, none⟩ = some (.slice Aw nw cw) ∧ w'.cell? ⟨gx, 0, none⟩ = some (.bool px) ∧ w'.cell? ⟨gx, 1, none⟩ = some (.slice Ax nx cx) ∧ w'.cell? ⟨gs, 0, none⟩ = some (.bool ps) ∧ w'.cell? ⟨gs, 1, none⟩ = some (.slice As ns cs) ∧ w'.cell? ⟨gy, 0, none⟩ = some (.bool py) ∧ w'.cell? ⟨gy, 1, none⟩ = some (.slice Ay ny cy) ∧ w'.cell? ⟨g + 1, 0, none⟩ = some (.int .i64 (hiW Rt)) ∧ w'.cell? ⟨g + 1, 1, none⟩ = some (.int .u64 (loW Rt)))) (by kernel_rfl) ⟨bw.c0, bw.c1, bx.c0, bx.c1, bs.c0, bs.c1, by'.c0, by'.c1, KP.head.c0, KP.head.c1⟩ (fun hHeld => ?_)
        refine wpAnyH_take (i := 0) (oi := { dst := some 75, op := Op.load 42 (Operand.tmp 12), type := 42, pos := "law.go:78", after := #[], guard := none }) (v := ?_) rfl (by kernel_rfl) (by kernel_rfl) (by kernel_rfl) (fun _ _ _ h => h) (Or.inl ⟨by rfl, ?_⟩) (by assumption) ?_
        rotate_left
        · intro w hSw
          try dsimp only at hSw
          go_simp
          any_goals with_reducible rfl
        try simp only [Act.put, List.setIfInBounds_toArray, List.set_cons_zero, List.set_cons_succ]
        refine wpAnyH_take (i := 1) (oi := { dst := some 76, op := Op.load 42 (Operand.tmp 5), type := 42, pos := "law.go:78", after := #[], guard := none }) (v := ?_) rfl (by kernel_rfl) (by kernel_rfl) (by kernel_rfl) (fun _ _ _ h => h) (Or.inl ⟨by rfl, ?_⟩) (by assumption) ?_
        rotate_left
        · intro w hSw
          try dsimp only at hSw
          go_simp
          any_goals with_reducible rfl
        try simp only [Act.put, List.setIfInBounds_toArray, List.set_cons_zero, List.set_cons_succ]
        refine wpAnyH_ready (rs := [2]) (by kernel_rfl) (by simp) ?_
        refine AllReadyH.cons (o := { dst := some 77, op := Op.call { callee := Callee.value (Operand.func 26), args := #[Operand.tmp 75, Operand.tmp 76], argTypes := #[42, 42] }, type := 3, pos := "law.go:78", after := #[{ on := 0, ground := Ground.data }, { on := 1, ground := Ground.data }], guard := none }) rfl (fun K hK => ?_) AllReadyH.nil
        go_simp
        go_at_call 26
        refine (CW.out _ zw zx).mono ?_
        rintro o wx ⟨rfl, k⟩
        replace KP := KP.below k
        replace bx := bx.below' k
        replace by' := by'.below' k
        replace bs := bs.below' k
        replace bw := bw.below' k
        replace zx := zx.below k
        replace zy := zy.below k
        replace zs := zs.below k
        replace zw := zw.below k
        clear k
        refine hK.out _ _ (⟨bw.c0, bw.c1, bx.c0, bx.c1, bs.c0, bs.c1, by'.c0, by'.c1, KP.head.c0, KP.head.c1⟩) (fun hHeld => ?_)
        clear hK K
        try simp only [Act.put, List.setIfInBounds_toArray, List.set_cons_zero, List.set_cons_succ]
        refine wpAnyH_take (i := 3) (oi := { dst := some 78, op := Op.binOp BinOp.neq 3 (Operand.tmp 77) (Operand.const (Value.int IntKind.i64 0)) 3, type := 4, pos := "law.go:78", after := #[{ on := 2, ground := Ground.data }], guard := none }) (v := ?_) rfl (by kernel_rfl) (by kernel_rfl) (by kernel_rfl) (fun _ _ _ h => h) (Or.inl ⟨by rfl, ?_⟩) (by assumption) ?_
        rotate_left
        · intro w hSw
          try dsimp only at hSw
          go_simp
          any_goals with_reducible rfl
        try simp only [Act.put, List.setIfInBounds_toArray, List.set_cons_zero, List.set_cons_succ]
        refine wpAnyH_take (i := 4) (oi := { dst := some 79, op := Op.move (Operand.tmp 78), type := 4, pos := "law.go:78", after := #[{ on := 3, ground := Ground.data }, { on := 2, ground := Ground.chain }], guard := none }) (v := ?_) rfl (by kernel_rfl) (by kernel_rfl) (by kernel_rfl) (fun _ _ _ h => h) (Or.inl ⟨by rfl, ?_⟩) (by assumption) ?_
        rotate_left
        · intro w hSw
          try dsimp only at hSw
          go_simp
          any_goals with_reducible rfl
        try simp only [Act.put, List.setIfInBounds_toArray, List.set_cons_zero, List.set_cons_succ]
        refine wpAnyH_take (i := 5) (oi := { dst := some 80, op := Op.load 42 (Operand.tmp 11), type := 42, pos := "law.go:78", after := #[{ on := 4, ground := Ground.guard }], guard := some (4, false) }) (v := ?_) rfl (by kernel_rfl) (by kernel_rfl) (by kernel_rfl) (fun _ _ _ h => h) (Or.inl ⟨by rfl, ?_⟩) (by assumption) ?_
        rotate_left
        · intro w hSw
          try dsimp only at hSw
          go_simp
          any_goals with_reducible rfl
        try simp only [Act.put, List.setIfInBounds_toArray, List.set_cons_zero, List.set_cons_succ]
        refine wpAnyH_take (i := 7) (oi := { dst := some 82, op := Op.load 42 (Operand.tmp 6), type := 42, pos := "law.go:78", after := #[{ on := 4, ground := Ground.guard }], guard := some (4, false) }) (v := ?_) rfl (by kernel_rfl) (by kernel_rfl) (by kernel_rfl) (fun _ _ _ h => h) (Or.inl ⟨by rfl, ?_⟩) (by assumption) ?_
        rotate_left
        · intro w hSw
          try dsimp only at hSw
          go_simp
          any_goals with_reducible rfl
        try simp only [Act.put, List.setIfInBounds_toArray, List.set_cons_zero, List.set_cons_succ]
        refine wpAnyH_ready (rs := [6]) (by kernel_rfl) (by simp) ?_
        refine AllReadyH.cons (o := { dst := some 81, op := Op.call { callee := Callee.value (Operand.func 27), args := #[Operand.tmp 80], argTypes := #[42] }, type := 42, pos := "law.go:78", after := #[{ on := 5, ground := Ground.data }, { on := 4, ground := Ground.chain }, { on := 4, ground := Ground.guard }], guard := some (4, false) }) rfl (fun K hK => ?_) AllReadyH.nil
        go_simp
        go_at_call 27
        refine (abs_any ps As ns cs Rt _ zs (by omega)).mono ?_
        rintro o wx ⟨p7, A7, n7, c7, rfl, z7, k⟩
        have l7 := z7.small SR9.out
        replace KP := KP.below k
        replace bx := bx.below' k
        replace by' := by'.below' k
        replace bs := bs.below' k
        replace bw := bw.below' k
        replace zx := zx.below k
        replace zy := zy.below k
        replace zs := zs.below k
        replace zw := zw.below k
        clear k
        refine hK.out _ _ (⟨bw.c0, bw.c1, bx.c0, bx.c1, bs.c0, bs.c1, by'.c0, by'.c1, KP.head.c0, KP.head.c1⟩) (fun hHeld => ?_)
        clear hK K
        try simp only [Act.put, List.setIfInBounds_toArray, List.set_cons_zero, List.set_cons_succ]
        refine wpAnyH_ready (rs := [8]) (by kernel_rfl) (by simp) ?_
        refine AllReadyH.cons (o := { dst := some 83, op := Op.call { callee := Callee.value (Operand.func 27), args := #[Operand.tmp 82], argTypes := #[42] }, type := 42, pos := "law.go:78", after := #[{ on := 7, ground := Ground.data }, { on := 6, ground := Ground.chain }, { on := 4, ground := Ground.guard }], guard := some (4, false) }) rfl (fun K hK => ?_) AllReadyH.nil
        go_simp
        go_at_call 27
        refine (abs_any py Ay ny cy b _ zy (by omega)).mono ?_
        rintro o wx ⟨p8, A8, n8, c8, rfl, z8, k⟩
        have l8 := z8.small SB9.out
        replace z7 := z7.below k
        replace KP := KP.below k
        replace bx := bx.below' k
        replace by' := by'.below' k
        replace bs := bs.below' k
        replace bw := bw.below' k
        replace zx := zx.below k
        replace zy := zy.below k
        replace zs := zs.below k
        replace zw := zw.below k
        clear k
        refine hK.out _ _ (⟨bw.c0, bw.c1, bx.c0, bx.c1, bs.c0, bs.c1, by'.c0, by'.c1, KP.head.c0, KP.head.c1⟩) (fun hHeld => ?_)
        clear hK K
        try simp only [Act.put, List.setIfInBounds_toArray, List.set_cons_zero, List.set_cons_succ]
        refine wpAnyH_ready (rs := [9]) (by kernel_rfl) (by simp) ?_
        refine AllReadyH.cons (o := { dst := some 84, op := Op.call { callee := Callee.value (Operand.func 26), args := #[Operand.tmp 81, Operand.tmp 83], argTypes := #[42, 42] }, type := 3, pos := "law.go:78", after := #[{ on := 6, ground := Ground.data }, { on := 8, ground := Ground.data }, { on := 8, ground := Ground.chain }, { on := 4, ground := Ground.guard }], guard := some (4, false) }) rfl (fun K hK => ?_) AllReadyH.nil
        go_simp
        go_at_call 26
        refine (CL.out p7 p8 A7 A8 n7 n8 c7 c8 _ z7 z8 (by omega) (by omega)).mono ?_
        rintro o wx ⟨rfl, k⟩
        replace KP := KP.below k
        replace bx := bx.below' k
        replace by' := by'.below' k
        replace bs := bs.below' k
        replace bw := bw.below' k
        replace zx := zx.below k
        replace zy := zy.below k
        replace zs := zs.below k
        replace zw := zw.below k
        clear k
        refine hK.out _ _ (⟨bw.c0, bw.c1, bx.c0, bx.c1, bs.c0, bs.c1, by'.c0, by'.c1, KP.head.c0, KP.head.c1⟩) (fun hHeld => ?_)
        clear hK K
        try simp only [Act.put, List.setIfInBounds_toArray, List.set_cons_zero, List.set_cons_succ]
        refine wpAnyH_take (i := 10) (oi := { dst := some 85, op := Op.binOp BinOp.geq 3 (Operand.tmp 84) (Operand.const (Value.int IntKind.i64 0)) 3, type := 4, pos := "law.go:78", after := #[{ on := 9, ground := Ground.data }, { on := 4, ground := Ground.guard }], guard := some (4, false) }) (v := ?_) rfl (by kernel_rfl) (by kernel_rfl) (by kernel_rfl) (fun _ _ _ h => h) (Or.inl ⟨by rfl, ?_⟩) (by assumption) ?_
        rotate_left
        · intro w hSw
          try dsimp only at hSw
          go_simp
          any_goals with_reducible rfl
        try simp only [Act.put, List.setIfInBounds_toArray, List.set_cons_zero, List.set_cons_succ]
        refine wpAnyH_take (i := 11) (oi := { dst := some 86, op := Op.pick (Operand.tmp 79) (Operand.const (Value.bool true)) (Operand.tmp 85), type := 4, pos := "law.go:78", after := #[{ on := 4, ground := Ground.data }, { on := 10, ground := Ground.data }], guard := none }) (v := ?_) rfl (by kernel_rfl) (by kernel_rfl) (by kernel_rfl) (fun _ _ _ h => h) (Or.inl ⟨by rfl, ?_⟩) (by assumption) ?_
        rotate_left
        · intro w hSw
          try dsimp only at hSw
          go_simp
          any_goals with_reducible rfl
        try simp only [Act.put, List.setIfInBounds_toArray, List.set_cons_zero, List.set_cons_succ]
        refine wpAnyH_take (i := 12) (oi := { dst := some 87, op := Op.move (Operand.tmp 86), type := 4, pos := "law.go:78", after := #[{ on := 11, ground := Ground.data }, { on := 9, ground := Ground.chain }], guard := none }) (v := ?_) rfl (by kernel_rfl) (by kernel_rfl) (by kernel_rfl) (fun _ _ _ h => h) (Or.inl ⟨by rfl, ?_⟩) (by assumption) ?_
        rotate_left
        · intro w hSw
          try dsimp only at hSw
          go_simp
          any_goals with_reducible rfl
        try simp only [Act.put, List.setIfInBounds_toArray, List.set_cons_zero, List.set_cons_succ]
        refine wpAnyH_take (i := 13) (oi := { dst := some 88, op := Op.load 24 (Operand.tmp 9), type := 24, pos := "law.go:78", after := #[{ on := 12, ground := Ground.guard }], guard := some (12, false) }) (v := ?_) rfl (by kernel_rfl) (by kernel_rfl) (by kernel_rfl) (fun _ _ _ h => h) (Or.inl ⟨by rfl, ?_⟩) (by assumption) ?_
        rotate_left
        · intro w hSw
          try dsimp only at hSw
          go_simp
          any_goals with_reducible rfl
        try simp only [Act.put, List.setIfInBounds_toArray, List.set_cons_zero, List.set_cons_succ]
        refine wpAnyH_ready (rs := [14]) (by kernel_rfl) (by simp) ?_
        refine AllReadyH.cons (o := { dst := some 89, op := Op.call { callee := Callee.value (Operand.func 23), args := #[Operand.tmp 88], argTypes := #[24] }, type := 3, pos := "law.go:78", after := #[{ on := 13, ground := Ground.data }, { on := 12, ground := Ground.chain }, { on := 12, ground := Ground.guard }], guard := some (12, false) }) rfl (fun K hK => ?_) AllReadyH.nil
        go_simp
        go_at_call 23
        refine (SRt.out _).mono ?_
        rintro o wx ⟨rfl, k⟩
        replace KP := KP.below k
        replace bx := bx.below' k
        replace by' := by'.below' k
        replace bs := bs.below' k
        replace bw := bw.below' k
        replace zx := zx.below k
        replace zy := zy.below k
        replace zs := zs.below k
        replace zw := zw.below k
        clear k
        refine hK.out _ _ (⟨bw.c0, bw.c1, bx.c0, bx.c1, bs.c0, bs.c1, by'.c0, by'.c1, KP.head.c0, KP.head.c1⟩) (fun hHeld => ?_)
        clear hK K
        try simp only [Act.put, List.setIfInBounds_toArray, List.set_cons_zero, List.set_cons_succ]
        refine wpAnyH_take (i := 15) (oi := { dst := some 90, op := Op.binOp BinOp.neq 3 (Operand.tmp 89) (Operand.const (Value.int IntKind.i64 0)) 3, type := 4, pos := "law.go:78", after := #[{ on := 14, ground := Ground.data }, { on := 12, ground := Ground.guard }], guard := some (12, false) }) (v := ?_) rfl (by kernel_rfl) (by kernel_rfl) (by kernel_rfl) (fun _ _ _ h => h) (Or.inl ⟨by rfl, ?_⟩) (by assumption) ?_
        rotate_left
        · intro w hSw
          try dsimp only at hSw
          go_simp
          any_goals with_reducible rfl
        try simp only [Act.put, List.setIfInBounds_toArray, List.set_cons_zero, List.set_cons_succ]
        refine wpAnyH_take (i := 16) (oi := { dst := some 91, op := Op.move (Operand.tmp 90), type := 4, pos := "law.go:78", after := #[{ on := 15, ground := Ground.data }, { on := 14, ground := Ground.chain }, { on := 12, ground := Ground.guard }], guard := some (12, false) }) (v := ?_) rfl (by kernel_rfl) (by kernel_rfl) (by kernel_rfl) (fun _ _ _ h => h) (Or.inl ⟨by rfl, ?_⟩) (by assumption) ?_
        rotate_left
        · intro w hSw
          try dsimp only at hSw
          go_simp
          any_goals with_reducible rfl
        try simp only [Act.put, List.setIfInBounds_toArray, List.set_cons_zero, List.set_cons_succ]
        refine wpAnyH_take (i := 17) (oi := { dst := some 92, op := Op.load 24 (Operand.tmp 9), type := 24, pos := "law.go:78", after := #[{ on := 16, ground := Ground.guard }], guard := some (16, true) }) (v := undef) rfl (by kernel_rfl) (by kernel_rfl) (by kernel_rfl) (fun _ _ _ h => h) (Or.inr ⟨by rfl, rfl⟩) (by assumption) ?_
        try simp only [Act.put, List.setIfInBounds_toArray, List.set_cons_zero, List.set_cons_succ]
        refine wpAnyH_take (i := 19) (oi := { dst := some 94, op := Op.move (Operand.tmp 13), type := 3, pos := "law.go:78", after := #[{ on := 16, ground := Ground.guard }], guard := some (16, true) }) (v := undef) rfl (by kernel_rfl) (by kernel_rfl) (by kernel_rfl) (fun _ _ _ h => h) (Or.inr ⟨by rfl, rfl⟩) (by assumption) ?_
        try simp only [Act.put, List.setIfInBounds_toArray, List.set_cons_zero, List.set_cons_succ]
        refine wpAnyH_take (i := 18) (oi := { dst := some 93, op := Op.call { callee := Callee.value (Operand.func 23), args := #[Operand.tmp 92], argTypes := #[24] }, type := 3, pos := "law.go:78", after := #[{ on := 17, ground := Ground.data }, { on := 16, ground := Ground.chain }, { on := 16, ground := Ground.guard }], guard := some (16, true) }) (v := undef) rfl (by kernel_rfl) (by kernel_rfl) (by kernel_rfl) (fun _ _ _ h => h) (Or.inr ⟨by rfl, rfl⟩) (by assumption) ?_
        try simp only [Act.put, List.setIfInBounds_toArray, List.set_cons_zero, List.set_cons_succ]
        refine wpAnyH_take (i := 20) (oi := { dst := some 95, op := Op.binOp BinOp.neq 3 (Operand.tmp 93) (Operand.tmp 94) 3, type := 4, pos := "law.go:78", after := #[{ on := 18, ground := Ground.data }, { on := 19, ground := Ground.data }, { on := 16, ground := Ground.guard }], guard := some (16, true) }) (v := undef) rfl (by kernel_rfl) (by kernel_rfl) (by kernel_rfl) (fun _ _ _ h => h) (Or.inr ⟨by rfl, rfl⟩) (by assumption) ?_
        try simp only [Act.put, List.setIfInBounds_toArray, List.set_cons_zero, List.set_cons_succ]
        refine wpAnyH_take (i := 21) (oi := { dst := some 96, op := Op.pick (Operand.tmp 91) (Operand.tmp 95) (Operand.const (Value.bool false)), type := 4, pos := "law.go:78", after := #[{ on := 16, ground := Ground.data }, { on := 20, ground := Ground.data }, { on := 12, ground := Ground.guard }], guard := some (12, false) }) (v := ?_) rfl (by kernel_rfl) (by kernel_rfl) (by kernel_rfl) (fun _ _ _ h => h) (Or.inl ⟨by rfl, ?_⟩) (by assumption) ?_
        rotate_left
        · intro w hSw
          try dsimp only at hSw
          go_simp
          any_goals with_reducible rfl
        try simp only [Act.put, List.setIfInBounds_toArray, List.set_cons_zero, List.set_cons_succ]
        refine wpAnyH_take (i := 22) (oi := { dst := some 97, op := Op.pick (Operand.tmp 87) (Operand.const (Value.bool true)) (Operand.tmp 96), type := 4, pos := "law.go:78", after := #[{ on := 12, ground := Ground.data }, { on := 21, ground := Ground.data }], guard := none }) (v := ?_) rfl (by kernel_rfl) (by kernel_rfl) (by kernel_rfl) (fun _ _ _ h => h) (Or.inl ⟨by rfl, ?_⟩) (by assumption) ?_
        rotate_left
        · intro w hSw
          try dsimp only at hSw
          go_simp
          any_goals with_reducible rfl
        try simp only [Act.put, List.setIfInBounds_toArray, List.set_cons_zero, List.set_cons_succ]
        refine wpAnyH_done (by kernel_rfl) ?_ _
        refine NoPanic.normal ?_
        go_wp2_with fail
        go_roundw
        case rel => exact ⟨2, .inr (.inr rfl), rfl, ⟨KP.tail.tail, bx, by', zx, zy⟩⟩
        case measure => simp [intOf]
      · subst h1
        have sn : ¬ rt = 0 := by rw [beq_eq_false_iff_ne] at h0; exact h0
        have sn1 : (rt != 0) = true := by simp [sn]
        have sn2 : (!(rt == 0)) = true := by simp [sn]
        have sn3 : decide (rt = 0) = false := by simp [sn]
        refine wp_region_noPanic ?_
        refine wp_region_held_drew (S := (fun w' => w'.cell? ⟨gw, 0, none⟩ = some (.bool pw) ∧ w'.cell? ⟨gw, 1, none⟩ = some (.slice Aw nw cw) ∧ w'.cell? ⟨gx, 0, none⟩ = some (.bool px) ∧ w'.cell? ⟨gx, 1, none⟩ = some (.slice Ax nx cx) ∧ w'.cell? ⟨gs, 0, none⟩ = some (.bool ps) ∧ w'.cell? ⟨gs, 1, none⟩ = some (.slice As ns cs) ∧ w'.cell? ⟨gy, 0, none⟩ = some (.bool py) ∧ w'.cell? ⟨gy, 1, none⟩ = some (.slice Ay ny cy) ∧ w'.cell? ⟨g + 1, 0, none⟩ = some (.int .i64 (hiW Rt)) ∧ w'.cell? ⟨g + 1, 1, none⟩ = some (.int .u64 (loW Rt)))) (by kernel_rfl) ⟨bw.c0, bw.c1, bx.c0, bx.c1, bs.c0, bs.c1, by'.c0, by'.c1, KP.head.c0, KP.head.c1⟩ (fun hHeld => ?_)
        refine wpAnyH_take (i := 0) (oi := { dst := some 75, op := Op.load 42 (Operand.tmp 12), type := 42, pos := "law.go:78", after := #[], guard := none }) (v := ?_) rfl (by kernel_rfl) (by kernel_rfl) (by kernel_rfl) (fun _ _ _ h => h) (Or.inl ⟨by rfl, ?_⟩) (by assumption) ?_
        rotate_left
        · intro w hSw
          try dsimp only at hSw
          go_simp
          any_goals with_reducible rfl
        try simp only [Act.put, List.setIfInBounds_toArray, List.set_cons_zero, List.set_cons_succ]
        refine wpAnyH_take (i := 1) (oi := { dst := some 76, op := Op.load 42 (Operand.tmp 5), type := 42, pos := "law.go:78", after := #[], guard := none }) (v := ?_) rfl (by kernel_rfl) (by kernel_rfl) (by kernel_rfl) (fun _ _ _ h => h) (Or.inl ⟨by rfl, ?_⟩) (by assumption) ?_
        rotate_left
        · intro w hSw
          try dsimp only at hSw
          go_simp
          any_goals with_reducible rfl
        try simp only [Act.put, List.setIfInBounds_toArray, List.set_cons_zero, List.set_cons_succ]
        refine wpAnyH_ready (rs := [2]) (by kernel_rfl) (by simp) ?_
        refine AllReadyH.cons (o := { dst := some 77, op := Op.call { callee := Callee.value (Operand.func 26), args := #[Operand.tmp 75, Operand.tmp 76], argTypes := #[42, 42] }, type := 3, pos := "law.go:78", after := #[{ on := 0, ground := Ground.data }, { on := 1, ground := Ground.data }], guard := none }) rfl (fun K hK => ?_) AllReadyH.nil
        go_simp
        go_at_call 26
        refine (CW.out _ zw zx).mono ?_
        rintro o wx ⟨rfl, k⟩
        replace KP := KP.below k
        replace bx := bx.below' k
        replace by' := by'.below' k
        replace bs := bs.below' k
        replace bw := bw.below' k
        replace zx := zx.below k
        replace zy := zy.below k
        replace zs := zs.below k
        replace zw := zw.below k
        clear k
        refine hK.out _ _ (⟨bw.c0, bw.c1, bx.c0, bx.c1, bs.c0, bs.c1, by'.c0, by'.c1, KP.head.c0, KP.head.c1⟩) (fun hHeld => ?_)
        clear hK K
        try simp only [Act.put, List.setIfInBounds_toArray, List.set_cons_zero, List.set_cons_succ]
        refine wpAnyH_take (i := 3) (oi := { dst := some 78, op := Op.binOp BinOp.neq 3 (Operand.tmp 77) (Operand.const (Value.int IntKind.i64 0)) 3, type := 4, pos := "law.go:78", after := #[{ on := 2, ground := Ground.data }], guard := none }) (v := ?_) rfl (by kernel_rfl) (by kernel_rfl) (by kernel_rfl) (fun _ _ _ h => h) (Or.inl ⟨by rfl, ?_⟩) (by assumption) ?_
        rotate_left
        · intro w hSw
          try dsimp only at hSw
          go_simp
          any_goals with_reducible rfl
        try simp only [Act.put, List.setIfInBounds_toArray, List.set_cons_zero, List.set_cons_succ]
        refine wpAnyH_take (i := 4) (oi := { dst := some 79, op := Op.move (Operand.tmp 78), type := 4, pos := "law.go:78", after := #[{ on := 3, ground := Ground.data }, { on := 2, ground := Ground.chain }], guard := none }) (v := ?_) rfl (by kernel_rfl) (by kernel_rfl) (by kernel_rfl) (fun _ _ _ h => h) (Or.inl ⟨by rfl, ?_⟩) (by assumption) ?_
        rotate_left
        · intro w hSw
          try dsimp only at hSw
          go_simp
          any_goals with_reducible rfl
        try simp only [Act.put, List.setIfInBounds_toArray, List.set_cons_zero, List.set_cons_succ]
        refine wpAnyH_take (i := 5) (oi := { dst := some 80, op := Op.load 42 (Operand.tmp 11), type := 42, pos := "law.go:78", after := #[{ on := 4, ground := Ground.guard }], guard := some (4, false) }) (v := ?_) rfl (by kernel_rfl) (by kernel_rfl) (by kernel_rfl) (fun _ _ _ h => h) (Or.inl ⟨by rfl, ?_⟩) (by assumption) ?_
        rotate_left
        · intro w hSw
          try dsimp only at hSw
          go_simp
          any_goals with_reducible rfl
        try simp only [Act.put, List.setIfInBounds_toArray, List.set_cons_zero, List.set_cons_succ]
        refine wpAnyH_take (i := 7) (oi := { dst := some 82, op := Op.load 42 (Operand.tmp 6), type := 42, pos := "law.go:78", after := #[{ on := 4, ground := Ground.guard }], guard := some (4, false) }) (v := ?_) rfl (by kernel_rfl) (by kernel_rfl) (by kernel_rfl) (fun _ _ _ h => h) (Or.inl ⟨by rfl, ?_⟩) (by assumption) ?_
        rotate_left
        · intro w hSw
          try dsimp only at hSw
          go_simp
          any_goals with_reducible rfl
        try simp only [Act.put, List.setIfInBounds_toArray, List.set_cons_zero, List.set_cons_succ]
        refine wpAnyH_ready (rs := [6]) (by kernel_rfl) (by simp) ?_
        refine AllReadyH.cons (o := { dst := some 81, op := Op.call { callee := Callee.value (Operand.func 27), args := #[Operand.tmp 80], argTypes := #[42] }, type := 42, pos := "law.go:78", after := #[{ on := 5, ground := Ground.data }, { on := 4, ground := Ground.chain }, { on := 4, ground := Ground.guard }], guard := some (4, false) }) rfl (fun K hK => ?_) AllReadyH.nil
        go_simp
        go_at_call 27
        refine (abs_any ps As ns cs Rt _ zs (by omega)).mono ?_
        rintro o wx ⟨p7, A7, n7, c7, rfl, z7, k⟩
        have l7 := z7.small SR9.out
        replace KP := KP.below k
        replace bx := bx.below' k
        replace by' := by'.below' k
        replace bs := bs.below' k
        replace bw := bw.below' k
        replace zx := zx.below k
        replace zy := zy.below k
        replace zs := zs.below k
        replace zw := zw.below k
        clear k
        refine hK.out _ _ (⟨bw.c0, bw.c1, bx.c0, bx.c1, bs.c0, bs.c1, by'.c0, by'.c1, KP.head.c0, KP.head.c1⟩) (fun hHeld => ?_)
        clear hK K
        try simp only [Act.put, List.setIfInBounds_toArray, List.set_cons_zero, List.set_cons_succ]
        refine wpAnyH_ready (rs := [8]) (by kernel_rfl) (by simp) ?_
        refine AllReadyH.cons (o := { dst := some 83, op := Op.call { callee := Callee.value (Operand.func 27), args := #[Operand.tmp 82], argTypes := #[42] }, type := 42, pos := "law.go:78", after := #[{ on := 7, ground := Ground.data }, { on := 6, ground := Ground.chain }, { on := 4, ground := Ground.guard }], guard := some (4, false) }) rfl (fun K hK => ?_) AllReadyH.nil
        go_simp
        go_at_call 27
        refine (abs_any py Ay ny cy b _ zy (by omega)).mono ?_
        rintro o wx ⟨p8, A8, n8, c8, rfl, z8, k⟩
        have l8 := z8.small SB9.out
        replace z7 := z7.below k
        replace KP := KP.below k
        replace bx := bx.below' k
        replace by' := by'.below' k
        replace bs := bs.below' k
        replace bw := bw.below' k
        replace zx := zx.below k
        replace zy := zy.below k
        replace zs := zs.below k
        replace zw := zw.below k
        clear k
        refine hK.out _ _ (⟨bw.c0, bw.c1, bx.c0, bx.c1, bs.c0, bs.c1, by'.c0, by'.c1, KP.head.c0, KP.head.c1⟩) (fun hHeld => ?_)
        clear hK K
        try simp only [Act.put, List.setIfInBounds_toArray, List.set_cons_zero, List.set_cons_succ]
        refine wpAnyH_ready (rs := [9]) (by kernel_rfl) (by simp) ?_
        refine AllReadyH.cons (o := { dst := some 84, op := Op.call { callee := Callee.value (Operand.func 26), args := #[Operand.tmp 81, Operand.tmp 83], argTypes := #[42, 42] }, type := 3, pos := "law.go:78", after := #[{ on := 6, ground := Ground.data }, { on := 8, ground := Ground.data }, { on := 8, ground := Ground.chain }, { on := 4, ground := Ground.guard }], guard := some (4, false) }) rfl (fun K hK => ?_) AllReadyH.nil
        go_simp
        go_at_call 26
        refine (CL.out p7 p8 A7 A8 n7 n8 c7 c8 _ z7 z8 (by omega) (by omega)).mono ?_
        rintro o wx ⟨rfl, k⟩
        replace KP := KP.below k
        replace bx := bx.below' k
        replace by' := by'.below' k
        replace bs := bs.below' k
        replace bw := bw.below' k
        replace zx := zx.below k
        replace zy := zy.below k
        replace zs := zs.below k
        replace zw := zw.below k
        clear k
        refine hK.out _ _ (⟨bw.c0, bw.c1, bx.c0, bx.c1, bs.c0, bs.c1, by'.c0, by'.c1, KP.head.c0, KP.head.c1⟩) (fun hHeld => ?_)
        clear hK K
        try simp only [Act.put, List.setIfInBounds_toArray, List.set_cons_zero, List.set_cons_succ]
        refine wpAnyH_take (i := 10) (oi := { dst := some 85, op := Op.binOp BinOp.geq 3 (Operand.tmp 84) (Operand.const (Value.int IntKind.i64 0)) 3, type := 4, pos := "law.go:78", after := #[{ on := 9, ground := Ground.data }, { on := 4, ground := Ground.guard }], guard := some (4, false) }) (v := ?_) rfl (by kernel_rfl) (by kernel_rfl) (by kernel_rfl) (fun _ _ _ h => h) (Or.inl ⟨by rfl, ?_⟩) (by assumption) ?_
        rotate_left
        · intro w hSw
          try dsimp only at hSw
          go_simp
          any_goals with_reducible rfl
        try simp only [Act.put, List.setIfInBounds_toArray, List.set_cons_zero, List.set_cons_succ]
        refine wpAnyH_take (i := 11) (oi := { dst := some 86, op := Op.pick (Operand.tmp 79) (Operand.const (Value.bool true)) (Operand.tmp 85), type := 4, pos := "law.go:78", after := #[{ on := 4, ground := Ground.data }, { on := 10, ground := Ground.data }], guard := none }) (v := ?_) rfl (by kernel_rfl) (by kernel_rfl) (by kernel_rfl) (fun _ _ _ h => h) (Or.inl ⟨by rfl, ?_⟩) (by assumption) ?_
        rotate_left
        · intro w hSw
          try dsimp only at hSw
          go_simp
          any_goals with_reducible rfl
        try simp only [Act.put, List.setIfInBounds_toArray, List.set_cons_zero, List.set_cons_succ]
        refine wpAnyH_take (i := 12) (oi := { dst := some 87, op := Op.move (Operand.tmp 86), type := 4, pos := "law.go:78", after := #[{ on := 11, ground := Ground.data }, { on := 9, ground := Ground.chain }], guard := none }) (v := ?_) rfl (by kernel_rfl) (by kernel_rfl) (by kernel_rfl) (fun _ _ _ h => h) (Or.inl ⟨by rfl, ?_⟩) (by assumption) ?_
        rotate_left
        · intro w hSw
          try dsimp only at hSw
          go_simp
          any_goals with_reducible rfl
        try simp only [Act.put, List.setIfInBounds_toArray, List.set_cons_zero, List.set_cons_succ]
        refine wpAnyH_take (i := 13) (oi := { dst := some 88, op := Op.load 24 (Operand.tmp 9), type := 24, pos := "law.go:78", after := #[{ on := 12, ground := Ground.guard }], guard := some (12, false) }) (v := ?_) rfl (by kernel_rfl) (by kernel_rfl) (by kernel_rfl) (fun _ _ _ h => h) (Or.inl ⟨by rfl, ?_⟩) (by assumption) ?_
        rotate_left
        · intro w hSw
          try dsimp only at hSw
          go_simp
          any_goals with_reducible rfl
        try simp only [Act.put, List.setIfInBounds_toArray, List.set_cons_zero, List.set_cons_succ]
        refine wpAnyH_ready (rs := [14]) (by kernel_rfl) (by simp) ?_
        refine AllReadyH.cons (o := { dst := some 89, op := Op.call { callee := Callee.value (Operand.func 23), args := #[Operand.tmp 88], argTypes := #[24] }, type := 3, pos := "law.go:78", after := #[{ on := 13, ground := Ground.data }, { on := 12, ground := Ground.chain }, { on := 12, ground := Ground.guard }], guard := some (12, false) }) rfl (fun K hK => ?_) AllReadyH.nil
        go_simp
        go_at_call 23
        refine (SRt.out _).mono ?_
        rintro o wx ⟨rfl, k⟩
        replace KP := KP.below k
        replace bx := bx.below' k
        replace by' := by'.below' k
        replace bs := bs.below' k
        replace bw := bw.below' k
        replace zx := zx.below k
        replace zy := zy.below k
        replace zs := zs.below k
        replace zw := zw.below k
        clear k
        refine hK.out _ _ (⟨bw.c0, bw.c1, bx.c0, bx.c1, bs.c0, bs.c1, by'.c0, by'.c1, KP.head.c0, KP.head.c1⟩) (fun hHeld => ?_)
        clear hK K
        try simp only [Act.put, List.setIfInBounds_toArray, List.set_cons_zero, List.set_cons_succ]
        refine wpAnyH_take (i := 15) (oi := { dst := some 90, op := Op.binOp BinOp.neq 3 (Operand.tmp 89) (Operand.const (Value.int IntKind.i64 0)) 3, type := 4, pos := "law.go:78", after := #[{ on := 14, ground := Ground.data }, { on := 12, ground := Ground.guard }], guard := some (12, false) }) (v := ?_) rfl (by kernel_rfl) (by kernel_rfl) (by kernel_rfl) (fun _ _ _ h => h) (Or.inl ⟨by rfl, ?_⟩) (by assumption) ?_
        rotate_left
        · intro w hSw
          try dsimp only at hSw
          go_simp
          any_goals with_reducible rfl
        try simp only [Act.put, List.setIfInBounds_toArray, List.set_cons_zero, List.set_cons_succ]
        refine wpAnyH_take (i := 16) (oi := { dst := some 91, op := Op.move (Operand.tmp 90), type := 4, pos := "law.go:78", after := #[{ on := 15, ground := Ground.data }, { on := 14, ground := Ground.chain }, { on := 12, ground := Ground.guard }], guard := some (12, false) }) (v := ?_) rfl (by kernel_rfl) (by kernel_rfl) (by kernel_rfl) (fun _ _ _ h => h) (Or.inl ⟨by rfl, ?_⟩) (by assumption) ?_
        rotate_left
        · intro w hSw
          try dsimp only at hSw
          go_simp
          any_goals with_reducible rfl
        try simp only [Act.put, List.setIfInBounds_toArray, List.set_cons_zero, List.set_cons_succ]
        refine wpAnyH_take (i := 17) (oi := { dst := some 92, op := Op.load 24 (Operand.tmp 9), type := 24, pos := "law.go:78", after := #[{ on := 16, ground := Ground.guard }], guard := some (16, true) }) (v := ?_) rfl (by kernel_rfl) (by kernel_rfl) (by kernel_rfl) (fun _ _ _ h => h) (Or.inl ⟨by rfl, ?_⟩) (by assumption) ?_
        rotate_left
        · intro w hSw
          try dsimp only at hSw
          go_simp
          any_goals with_reducible rfl
        try simp only [Act.put, List.setIfInBounds_toArray, List.set_cons_zero, List.set_cons_succ]
        refine wpAnyH_take (i := 19) (oi := { dst := some 94, op := Op.move (Operand.tmp 13), type := 3, pos := "law.go:78", after := #[{ on := 16, ground := Ground.guard }], guard := some (16, true) }) (v := ?_) rfl (by kernel_rfl) (by kernel_rfl) (by kernel_rfl) (fun _ _ _ h => h) (Or.inl ⟨by rfl, ?_⟩) (by assumption) ?_
        rotate_left
        · intro w hSw
          try dsimp only at hSw
          go_simp
          any_goals with_reducible rfl
        try simp only [Act.put, List.setIfInBounds_toArray, List.set_cons_zero, List.set_cons_succ]
        refine wpAnyH_ready (rs := [18]) (by kernel_rfl) (by simp) ?_
        refine AllReadyH.cons (o := { dst := some 93, op := Op.call { callee := Callee.value (Operand.func 23), args := #[Operand.tmp 92], argTypes := #[24] }, type := 3, pos := "law.go:78", after := #[{ on := 17, ground := Ground.data }, { on := 16, ground := Ground.chain }, { on := 16, ground := Ground.guard }], guard := some (16, true) }) rfl (fun K hK => ?_) AllReadyH.nil
        go_simp
        go_at_call 23
        refine (SRt.out _).mono ?_
        rintro o wx ⟨rfl, k⟩
        replace KP := KP.below k
        replace bx := bx.below' k
        replace by' := by'.below' k
        replace bs := bs.below' k
        replace bw := bw.below' k
        replace zx := zx.below k
        replace zy := zy.below k
        replace zs := zs.below k
        replace zw := zw.below k
        clear k
        refine hK.out _ _ (⟨bw.c0, bw.c1, bx.c0, bx.c1, bs.c0, bs.c1, by'.c0, by'.c1, KP.head.c0, KP.head.c1⟩) (fun hHeld => ?_)
        clear hK K
        try simp only [Act.put, List.setIfInBounds_toArray, List.set_cons_zero, List.set_cons_succ]
        refine wpAnyH_take (i := 20) (oi := { dst := some 95, op := Op.binOp BinOp.neq 3 (Operand.tmp 93) (Operand.tmp 94) 3, type := 4, pos := "law.go:78", after := #[{ on := 18, ground := Ground.data }, { on := 19, ground := Ground.data }, { on := 16, ground := Ground.guard }], guard := some (16, true) }) (v := ?_) rfl (by kernel_rfl) (by kernel_rfl) (by kernel_rfl) (fun _ _ _ h => h) (Or.inl ⟨by rfl, ?_⟩) (by assumption) ?_
        rotate_left
        · intro w hSw
          try dsimp only at hSw
          go_simp
          any_goals with_reducible rfl
        try simp only [Act.put, List.setIfInBounds_toArray, List.set_cons_zero, List.set_cons_succ]
        refine wpAnyH_take (i := 21) (oi := { dst := some 96, op := Op.pick (Operand.tmp 91) (Operand.tmp 95) (Operand.const (Value.bool false)), type := 4, pos := "law.go:78", after := #[{ on := 16, ground := Ground.data }, { on := 20, ground := Ground.data }, { on := 12, ground := Ground.guard }], guard := some (12, false) }) (v := ?_) rfl (by kernel_rfl) (by kernel_rfl) (by kernel_rfl) (fun _ _ _ h => h) (Or.inl ⟨by rfl, ?_⟩) (by assumption) ?_
        rotate_left
        · intro w hSw
          try dsimp only at hSw
          go_simp
          any_goals with_reducible rfl
        try simp only [Act.put, List.setIfInBounds_toArray, List.set_cons_zero, List.set_cons_succ]
        refine wpAnyH_take (i := 22) (oi := { dst := some 97, op := Op.pick (Operand.tmp 87) (Operand.const (Value.bool true)) (Operand.tmp 96), type := 4, pos := "law.go:78", after := #[{ on := 12, ground := Ground.data }, { on := 21, ground := Ground.data }], guard := none }) (v := ?_) rfl (by kernel_rfl) (by kernel_rfl) (by kernel_rfl) (fun _ _ _ h => h) (Or.inl ⟨by rfl, ?_⟩) (by assumption) ?_
        rotate_left
        · intro w hSw
          try dsimp only at hSw
          go_simp
          any_goals with_reducible rfl
        try simp only [Act.put, List.setIfInBounds_toArray, List.set_cons_zero, List.set_cons_succ]
        refine wpAnyH_done (by kernel_rfl) ?_ _
        refine NoPanic.normal ?_
        go_wp2_with fail
        go_roundw
        case rel => exact ⟨2, .inr (.inr rfl), rfl, ⟨KP.tail.tail, bx, by', zx, zy⟩⟩
        case measure => simp [intOf]
    · go_wp2_with fail
      refine (alive3 _).mono ?_
      rintro e w9 ⟨rfl, k⟩
      have HB := (hk.kk.below k).hb
      go_wp2
      go_ret
      exact ⟨rfl, HB⟩

end Go.Proofs.Ytgkajbelekjahaa
