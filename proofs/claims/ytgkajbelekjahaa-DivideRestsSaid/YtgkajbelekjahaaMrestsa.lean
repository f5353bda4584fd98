/- The walk of DivideRests: at any two wide numbers it returns true; what was there is as it was. -/
import Derived.Test.YtgkajbelekjahaaValive
import Derived.Test.YtgkajbelekjahaaDfloor
import Derived.Test.YtgkajbelekjahaaDtrunc
import Derived.Deep.RegionHeld3
import Derived.Deep.RegionWith
namespace Go.Proofs.Ytgkajbelekjahaa
open Go.RowKit

/-- what the statement's loop keeps: its numbers' blocks, and both numbers -/
structure RK (w : World) (a b : Int) (gx : Nat) (px : Bool) (Ax : Option Addr) (nx cx : Nat) (gy : Nat) (py : Bool) (Ay : Option Addr) (ny cy : Nat) (W : World) : Prop where
  kk : PairsK w [(w.heap.size + 1, .int .i64 (hiW b), .int .u64 (loW b)), (w.heap.size, .int .i64 (hiW a), .int .u64 (loW a))] W
  bx : Box W gx px (.slice Ax nx cx)
  by' : Box W gy py (.slice Ay ny cy)
  zx : Zs W px Ax nx cx a
  zy : Zs W py Ay ny cy b
theorem RK.below {w : World} {a b : Int} {gx : Nat} {px : Bool} {Ax : Option Addr} {nx cx : Nat} {gy : Nat} {py : Bool} {Ay : Option Addr} {ny cy : Nat} {W W' : World} (h : RK w a b gx px Ax nx cx gy py Ay ny cy W) (k : Below W.heap.size W W') : RK w a b gx px Ax nx cx gy py Ay ny cy W' :=
  ⟨h.kk.below k, h.bx.below' k, h.by'.below' k, h.zx.below k, h.zy.below k⟩
/-- what holds at the head of a round -/
def RRel (w : World) (a b : Int) (gx : Nat) (px : Bool) (Ax : Option Addr) (nx cx : Nat) (gy : Nat) (py : Bool) (Ay : Option Addr) (ny cy : Nat) (v : Value) (W : World) : Prop :=
  ∃ i : Int, (i = 0 ∨ i = 1 ∨ i = 2) ∧ v = .int .i64 i ∧ RK w a b gx px Ax nx cx gy py Ay ny cy W

set_option maxRecDepth 100000 in
set_option maxHeartbeats 8000000 in
theorem rests_zero (a b : Int) (FL : Hid (∀ W, Calls Try.prog 10 #[.agg #[.int .i64 (hiW a), .int .u64 (loW a)], .agg #[.int .i64 (hiW b), .int .u64 (loW b)]] W (RetHalves W 0 0 0 0 3))) (TR : Hid (∀ W, Calls Try.prog 13 #[.agg #[.int .i64 (hiW a), .int .u64 (loW a)], .agg #[.int .i64 (hiW b), .int .u64 (loW b)]] W (RetHalves W 0 0 0 0 3))) (Oa : Hid (∀ W, Calls Try.prog 20 #[.agg #[.int .i64 (hiW a), .int .u64 (loW a)]] W (RetZ W a))) (sa : Hid (a.natAbs < 65536 ^ 9)) (Ob : Hid (∀ W, Calls Try.prog 20 #[.agg #[.int .i64 (hiW b), .int .u64 (loW b)]] W (RetZ W b))) (sb : Hid (b.natAbs < 65536 ^ 9)) (SG : Hid (∀ W, Calls Try.prog 23 #[.agg #[.int .i64 (hiW b), .int .u64 (loW b)]] W (RetV W (.int .i64 0)))) (w : World) :
    Calls Try.prog 8 #[.agg #[.int .i64 (hiW a), .int .u64 (loW a)], .agg #[.int .i64 (hiW b), .int .u64 (loW b)]] w (RetV w (.bool true)) := by
  go_enter Try.func8, Try.ntmps8
  go_wp2_with fail
  have KK := (((PairsK.nil w).more (.int .i64 (hiW a)) (.int .u64 (loW a)) 24).more (.int .i64 (hiW b)) (.int .u64 (loW b)) 24)
  try simp only [World.size_alloc] at KK
  generalize ((w.alloc (.cells #[.int .i64 (hiW a), .int .u64 (loW a)] 24)).alloc (.cells #[.int .i64 (hiW b), .int .u64 (loW b)] 24)) = w0 at *
  have lt0 : w.heap.size + 1 < w0.heap.size := (KK.head).lt
  have lt1 : w.heap.size < w0.heap.size := (KK.tail.head).lt
  obtain ⟨lo, hlo⟩ : ∃ lo, lo + 1 = w0.heap.size := ⟨w0.heap.size - 1, by omega⟩
  have la0 : w.heap.size + 1 ≤ lo := by omega
  have la1 : w.heap.size ≤ lo := by omega
  have st : PreD lo (PairsK w [(w.heap.size + 1, .int .i64 (hiW b), .int .u64 (loW b)), (w.heap.size, .int .i64 (hiW a), .int .u64 (loW a))]) w0 [] := ⟨PairsK.keptZ w _ lo (by simp <;> omega) (by omega), KK, by omega, (fun b h => by cases h), (fun b h => by cases h), List.nodup_nil⟩
  clear hlo KK lt0 lt1
  go_cut [5, 6] (fun v v' wx => DivCutD lo (PairsK w [(w.heap.size + 1, .int .i64 (hiW b), .int .u64 (loW b)), (w.heap.size, .int .i64 (hiW a), .int .u64 (loW a))]) (a) (b) v v' wx)
  case first =>
    obtain ⟨_, ja0, jb0, _, _⟩ := st.k.tail.head
    obtain ⟨_, ja1, jb1, _, _⟩ := st.k.head
    have ⟨gp0, gq0⟩ := behindG st.lt la0
    have ⟨gp1, gq1⟩ := behindG st.lt la1
    go_region_held3 (fun w' => w'.cell? ⟨w.heap.size, 0, none⟩ = some (.int .i64 (hiW a)) ∧ w'.cell? ⟨w.heap.size, 1, none⟩ = some (.int .u64 (loW a)) ∧ w'.cell? ⟨w.heap.size + 1, 0, none⟩ = some (.int .i64 (hiW b)) ∧ w'.cell? ⟨w.heap.size + 1, 1, none⟩ = some (.int .u64 (loW b))) (first | (with_reducible exact ⟨st.k.tail.head.c0, st.k.tail.head.c1, st.k.head.c0, st.k.head.c1⟩) | (with_reducible exact ⟨st.alloc1.k.tail.head.c0, st.alloc1.k.tail.head.c1, st.alloc1.k.head.c0, st.alloc1.k.head.c1⟩) | (with_reducible exact ⟨st.alloc2.k.tail.head.c0, st.alloc2.k.tail.head.c1, st.alloc2.k.head.c0, st.alloc2.k.head.c1⟩) | (with_reducible exact ⟨st.drew.k.tail.head.c0, st.drew.k.tail.head.c1, st.drew.k.head.c0, st.drew.k.head.c1⟩) | (with_reducible exact ⟨st.alloc1.drew.k.tail.head.c0, st.alloc1.drew.k.tail.head.c1, st.alloc1.drew.k.head.c0, st.alloc1.drew.k.head.c1⟩) | (with_reducible exact ⟨st.alloc2.drew.k.tail.head.c0, st.alloc2.drew.k.tail.head.c1, st.alloc2.drew.k.head.c0, st.alloc2.drew.k.head.c1⟩) | go_keep)
      (first
        | (go_at_call 20; (with_reducible refine (Oa.out _).mono ?_); rintro e x ⟨p1, A1, n1, c1, rfl, z1, k⟩
           have l1 := z1.small sa.out
           with_reducible (first | replace st := st.below k | replace st := st.alloc1.below k | replace st := st.alloc2.below k | replace st := st.drew.below k | replace st := st.alloc1.drew.below k | replace st := st.alloc2.drew.below k)
           clear k
           obtain ⟨_, ka0, kb0, _, _⟩ := st.k.tail.head
           obtain ⟨_, ka1, kb1, _, _⟩ := st.k.head
           obtain ⟨gp0, gq0⟩ := behindG st.lt la0
           try obtain ⟨gr0, gs0⟩ := behindG (st.ge _ (List.mem_cons_self ..)) la0
           try obtain ⟨gt0, gu0⟩ := behindG (st.ge _ (List.mem_cons_of_mem _ (List.mem_cons_self ..))) la0
           obtain ⟨gp1, gq1⟩ := behindG st.lt la1
           try obtain ⟨gr1, gs1⟩ := behindG (st.ge _ (List.mem_cons_self ..)) la1
           try obtain ⟨gt1, gu1⟩ := behindG (st.ge _ (List.mem_cons_of_mem _ (List.mem_cons_self ..))) la1
           try obtain ⟨_, y0, y1, y2, y3⟩ := st.al _ (List.mem_cons_self ..)
           try obtain ⟨_, y4, y5, y6, y7⟩ := st.al _ (List.mem_cons_of_mem _ (List.mem_cons_self ..)))
        | (go_at_call 20; (with_reducible refine (Ob.out _).mono ?_); rintro e x ⟨p2, A2, n2, c2, rfl, z2, k⟩
           have l2 := z2.small sb.out
           with_reducible (first | replace z1 := z1.below k | replace z1 := (z1.below (below_box _ _)).below k | replace z1 := z1.drew.below k | replace z1 := (z1.below (below_box _ _)).drew.below k | replace z1 := ((z1.below (below_box _ _)).below (below_box _ _)).below k | replace z1 := ((z1.below (below_box _ _)).below (below_box _ _)).drew.below k)
           with_reducible (first | replace st := st.below k | replace st := st.alloc1.below k | replace st := st.alloc2.below k | replace st := st.drew.below k | replace st := st.alloc1.drew.below k | replace st := st.alloc2.drew.below k)
           clear k
           obtain ⟨_, ka0, kb0, _, _⟩ := st.k.tail.head
           obtain ⟨_, ka1, kb1, _, _⟩ := st.k.head
           obtain ⟨gp0, gq0⟩ := behindG st.lt la0
           try obtain ⟨gr0, gs0⟩ := behindG (st.ge _ (List.mem_cons_self ..)) la0
           try obtain ⟨gt0, gu0⟩ := behindG (st.ge _ (List.mem_cons_of_mem _ (List.mem_cons_self ..))) la0
           obtain ⟨gp1, gq1⟩ := behindG st.lt la1
           try obtain ⟨gr1, gs1⟩ := behindG (st.ge _ (List.mem_cons_self ..)) la1
           try obtain ⟨gt1, gu1⟩ := behindG (st.ge _ (List.mem_cons_of_mem _ (List.mem_cons_self ..))) la1
           try obtain ⟨_, y0, y1, y2, y3⟩ := st.al _ (List.mem_cons_self ..)
           try obtain ⟨_, y4, y5, y6, y7⟩ := st.al _ (List.mem_cons_of_mem _ (List.mem_cons_self ..))))
    all_goals
      go_wp2_with fail
      go_meet
      refine ⟨_, _, p1, A1, n1, c1, p2, A2, n2, c2, rfl, rfl, ?_⟩
      with_reducible first | exact st.fin1a z1 z2 | exact st.fin1b z1 z2 | exact st.fin2a z1 z2 | exact st.fin2b z1 z2 | exact st.fin3a z1 z2 | exact st.fin3b z1 z2
  case rest =>
  clear st
  obtain ⟨gx, gy, px, Ax, nx, cx, py, Ay, ny, cy, rfl, rfl, s0⟩ := hcut
  have HR : RK w a b gx px Ax nx cx gy py Ay ny cy wc := ⟨s0.k, s0.bq, s0.br, s0.zq, s0.zr⟩
  clear s0 la0 la1 lo
  go_wp2_with fail
  go_loopw [7] (fun v7 wr => RRel w a b gx px Ax nx cx gy py Ay ny cy v7 wr) (fun v7 _ => (2 - intOf v7).toNat)
  case atStart => exact ⟨0, .inl rfl, rfl, HR⟩
  case round =>
    clear HR
    obtain ⟨i, hi, rfl, hk⟩ := hrel
    rcases hi with rfl | rfl | rfl
    · obtain ⟨_, a0, a1, _, _⟩ := hk.kk.tail.head
      obtain ⟨_, b0, b1, _, _⟩ := hk.kk.head
      go_wp2_with fail
      refine (FL.out _).mono ?_
      rintro o w1 ⟨rfl, k⟩
      replace hk := hk.below k
      clear k a0 a1 b0 b1
      obtain ⟨_, a0, a1, _, _⟩ := (hk.below (below_thru (below_box _ (.cells #[.int .i64 0, .int .u64 0] 24)) (below_box _ (.cells #[.int .i64 0, .int .u64 0] 24)))).kk.tail.head
      obtain ⟨_, b0, b1, _, _⟩ := (hk.below (below_thru (below_box _ (.cells #[.int .i64 0, .int .u64 0] 24)) (below_box _ (.cells #[.int .i64 0, .int .u64 0] 24)))).kk.head
      go_wp2_with fail
      have BB := below_thru (below_box w1 (.cells #[.int .i64 0, .int .u64 0] 24)) (below_box _ (.cells #[.int .i64 0, .int .u64 0] 24))
      have PQ := (Pair.new w1 (.int .i64 0) (.int .u64 0) 24).below (below_box _ (.cells #[.int .i64 0, .int .u64 0] 24))
      have PR := Pair.new (w1.alloc (.cells #[.int .i64 0, .int .u64 0] 24)) (.int .i64 0) (.int .u64 0) 24
      rw [World.size_alloc] at PR
      have hg := hk.kk.hb.size
      generalize (w1.alloc (.cells #[.int .i64 0, .int .u64 0] 24)).alloc (.cells #[.int .i64 0, .int .u64 0] 24) = w2 at *
      replace hk := hk.below BB
      go_wp2_with fail
      clear BB PQ PR hg
      clear a0 a1 b0 b1
      generalize w1.heap.size = g at *
      obtain ⟨_, a0, a1, _, _⟩ := hk.kk.tail.head
      obtain ⟨_, b0, b1, _, _⟩ := hk.kk.head
      replace hk := hk.below (Below.refl _ _).drew
      refine wp_region_noPanic ?_
      refine wp_region_held_drew (S := (fun w' => w'.cell? ⟨w.heap.size + 1, 0, none⟩ = some (.int .i64 (hiW b)) ∧ w'.cell? ⟨w.heap.size + 1, 1, none⟩ = some (.int .u64 (loW b)))) (by kernel_rfl) ⟨hk.kk.head.c0, hk.kk.head.c1⟩ (fun hHeld => ?_)
      refine wpAnyH_take (i := 0) (oi := { dst := some 40, op := Op.load 24 (Operand.tmp 3), type := 24, pos := "law.go:67", after := #[], guard := none }) (v := ?_) rfl (by kernel_rfl) (by kernel_rfl) (by kernel_rfl) (fun _ _ _ h => h) (Or.inl ⟨by rfl, ?_⟩) (by assumption) ?_
      rotate_left
      · intro w hSw
        try dsimp only at hSw
        go_simp
        any_goals with_reducible rfl
      try simp only [Act.put, List.setIfInBounds_toArray, List.set_cons_zero, List.set_cons_succ]
      refine wpAnyH_ready (rs := [1]) (by kernel_rfl) (by simp) ?_
      refine AllReadyH.cons (o := { dst := some 41, op := Op.call { callee := Callee.value (Operand.func 23), args := #[Operand.tmp 40], argTypes := #[24] }, type := 3, pos := "law.go:67", after := #[{ on := 0, ground := Ground.data }], guard := none }) rfl (fun K hK => ?_) AllReadyH.nil
      go_simp
      go_at_call 23
      refine (SG.out _).mono ?_
      rintro o wx ⟨rfl, k⟩
      replace hk := hk.below k
      clear k
      refine hK.out _ _ (⟨hk.kk.head.c0, hk.kk.head.c1⟩) (fun hHeld => ?_)
      clear hK K
      try simp only [Act.put, List.setIfInBounds_toArray, List.set_cons_zero, List.set_cons_succ]
      refine wpAnyH_take (i := 2) (oi := { dst := some 42, op := Op.binOp BinOp.eql 3 (Operand.tmp 41) (Operand.const (Value.int IntKind.i64 0)) 3, type := 4, pos := "law.go:67", after := #[{ on := 1, ground := Ground.data }], guard := none }) (v := ?_) rfl (by kernel_rfl) (by kernel_rfl) (by kernel_rfl) (fun _ _ _ h => h) (Or.inl ⟨by rfl, ?_⟩) (by assumption) ?_
      rotate_left
      · intro w hSw
        try dsimp only at hSw
        go_simp
        any_goals with_reducible rfl
      try simp only [Act.put, List.setIfInBounds_toArray, List.set_cons_zero, List.set_cons_succ]
      refine wpAnyH_take (i := 3) (oi := { dst := some 43, op := Op.move (Operand.tmp 42), type := 4, pos := "law.go:67", after := #[{ on := 2, ground := Ground.data }, { on := 1, ground := Ground.chain }], guard := none }) (v := ?_) rfl (by kernel_rfl) (by kernel_rfl) (by kernel_rfl) (fun _ _ _ h => h) (Or.inl ⟨by rfl, ?_⟩) (by assumption) ?_
      rotate_left
      · intro w hSw
        try dsimp only at hSw
        go_simp
        any_goals with_reducible rfl
      try simp only [Act.put, List.setIfInBounds_toArray, List.set_cons_zero, List.set_cons_succ]
      refine wpAnyH_take (i := 4) (oi := { dst := some 44, op := Op.move (Operand.tmp 10), type := 25, pos := "law.go:67", after := #[{ on := 3, ground := Ground.guard }], guard := some (3, true) }) (v := ?_) rfl (by kernel_rfl) (by kernel_rfl) (by kernel_rfl) (fun _ _ _ h => h) (Or.inl ⟨by rfl, ?_⟩) (by assumption) ?_
      rotate_left
      · intro w hSw
        try dsimp only at hSw
        go_simp
        any_goals with_reducible rfl
      try simp only [Act.put, List.setIfInBounds_toArray, List.set_cons_zero, List.set_cons_succ]
      refine wpAnyH_take (i := 5) (oi := { dst := some 45, op := Op.binOp BinOp.neq 25 (Operand.tmp 44) (Operand.const (Value.int IntKind.i64 3)) 25, type := 4, pos := "law.go:67", after := #[{ on := 4, ground := Ground.data }, { on := 3, ground := Ground.guard }], guard := some (3, true) }) (v := ?_) rfl (by kernel_rfl) (by kernel_rfl) (by kernel_rfl) (fun _ _ _ h => h) (Or.inl ⟨by rfl, ?_⟩) (by assumption) ?_
      rotate_left
      · intro w hSw
        try dsimp only at hSw
        go_simp
        any_goals with_reducible rfl
      try simp only [Act.put, List.setIfInBounds_toArray, List.set_cons_zero, List.set_cons_succ]
      refine wpAnyH_take (i := 6) (oi := { dst := some 46, op := Op.pick (Operand.tmp 43) (Operand.tmp 45) (Operand.const (Value.bool false)), type := 4, pos := "law.go:67", after := #[{ on := 3, ground := Ground.data }, { on := 5, ground := Ground.data }], guard := none }) (v := ?_) rfl (by kernel_rfl) (by kernel_rfl) (by kernel_rfl) (fun _ _ _ h => h) (Or.inl ⟨by rfl, ?_⟩) (by assumption) ?_
      rotate_left
      · intro w hSw
        try dsimp only at hSw
        go_simp
        any_goals with_reducible rfl
      try simp only [Act.put, List.setIfInBounds_toArray, List.set_cons_zero, List.set_cons_succ]
      refine wpAnyH_take (i := 7) (oi := { dst := some 47, op := Op.move (Operand.tmp 46), type := 4, pos := "law.go:67", after := #[{ on := 6, ground := Ground.data }, { on := 3, ground := Ground.chain }], guard := none }) (v := ?_) rfl (by kernel_rfl) (by kernel_rfl) (by kernel_rfl) (fun _ _ _ h => h) (Or.inl ⟨by rfl, ?_⟩) (by assumption) ?_
      rotate_left
      · intro w hSw
        try dsimp only at hSw
        go_simp
        any_goals with_reducible rfl
      try simp only [Act.put, List.setIfInBounds_toArray, List.set_cons_zero, List.set_cons_succ]
      refine wpAnyH_take (i := 8) (oi := { dst := some 48, op := Op.load 24 (Operand.tmp 3), type := 24, pos := "law.go:67", after := #[{ on := 7, ground := Ground.guard }], guard := some (7, false) }) (v := ?_) rfl (by kernel_rfl) (by kernel_rfl) (by kernel_rfl) (fun _ _ _ h => h) (Or.inl ⟨by rfl, ?_⟩) (by assumption) ?_
      rotate_left
      · intro w hSw
        try dsimp only at hSw
        go_simp
        any_goals with_reducible rfl
      try simp only [Act.put, List.setIfInBounds_toArray, List.set_cons_zero, List.set_cons_succ]
      refine wpAnyH_ready (rs := [9]) (by kernel_rfl) (by simp) ?_
      refine AllReadyH.cons (o := { dst := some 49, op := Op.call { callee := Callee.value (Operand.func 23), args := #[Operand.tmp 48], argTypes := #[24] }, type := 3, pos := "law.go:67", after := #[{ on := 8, ground := Ground.data }, { on := 7, ground := Ground.chain }, { on := 7, ground := Ground.guard }], guard := some (7, false) }) rfl (fun K hK => ?_) AllReadyH.nil
      go_simp
      go_at_call 23
      refine (SG.out _).mono ?_
      rintro o wx ⟨rfl, k⟩
      replace hk := hk.below k
      clear k
      refine hK.out _ _ (⟨hk.kk.head.c0, hk.kk.head.c1⟩) (fun hHeld => ?_)
      clear hK K
      try simp only [Act.put, List.setIfInBounds_toArray, List.set_cons_zero, List.set_cons_succ]
      refine wpAnyH_take (i := 10) (oi := { dst := some 50, op := Op.binOp BinOp.neq 3 (Operand.tmp 49) (Operand.const (Value.int IntKind.i64 0)) 3, type := 4, pos := "law.go:67", after := #[{ on := 9, ground := Ground.data }, { on := 7, ground := Ground.guard }], guard := some (7, false) }) (v := ?_) rfl (by kernel_rfl) (by kernel_rfl) (by kernel_rfl) (fun _ _ _ h => h) (Or.inl ⟨by rfl, ?_⟩) (by assumption) ?_
      rotate_left
      · intro w hSw
        try dsimp only at hSw
        go_simp
        any_goals with_reducible rfl
      try simp only [Act.put, List.setIfInBounds_toArray, List.set_cons_zero, List.set_cons_succ]
      refine wpAnyH_take (i := 11) (oi := { dst := some 51, op := Op.move (Operand.tmp 50), type := 4, pos := "law.go:67", after := #[{ on := 10, ground := Ground.data }, { on := 9, ground := Ground.chain }, { on := 7, ground := Ground.guard }], guard := some (7, false) }) (v := ?_) rfl (by kernel_rfl) (by kernel_rfl) (by kernel_rfl) (fun _ _ _ h => h) (Or.inl ⟨by rfl, ?_⟩) (by assumption) ?_
      rotate_left
      · intro w hSw
        try dsimp only at hSw
        go_simp
        any_goals with_reducible rfl
      try simp only [Act.put, List.setIfInBounds_toArray, List.set_cons_zero, List.set_cons_succ]
      refine wpAnyH_take (i := 12) (oi := { dst := some 52, op := Op.move (Operand.tmp 10), type := 25, pos := "law.go:67", after := #[{ on := 11, ground := Ground.guard }], guard := some (11, true) }) (v := undef) rfl (by kernel_rfl) (by kernel_rfl) (by kernel_rfl) (fun _ _ _ h => h) (Or.inr ⟨by rfl, rfl⟩) (by assumption) ?_
      try simp only [Act.put, List.setIfInBounds_toArray, List.set_cons_zero, List.set_cons_succ]
      refine wpAnyH_take (i := 13) (oi := { dst := some 53, op := Op.binOp BinOp.neq 25 (Operand.tmp 52) (Operand.const (Value.int IntKind.i64 2)) 25, type := 4, pos := "law.go:67", after := #[{ on := 12, ground := Ground.data }, { on := 11, ground := Ground.guard }], guard := some (11, true) }) (v := undef) rfl (by kernel_rfl) (by kernel_rfl) (by kernel_rfl) (fun _ _ _ h => h) (Or.inr ⟨by rfl, rfl⟩) (by assumption) ?_
      try simp only [Act.put, List.setIfInBounds_toArray, List.set_cons_zero, List.set_cons_succ]
      refine wpAnyH_take (i := 14) (oi := { dst := some 54, op := Op.move (Operand.tmp 53), type := 4, pos := "law.go:67", after := #[{ on := 13, ground := Ground.data }, { on := 11, ground := Ground.chain }, { on := 11, ground := Ground.guard }], guard := some (11, true) }) (v := undef) rfl (by kernel_rfl) (by kernel_rfl) (by kernel_rfl) (fun _ _ _ h => h) (Or.inr ⟨by rfl, rfl⟩) (by assumption) ?_
      try simp only [Act.put, List.setIfInBounds_toArray, List.set_cons_zero, List.set_cons_succ]
      refine wpAnyH_take (i := 15) (oi := { dst := some 55, op := Op.load 24 (Operand.tmp 3), type := 24, pos := "law.go:67", after := #[{ on := 14, ground := Ground.guard }], guard := some (14, false) }) (v := undef) rfl (by kernel_rfl) (by kernel_rfl) (by kernel_rfl) (fun _ _ _ h => h) (Or.inr ⟨by rfl, rfl⟩) (by assumption) ?_
      try simp only [Act.put, List.setIfInBounds_toArray, List.set_cons_zero, List.set_cons_succ]
      refine wpAnyH_take (i := 16) (oi := { dst := some 56, op := Op.call { callee := Callee.value (Operand.func 16), args := #[Operand.const (Value.int IntKind.i64 (-1))], argTypes := #[2] }, type := 24, pos := "law.go:67", after := #[{ on := 14, ground := Ground.chain }, { on := 14, ground := Ground.guard }], guard := some (14, false) }) (v := undef) rfl (by kernel_rfl) (by kernel_rfl) (by kernel_rfl) (fun _ _ _ h => h) (Or.inr ⟨by rfl, rfl⟩) (by assumption) ?_
      try simp only [Act.put, List.setIfInBounds_toArray, List.set_cons_zero, List.set_cons_succ]
      refine wpAnyH_take (i := 17) (oi := { dst := some 57, op := Op.binOp BinOp.neq 24 (Operand.tmp 55) (Operand.tmp 56) 24, type := 4, pos := "law.go:67", after := #[{ on := 15, ground := Ground.data }, { on := 16, ground := Ground.data }, { on := 14, ground := Ground.guard }], guard := some (14, false) }) (v := undef) rfl (by kernel_rfl) (by kernel_rfl) (by kernel_rfl) (fun _ _ _ h => h) (Or.inr ⟨by rfl, rfl⟩) (by assumption) ?_
      try simp only [Act.put, List.setIfInBounds_toArray, List.set_cons_zero, List.set_cons_succ]
      refine wpAnyH_take (i := 18) (oi := { dst := some 58, op := Op.pick (Operand.tmp 54) (Operand.const (Value.bool true)) (Operand.tmp 57), type := 4, pos := "law.go:67", after := #[{ on := 14, ground := Ground.data }, { on := 17, ground := Ground.data }, { on := 11, ground := Ground.guard }], guard := some (11, true) }) (v := undef) rfl (by kernel_rfl) (by kernel_rfl) (by kernel_rfl) (fun _ _ _ h => h) (Or.inr ⟨by rfl, rfl⟩) (by assumption) ?_
      try simp only [Act.put, List.setIfInBounds_toArray, List.set_cons_zero, List.set_cons_succ]
      refine wpAnyH_take (i := 19) (oi := { dst := some 59, op := Op.pick (Operand.tmp 51) (Operand.tmp 58) (Operand.const (Value.bool false)), type := 4, pos := "law.go:67", after := #[{ on := 11, ground := Ground.data }, { on := 18, ground := Ground.data }, { on := 7, ground := Ground.guard }], guard := some (7, false) }) (v := ?_) rfl (by kernel_rfl) (by kernel_rfl) (by kernel_rfl) (fun _ _ _ h => h) (Or.inl ⟨by rfl, ?_⟩) (by assumption) ?_
      rotate_left
      · intro w hSw
        try dsimp only at hSw
        go_simp
        any_goals with_reducible rfl
      try simp only [Act.put, List.setIfInBounds_toArray, List.set_cons_zero, List.set_cons_succ]
      refine wpAnyH_take (i := 20) (oi := { dst := some 60, op := Op.pick (Operand.tmp 47) (Operand.const (Value.bool true)) (Operand.tmp 59), type := 4, pos := "law.go:67", after := #[{ on := 7, ground := Ground.data }, { on := 19, ground := Ground.data }], guard := none }) (v := ?_) rfl (by kernel_rfl) (by kernel_rfl) (by kernel_rfl) (fun _ _ _ h => h) (Or.inl ⟨by rfl, ?_⟩) (by assumption) ?_
      rotate_left
      · intro w hSw
        try dsimp only at hSw
        go_simp
        any_goals with_reducible rfl
      try simp only [Act.put, List.setIfInBounds_toArray, List.set_cons_zero, List.set_cons_succ]
      refine wpAnyH_done (by kernel_rfl) ?_ _
      refine NoPanic.normal ?_
      go_wp2_with fail
      go_roundw
      case rel => exact ⟨1, .inr (.inl rfl), rfl, hk⟩
      case measure => simp [intOf]
    · obtain ⟨_, a0, a1, _, _⟩ := hk.kk.tail.head
      obtain ⟨_, b0, b1, _, _⟩ := hk.kk.head
      go_wp2_with fail
      refine (FL.out _).mono ?_
      rintro o w1 ⟨rfl, k⟩
      replace hk := hk.below k
      clear k a0 a1 b0 b1
      obtain ⟨_, a0, a1, _, _⟩ := (hk.below (below_thru (below_box _ (.cells #[.int .i64 0, .int .u64 0] 24)) (below_box _ (.cells #[.int .i64 0, .int .u64 0] 24)))).kk.tail.head
      obtain ⟨_, b0, b1, _, _⟩ := (hk.below (below_thru (below_box _ (.cells #[.int .i64 0, .int .u64 0] 24)) (below_box _ (.cells #[.int .i64 0, .int .u64 0] 24)))).kk.head
      go_wp2_with fail
      have BB := below_thru (below_box w1 (.cells #[.int .i64 0, .int .u64 0] 24)) (below_box _ (.cells #[.int .i64 0, .int .u64 0] 24))
      have PQ := (Pair.new w1 (.int .i64 0) (.int .u64 0) 24).below (below_box _ (.cells #[.int .i64 0, .int .u64 0] 24))
      have PR := Pair.new (w1.alloc (.cells #[.int .i64 0, .int .u64 0] 24)) (.int .i64 0) (.int .u64 0) 24
      rw [World.size_alloc] at PR
      have hg := hk.kk.hb.size
      generalize (w1.alloc (.cells #[.int .i64 0, .int .u64 0] 24)).alloc (.cells #[.int .i64 0, .int .u64 0] 24) = w2 at *
      refine (TR.out _).mono ?_
      rintro o w3 ⟨rfl, k⟩
      replace BB := below_thru BB k
      replace PQ := PQ.below k
      replace PR := PR.below k
      clear k a0 a1 b0 b1
      obtain ⟨_, u0, u1, u2, u3⟩ := id PQ
      obtain ⟨_, v0, v1, v2, v3⟩ := id PR
      have i9 : w1.heap.size + 1 ≠ w1.heap.size := by omega
      replace BB := (((BB.setCell (p := ⟨w1.heap.size, 0, none⟩) (Nat.le_refl _) (.int .i64 0)).setCell (p := ⟨w1.heap.size, 1, none⟩) (Nat.le_refl _) (.int .u64 0)).setCell (p := ⟨w1.heap.size + 1, 0, none⟩) (by show _ ≤ w1.heap.size + 1; omega) (.int .i64 0)).setCell (p := ⟨w1.heap.size + 1, 1, none⟩) (by show _ ≤ w1.heap.size + 1; omega) (.int .u64 0)
      replace hk := hk.below BB
      go_wp2_with fail
      clear u0 u1 u2 u3 v0 v1 v2 v3 i9
      generalize (((w3.setCell ⟨w1.heap.size, 0, none⟩ (.int .i64 0)).setCell ⟨w1.heap.size, 1, none⟩ (.int .u64 0)).setCell ⟨w1.heap.size + 1, 0, none⟩ (.int .i64 0)).setCell ⟨w1.heap.size + 1, 1, none⟩ (.int .u64 0) = w4 at *
      clear BB PQ PR hg
      generalize w1.heap.size = g at *
      obtain ⟨_, a0, a1, _, _⟩ := hk.kk.tail.head
      obtain ⟨_, b0, b1, _, _⟩ := hk.kk.head
      replace hk := hk.below (Below.refl _ _).drew
      refine wp_region_noPanic ?_
      refine wp_region_held_drew (S := (fun w' => w'.cell? ⟨w.heap.size + 1, 0, none⟩ = some (.int .i64 (hiW b)) ∧ w'.cell? ⟨w.heap.size + 1, 1, none⟩ = some (.int .u64 (loW b)))) (by kernel_rfl) ⟨hk.kk.head.c0, hk.kk.head.c1⟩ (fun hHeld => ?_)
      refine wpAnyH_take (i := 0) (oi := { dst := some 40, op := Op.load 24 (Operand.tmp 3), type := 24, pos := "law.go:67", after := #[], guard := none }) (v := ?_) rfl (by kernel_rfl) (by kernel_rfl) (by kernel_rfl) (fun _ _ _ h => h) (Or.inl ⟨by rfl, ?_⟩) (by assumption) ?_
      rotate_left
      · intro w hSw
        try dsimp only at hSw
        go_simp
        any_goals with_reducible rfl
      try simp only [Act.put, List.setIfInBounds_toArray, List.set_cons_zero, List.set_cons_succ]
      refine wpAnyH_ready (rs := [1]) (by kernel_rfl) (by simp) ?_
      refine AllReadyH.cons (o := { dst := some 41, op := Op.call { callee := Callee.value (Operand.func 23), args := #[Operand.tmp 40], argTypes := #[24] }, type := 3, pos := "law.go:67", after := #[{ on := 0, ground := Ground.data }], guard := none }) rfl (fun K hK => ?_) AllReadyH.nil
      go_simp
      go_at_call 23
      refine (SG.out _).mono ?_
      rintro o wx ⟨rfl, k⟩
      replace hk := hk.below k
      clear k
      refine hK.out _ _ (⟨hk.kk.head.c0, hk.kk.head.c1⟩) (fun hHeld => ?_)
      clear hK K
      try simp only [Act.put, List.setIfInBounds_toArray, List.set_cons_zero, List.set_cons_succ]
      refine wpAnyH_take (i := 2) (oi := { dst := some 42, op := Op.binOp BinOp.eql 3 (Operand.tmp 41) (Operand.const (Value.int IntKind.i64 0)) 3, type := 4, pos := "law.go:67", after := #[{ on := 1, ground := Ground.data }], guard := none }) (v := ?_) rfl (by kernel_rfl) (by kernel_rfl) (by kernel_rfl) (fun _ _ _ h => h) (Or.inl ⟨by rfl, ?_⟩) (by assumption) ?_
      rotate_left
      · intro w hSw
        try dsimp only at hSw
        go_simp
        any_goals with_reducible rfl
      try simp only [Act.put, List.setIfInBounds_toArray, List.set_cons_zero, List.set_cons_succ]
      refine wpAnyH_take (i := 3) (oi := { dst := some 43, op := Op.move (Operand.tmp 42), type := 4, pos := "law.go:67", after := #[{ on := 2, ground := Ground.data }, { on := 1, ground := Ground.chain }], guard := none }) (v := ?_) rfl (by kernel_rfl) (by kernel_rfl) (by kernel_rfl) (fun _ _ _ h => h) (Or.inl ⟨by rfl, ?_⟩) (by assumption) ?_
      rotate_left
      · intro w hSw
        try dsimp only at hSw
        go_simp
        any_goals with_reducible rfl
      try simp only [Act.put, List.setIfInBounds_toArray, List.set_cons_zero, List.set_cons_succ]
      refine wpAnyH_take (i := 4) (oi := { dst := some 44, op := Op.move (Operand.tmp 10), type := 25, pos := "law.go:67", after := #[{ on := 3, ground := Ground.guard }], guard := some (3, true) }) (v := ?_) rfl (by kernel_rfl) (by kernel_rfl) (by kernel_rfl) (fun _ _ _ h => h) (Or.inl ⟨by rfl, ?_⟩) (by assumption) ?_
      rotate_left
      · intro w hSw
        try dsimp only at hSw
        go_simp
        any_goals with_reducible rfl
      try simp only [Act.put, List.setIfInBounds_toArray, List.set_cons_zero, List.set_cons_succ]
      refine wpAnyH_take (i := 5) (oi := { dst := some 45, op := Op.binOp BinOp.neq 25 (Operand.tmp 44) (Operand.const (Value.int IntKind.i64 3)) 25, type := 4, pos := "law.go:67", after := #[{ on := 4, ground := Ground.data }, { on := 3, ground := Ground.guard }], guard := some (3, true) }) (v := ?_) rfl (by kernel_rfl) (by kernel_rfl) (by kernel_rfl) (fun _ _ _ h => h) (Or.inl ⟨by rfl, ?_⟩) (by assumption) ?_
      rotate_left
      · intro w hSw
        try dsimp only at hSw
        go_simp
        any_goals with_reducible rfl
      try simp only [Act.put, List.setIfInBounds_toArray, List.set_cons_zero, List.set_cons_succ]
      refine wpAnyH_take (i := 6) (oi := { dst := some 46, op := Op.pick (Operand.tmp 43) (Operand.tmp 45) (Operand.const (Value.bool false)), type := 4, pos := "law.go:67", after := #[{ on := 3, ground := Ground.data }, { on := 5, ground := Ground.data }], guard := none }) (v := ?_) rfl (by kernel_rfl) (by kernel_rfl) (by kernel_rfl) (fun _ _ _ h => h) (Or.inl ⟨by rfl, ?_⟩) (by assumption) ?_
      rotate_left
      · intro w hSw
        try dsimp only at hSw
        go_simp
        any_goals with_reducible rfl
      try simp only [Act.put, List.setIfInBounds_toArray, List.set_cons_zero, List.set_cons_succ]
      refine wpAnyH_take (i := 7) (oi := { dst := some 47, op := Op.move (Operand.tmp 46), type := 4, pos := "law.go:67", after := #[{ on := 6, ground := Ground.data }, { on := 3, ground := Ground.chain }], guard := none }) (v := ?_) rfl (by kernel_rfl) (by kernel_rfl) (by kernel_rfl) (fun _ _ _ h => h) (Or.inl ⟨by rfl, ?_⟩) (by assumption) ?_
      rotate_left
      · intro w hSw
        try dsimp only at hSw
        go_simp
        any_goals with_reducible rfl
      try simp only [Act.put, List.setIfInBounds_toArray, List.set_cons_zero, List.set_cons_succ]
      refine wpAnyH_take (i := 8) (oi := { dst := some 48, op := Op.load 24 (Operand.tmp 3), type := 24, pos := "law.go:67", after := #[{ on := 7, ground := Ground.guard }], guard := some (7, false) }) (v := ?_) rfl (by kernel_rfl) (by kernel_rfl) (by kernel_rfl) (fun _ _ _ h => h) (Or.inl ⟨by rfl, ?_⟩) (by assumption) ?_
      rotate_left
      · intro w hSw
        try dsimp only at hSw
        go_simp
        any_goals with_reducible rfl
      try simp only [Act.put, List.setIfInBounds_toArray, List.set_cons_zero, List.set_cons_succ]
      refine wpAnyH_ready (rs := [9]) (by kernel_rfl) (by simp) ?_
      refine AllReadyH.cons (o := { dst := some 49, op := Op.call { callee := Callee.value (Operand.func 23), args := #[Operand.tmp 48], argTypes := #[24] }, type := 3, pos := "law.go:67", after := #[{ on := 8, ground := Ground.data }, { on := 7, ground := Ground.chain }, { on := 7, ground := Ground.guard }], guard := some (7, false) }) rfl (fun K hK => ?_) AllReadyH.nil
      go_simp
      go_at_call 23
      refine (SG.out _).mono ?_
      rintro o wx ⟨rfl, k⟩
      replace hk := hk.below k
      clear k
      refine hK.out _ _ (⟨hk.kk.head.c0, hk.kk.head.c1⟩) (fun hHeld => ?_)
      clear hK K
      try simp only [Act.put, List.setIfInBounds_toArray, List.set_cons_zero, List.set_cons_succ]
      refine wpAnyH_take (i := 10) (oi := { dst := some 50, op := Op.binOp BinOp.neq 3 (Operand.tmp 49) (Operand.const (Value.int IntKind.i64 0)) 3, type := 4, pos := "law.go:67", after := #[{ on := 9, ground := Ground.data }, { on := 7, ground := Ground.guard }], guard := some (7, false) }) (v := ?_) rfl (by kernel_rfl) (by kernel_rfl) (by kernel_rfl) (fun _ _ _ h => h) (Or.inl ⟨by rfl, ?_⟩) (by assumption) ?_
      rotate_left
      · intro w hSw
        try dsimp only at hSw
        go_simp
        any_goals with_reducible rfl
      try simp only [Act.put, List.setIfInBounds_toArray, List.set_cons_zero, List.set_cons_succ]
      refine wpAnyH_take (i := 11) (oi := { dst := some 51, op := Op.move (Operand.tmp 50), type := 4, pos := "law.go:67", after := #[{ on := 10, ground := Ground.data }, { on := 9, ground := Ground.chain }, { on := 7, ground := Ground.guard }], guard := some (7, false) }) (v := ?_) rfl (by kernel_rfl) (by kernel_rfl) (by kernel_rfl) (fun _ _ _ h => h) (Or.inl ⟨by rfl, ?_⟩) (by assumption) ?_
      rotate_left
      · intro w hSw
        try dsimp only at hSw
        go_simp
        any_goals with_reducible rfl
      try simp only [Act.put, List.setIfInBounds_toArray, List.set_cons_zero, List.set_cons_succ]
      refine wpAnyH_take (i := 12) (oi := { dst := some 52, op := Op.move (Operand.tmp 10), type := 25, pos := "law.go:67", after := #[{ on := 11, ground := Ground.guard }], guard := some (11, true) }) (v := undef) rfl (by kernel_rfl) (by kernel_rfl) (by kernel_rfl) (fun _ _ _ h => h) (Or.inr ⟨by rfl, rfl⟩) (by assumption) ?_
      try simp only [Act.put, List.setIfInBounds_toArray, List.set_cons_zero, List.set_cons_succ]
      refine wpAnyH_take (i := 13) (oi := { dst := some 53, op := Op.binOp BinOp.neq 25 (Operand.tmp 52) (Operand.const (Value.int IntKind.i64 2)) 25, type := 4, pos := "law.go:67", after := #[{ on := 12, ground := Ground.data }, { on := 11, ground := Ground.guard }], guard := some (11, true) }) (v := undef) rfl (by kernel_rfl) (by kernel_rfl) (by kernel_rfl) (fun _ _ _ h => h) (Or.inr ⟨by rfl, rfl⟩) (by assumption) ?_
      try simp only [Act.put, List.setIfInBounds_toArray, List.set_cons_zero, List.set_cons_succ]
      refine wpAnyH_take (i := 14) (oi := { dst := some 54, op := Op.move (Operand.tmp 53), type := 4, pos := "law.go:67", after := #[{ on := 13, ground := Ground.data }, { on := 11, ground := Ground.chain }, { on := 11, ground := Ground.guard }], guard := some (11, true) }) (v := undef) rfl (by kernel_rfl) (by kernel_rfl) (by kernel_rfl) (fun _ _ _ h => h) (Or.inr ⟨by rfl, rfl⟩) (by assumption) ?_
      try simp only [Act.put, List.setIfInBounds_toArray, List.set_cons_zero, List.set_cons_succ]
      refine wpAnyH_take (i := 15) (oi := { dst := some 55, op := Op.load 24 (Operand.tmp 3), type := 24, pos := "law.go:67", after := #[{ on := 14, ground := Ground.guard }], guard := some (14, false) }) (v := undef) rfl (by kernel_rfl) (by kernel_rfl) (by kernel_rfl) (fun _ _ _ h => h) (Or.inr ⟨by rfl, rfl⟩) (by assumption) ?_
      try simp only [Act.put, List.setIfInBounds_toArray, List.set_cons_zero, List.set_cons_succ]
      refine wpAnyH_take (i := 16) (oi := { dst := some 56, op := Op.call { callee := Callee.value (Operand.func 16), args := #[Operand.const (Value.int IntKind.i64 (-1))], argTypes := #[2] }, type := 24, pos := "law.go:67", after := #[{ on := 14, ground := Ground.chain }, { on := 14, ground := Ground.guard }], guard := some (14, false) }) (v := undef) rfl (by kernel_rfl) (by kernel_rfl) (by kernel_rfl) (fun _ _ _ h => h) (Or.inr ⟨by rfl, rfl⟩) (by assumption) ?_
      try simp only [Act.put, List.setIfInBounds_toArray, List.set_cons_zero, List.set_cons_succ]
      refine wpAnyH_take (i := 17) (oi := { dst := some 57, op := Op.binOp BinOp.neq 24 (Operand.tmp 55) (Operand.tmp 56) 24, type := 4, pos := "law.go:67", after := #[{ on := 15, ground := Ground.data }, { on := 16, ground := Ground.data }, { on := 14, ground := Ground.guard }], guard := some (14, false) }) (v := undef) rfl (by kernel_rfl) (by kernel_rfl) (by kernel_rfl) (fun _ _ _ h => h) (Or.inr ⟨by rfl, rfl⟩) (by assumption) ?_
      try simp only [Act.put, List.setIfInBounds_toArray, List.set_cons_zero, List.set_cons_succ]
      refine wpAnyH_take (i := 18) (oi := { dst := some 58, op := Op.pick (Operand.tmp 54) (Operand.const (Value.bool true)) (Operand.tmp 57), type := 4, pos := "law.go:67", after := #[{ on := 14, ground := Ground.data }, { on := 17, ground := Ground.data }, { on := 11, ground := Ground.guard }], guard := some (11, true) }) (v := undef) rfl (by kernel_rfl) (by kernel_rfl) (by kernel_rfl) (fun _ _ _ h => h) (Or.inr ⟨by rfl, rfl⟩) (by assumption) ?_
      try simp only [Act.put, List.setIfInBounds_toArray, List.set_cons_zero, List.set_cons_succ]
      refine wpAnyH_take (i := 19) (oi := { dst := some 59, op := Op.pick (Operand.tmp 51) (Operand.tmp 58) (Operand.const (Value.bool false)), type := 4, pos := "law.go:67", after := #[{ on := 11, ground := Ground.data }, { on := 18, ground := Ground.data }, { on := 7, ground := Ground.guard }], guard := some (7, false) }) (v := ?_) rfl (by kernel_rfl) (by kernel_rfl) (by kernel_rfl) (fun _ _ _ h => h) (Or.inl ⟨by rfl, ?_⟩) (by assumption) ?_
      rotate_left
      · intro w hSw
        try dsimp only at hSw
        go_simp
        any_goals with_reducible rfl
      try simp only [Act.put, List.setIfInBounds_toArray, List.set_cons_zero, List.set_cons_succ]
      refine wpAnyH_take (i := 20) (oi := { dst := some 60, op := Op.pick (Operand.tmp 47) (Operand.const (Value.bool true)) (Operand.tmp 59), type := 4, pos := "law.go:67", after := #[{ on := 7, ground := Ground.data }, { on := 19, ground := Ground.data }], guard := none }) (v := ?_) rfl (by kernel_rfl) (by kernel_rfl) (by kernel_rfl) (fun _ _ _ h => h) (Or.inl ⟨by rfl, ?_⟩) (by assumption) ?_
      rotate_left
      · intro w hSw
        try dsimp only at hSw
        go_simp
        any_goals with_reducible rfl
      try simp only [Act.put, List.setIfInBounds_toArray, List.set_cons_zero, List.set_cons_succ]
      refine wpAnyH_done (by kernel_rfl) ?_ _
      refine NoPanic.normal ?_
      go_wp2_with fail
      go_roundw
      case rel => exact ⟨2, .inr (.inr rfl), rfl, hk⟩
      case measure => simp [intOf]
    · go_wp2_with fail
      refine (alive3 _).mono ?_
      rintro e w9 ⟨rfl, k⟩
      have HB := (hk.kk.below k).hb
      go_wp2
      go_ret
      exact ⟨rfl, HB⟩

set_option maxRecDepth 100000 in
set_option maxHeartbeats 8000000 in
theorem rests_over (a b s : Int) (FL : Hid (∀ W, Calls Try.prog 10 #[.agg #[.int .i64 (hiW a), .int .u64 (loW a)], .agg #[.int .i64 (hiW b), .int .u64 (loW b)]] W (RetHalves W 0 0 0 0 2))) (TR : Hid (∀ W, Calls Try.prog 13 #[.agg #[.int .i64 (hiW a), .int .u64 (loW a)], .agg #[.int .i64 (hiW b), .int .u64 (loW b)]] W (RetHalves W 0 0 0 0 2))) (Oa : Hid (∀ W, Calls Try.prog 20 #[.agg #[.int .i64 (hiW a), .int .u64 (loW a)]] W (RetZ W a))) (sa : Hid (a.natAbs < 65536 ^ 9)) (Ob : Hid (∀ W, Calls Try.prog 20 #[.agg #[.int .i64 (hiW b), .int .u64 (loW b)]] W (RetZ W b))) (sb : Hid (b.natAbs < 65536 ^ 9)) (SG : Hid (∀ W, Calls Try.prog 23 #[.agg #[.int .i64 (hiW b), .int .u64 (loW b)]] W (RetV W (.int .i64 s)))) (hs : (s == 0) = false) (OM : Hid (∀ W, Calls Try.prog 16 #[.int .i64 (-1)] W (RetW W b))) (w : World) :
    Calls Try.prog 8 #[.agg #[.int .i64 (hiW a), .int .u64 (loW a)], .agg #[.int .i64 (hiW b), .int .u64 (loW b)]] w (RetV w (.bool true)) := by
  go_enter Try.func8, Try.ntmps8
  go_wp2_with fail
  have KK := (((PairsK.nil w).more (.int .i64 (hiW a)) (.int .u64 (loW a)) 24).more (.int .i64 (hiW b)) (.int .u64 (loW b)) 24)
  try simp only [World.size_alloc] at KK
  generalize ((w.alloc (.cells #[.int .i64 (hiW a), .int .u64 (loW a)] 24)).alloc (.cells #[.int .i64 (hiW b), .int .u64 (loW b)] 24)) = w0 at *
  have lt0 : w.heap.size + 1 < w0.heap.size := (KK.head).lt
  have lt1 : w.heap.size < w0.heap.size := (KK.tail.head).lt
  obtain ⟨lo, hlo⟩ : ∃ lo, lo + 1 = w0.heap.size := ⟨w0.heap.size - 1, by omega⟩
  have la0 : w.heap.size + 1 ≤ lo := by omega
  have la1 : w.heap.size ≤ lo := by omega
  have st : PreD lo (PairsK w [(w.heap.size + 1, .int .i64 (hiW b), .int .u64 (loW b)), (w.heap.size, .int .i64 (hiW a), .int .u64 (loW a))]) w0 [] := ⟨PairsK.keptZ w _ lo (by simp <;> omega) (by omega), KK, by omega, (fun b h => by cases h), (fun b h => by cases h), List.nodup_nil⟩
  clear hlo KK lt0 lt1
  go_cut [5, 6] (fun v v' wx => DivCutD lo (PairsK w [(w.heap.size + 1, .int .i64 (hiW b), .int .u64 (loW b)), (w.heap.size, .int .i64 (hiW a), .int .u64 (loW a))]) (a) (b) v v' wx)
  case first =>
    obtain ⟨_, ja0, jb0, _, _⟩ := st.k.tail.head
    obtain ⟨_, ja1, jb1, _, _⟩ := st.k.head
    have ⟨gp0, gq0⟩ := behindG st.lt la0
    have ⟨gp1, gq1⟩ := behindG st.lt la1
    go_region_held3 (fun w' => w'.cell? ⟨w.heap.size, 0, none⟩ = some (.int .i64 (hiW a)) ∧ w'.cell? ⟨w.heap.size, 1, none⟩ = some (.int .u64 (loW a)) ∧ w'.cell? ⟨w.heap.size + 1, 0, none⟩ = some (.int .i64 (hiW b)) ∧ w'.cell? ⟨w.heap.size + 1, 1, none⟩ = some (.int .u64 (loW b))) (first | (with_reducible exact ⟨st.k.tail.head.c0, st.k.tail.head.c1, st.k.head.c0, st.k.head.c1⟩) | (with_reducible exact ⟨st.alloc1.k.tail.head.c0, st.alloc1.k.tail.head.c1, st.alloc1.k.head.c0, st.alloc1.k.head.c1⟩) | (with_reducible exact ⟨st.alloc2.k.tail.head.c0, st.alloc2.k.tail.head.c1, st.alloc2.k.head.c0, st.alloc2.k.head.c1⟩) | (with_reducible exact ⟨st.drew.k.tail.head.c0, st.drew.k.tail.head.c1, st.drew.k.head.c0, st.drew.k.head.c1⟩) | (with_reducible exact ⟨st.alloc1.drew.k.tail.head.c0, st.alloc1.drew.k.tail.head.c1, st.alloc1.drew.k.head.c0, st.alloc1.drew.k.head.c1⟩) | (with_reducible exact ⟨st.alloc2.drew.k.tail.head.c0, st.alloc2.drew.k.tail.head.c1, st.alloc2.drew.k.head.c0, st.alloc2.drew.k.head.c1⟩) | go_keep)
      (first
        | (go_at_call 20; (with_reducible refine (Oa.out _).mono ?_); rintro e x ⟨p1, A1, n1, c1, rfl, z1, k⟩
           have l1 := z1.small sa.out
           with_reducible (first | replace st := st.below k | replace st := st.alloc1.below k | replace st := st.alloc2.below k | replace st := st.drew.below k | replace st := st.alloc1.drew.below k | replace st := st.alloc2.drew.below k)
           clear k
           obtain ⟨_, ka0, kb0, _, _⟩ := st.k.tail.head
           obtain ⟨_, ka1, kb1, _, _⟩ := st.k.head
           obtain ⟨gp0, gq0⟩ := behindG st.lt la0
           try obtain ⟨gr0, gs0⟩ := behindG (st.ge _ (List.mem_cons_self ..)) la0
           try obtain ⟨gt0, gu0⟩ := behindG (st.ge _ (List.mem_cons_of_mem _ (List.mem_cons_self ..))) la0
           obtain ⟨gp1, gq1⟩ := behindG st.lt la1
           try obtain ⟨gr1, gs1⟩ := behindG (st.ge _ (List.mem_cons_self ..)) la1
           try obtain ⟨gt1, gu1⟩ := behindG (st.ge _ (List.mem_cons_of_mem _ (List.mem_cons_self ..))) la1
           try obtain ⟨_, y0, y1, y2, y3⟩ := st.al _ (List.mem_cons_self ..)
           try obtain ⟨_, y4, y5, y6, y7⟩ := st.al _ (List.mem_cons_of_mem _ (List.mem_cons_self ..)))
        | (go_at_call 20; (with_reducible refine (Ob.out _).mono ?_); rintro e x ⟨p2, A2, n2, c2, rfl, z2, k⟩
           have l2 := z2.small sb.out
           with_reducible (first | replace z1 := z1.below k | replace z1 := (z1.below (below_box _ _)).below k | replace z1 := z1.drew.below k | replace z1 := (z1.below (below_box _ _)).drew.below k | replace z1 := ((z1.below (below_box _ _)).below (below_box _ _)).below k | replace z1 := ((z1.below (below_box _ _)).below (below_box _ _)).drew.below k)
           with_reducible (first | replace st := st.below k | replace st := st.alloc1.below k | replace st := st.alloc2.below k | replace st := st.drew.below k | replace st := st.alloc1.drew.below k | replace st := st.alloc2.drew.below k)
           clear k
           obtain ⟨_, ka0, kb0, _, _⟩ := st.k.tail.head
           obtain ⟨_, ka1, kb1, _, _⟩ := st.k.head
           obtain ⟨gp0, gq0⟩ := behindG st.lt la0
           try obtain ⟨gr0, gs0⟩ := behindG (st.ge _ (List.mem_cons_self ..)) la0
           try obtain ⟨gt0, gu0⟩ := behindG (st.ge _ (List.mem_cons_of_mem _ (List.mem_cons_self ..))) la0
           obtain ⟨gp1, gq1⟩ := behindG st.lt la1
           try obtain ⟨gr1, gs1⟩ := behindG (st.ge _ (List.mem_cons_self ..)) la1
           try obtain ⟨gt1, gu1⟩ := behindG (st.ge _ (List.mem_cons_of_mem _ (List.mem_cons_self ..))) la1
           try obtain ⟨_, y0, y1, y2, y3⟩ := st.al _ (List.mem_cons_self ..)
           try obtain ⟨_, y4, y5, y6, y7⟩ := st.al _ (List.mem_cons_of_mem _ (List.mem_cons_self ..))))
    all_goals
      go_wp2_with fail
      go_meet
      refine ⟨_, _, p1, A1, n1, c1, p2, A2, n2, c2, rfl, rfl, ?_⟩
      with_reducible first | exact st.fin1a z1 z2 | exact st.fin1b z1 z2 | exact st.fin2a z1 z2 | exact st.fin2b z1 z2 | exact st.fin3a z1 z2 | exact st.fin3b z1 z2
  case rest =>
  clear st
  obtain ⟨gx, gy, px, Ax, nx, cx, py, Ay, ny, cy, rfl, rfl, s0⟩ := hcut
  have HR : RK w a b gx px Ax nx cx gy py Ay ny cy wc := ⟨s0.k, s0.bq, s0.br, s0.zq, s0.zr⟩
  clear s0 la0 la1 lo
  go_wp2_with fail
  go_loopw [7] (fun v7 wr => RRel w a b gx px Ax nx cx gy py Ay ny cy v7 wr) (fun v7 _ => (2 - intOf v7).toNat)
  case atStart => exact ⟨0, .inl rfl, rfl, HR⟩
  case round =>
    clear HR
    obtain ⟨i, hi, rfl, hk⟩ := hrel
    rcases hi with rfl | rfl | rfl
    · obtain ⟨_, a0, a1, _, _⟩ := hk.kk.tail.head
      obtain ⟨_, b0, b1, _, _⟩ := hk.kk.head
      go_wp2_with fail
      refine (FL.out _).mono ?_
      rintro o w1 ⟨rfl, k⟩
      replace hk := hk.below k
      clear k a0 a1 b0 b1
      obtain ⟨_, a0, a1, _, _⟩ := (hk.below (below_thru (below_box _ (.cells #[.int .i64 0, .int .u64 0] 24)) (below_box _ (.cells #[.int .i64 0, .int .u64 0] 24)))).kk.tail.head
      obtain ⟨_, b0, b1, _, _⟩ := (hk.below (below_thru (below_box _ (.cells #[.int .i64 0, .int .u64 0] 24)) (below_box _ (.cells #[.int .i64 0, .int .u64 0] 24)))).kk.head
      go_wp2_with fail
      have BB := below_thru (below_box w1 (.cells #[.int .i64 0, .int .u64 0] 24)) (below_box _ (.cells #[.int .i64 0, .int .u64 0] 24))
      have PQ := (Pair.new w1 (.int .i64 0) (.int .u64 0) 24).below (below_box _ (.cells #[.int .i64 0, .int .u64 0] 24))
      have PR := Pair.new (w1.alloc (.cells #[.int .i64 0, .int .u64 0] 24)) (.int .i64 0) (.int .u64 0) 24
      rw [World.size_alloc] at PR
      have hg := hk.kk.hb.size
      generalize (w1.alloc (.cells #[.int .i64 0, .int .u64 0] 24)).alloc (.cells #[.int .i64 0, .int .u64 0] 24) = w2 at *
      replace hk := hk.below BB
      go_wp2_with fail
      clear BB PQ PR hg
      clear a0 a1 b0 b1
      generalize w1.heap.size = g at *
      have sn : ¬ s = 0 := by rw [beq_eq_false_iff_ne] at hs; exact hs
      have sn1 : (s != 0) = true := by simp [sn]
      have sn2 : (!(s == 0)) = true := by simp [sn]
      have sn3 : decide (s = 0) = false := by simp [sn]
      obtain ⟨_, a0, a1, _, _⟩ := hk.kk.tail.head
      obtain ⟨_, b0, b1, _, _⟩ := hk.kk.head
      replace hk := hk.below (Below.refl _ _).drew
      refine wp_region_noPanic ?_
      refine wp_region_held_drew (S := (fun w' => w'.cell? ⟨w.heap.size + 1, 0, none⟩ = some (.int .i64 (hiW b)) ∧ w'.cell? ⟨w.heap.size + 1, 1, none⟩ = some (.int .u64 (loW b)))) (by kernel_rfl) ⟨hk.kk.head.c0, hk.kk.head.c1⟩ (fun hHeld => ?_)
      refine wpAnyH_take (i := 0) (oi := { dst := some 40, op := Op.load 24 (Operand.tmp 3), type := 24, pos := "law.go:67", after := #[], guard := none }) (v := ?_) rfl (by kernel_rfl) (by kernel_rfl) (by kernel_rfl) (fun _ _ _ h => h) (Or.inl ⟨by rfl, ?_⟩) (by assumption) ?_
      rotate_left
      · intro w hSw
        try dsimp only at hSw
        go_simp
        any_goals with_reducible rfl
      try simp only [Act.put, List.setIfInBounds_toArray, List.set_cons_zero, List.set_cons_succ]
      refine wpAnyH_ready (rs := [1]) (by kernel_rfl) (by simp) ?_
      refine AllReadyH.cons (o := { dst := some 41, op := Op.call { callee := Callee.value (Operand.func 23), args := #[Operand.tmp 40], argTypes := #[24] }, type := 3, pos := "law.go:67", after := #[{ on := 0, ground := Ground.data }], guard := none }) rfl (fun K hK => ?_) AllReadyH.nil
      go_simp
      go_at_call 23
      refine (SG.out _).mono ?_
      rintro o wx ⟨rfl, k⟩
      replace hk := hk.below k
      clear k
      refine hK.out _ _ (⟨hk.kk.head.c0, hk.kk.head.c1⟩) (fun hHeld => ?_)
      clear hK K
      try simp only [Act.put, List.setIfInBounds_toArray, List.set_cons_zero, List.set_cons_succ]
      refine wpAnyH_take (i := 2) (oi := { dst := some 42, op := Op.binOp BinOp.eql 3 (Operand.tmp 41) (Operand.const (Value.int IntKind.i64 0)) 3, type := 4, pos := "law.go:67", after := #[{ on := 1, ground := Ground.data }], guard := none }) (v := ?_) rfl (by kernel_rfl) (by kernel_rfl) (by kernel_rfl) (fun _ _ _ h => h) (Or.inl ⟨by rfl, ?_⟩) (by assumption) ?_
      rotate_left
      · intro w hSw
        try dsimp only at hSw
        go_simp
        any_goals with_reducible rfl
      try simp only [Act.put, List.setIfInBounds_toArray, List.set_cons_zero, List.set_cons_succ]
      refine wpAnyH_take (i := 3) (oi := { dst := some 43, op := Op.move (Operand.tmp 42), type := 4, pos := "law.go:67", after := #[{ on := 2, ground := Ground.data }, { on := 1, ground := Ground.chain }], guard := none }) (v := ?_) rfl (by kernel_rfl) (by kernel_rfl) (by kernel_rfl) (fun _ _ _ h => h) (Or.inl ⟨by rfl, ?_⟩) (by assumption) ?_
      rotate_left
      · intro w hSw
        try dsimp only at hSw
        go_simp
        any_goals with_reducible rfl
      try simp only [Act.put, List.setIfInBounds_toArray, List.set_cons_zero, List.set_cons_succ]
      refine wpAnyH_take (i := 4) (oi := { dst := some 44, op := Op.move (Operand.tmp 10), type := 25, pos := "law.go:67", after := #[{ on := 3, ground := Ground.guard }], guard := some (3, true) }) (v := undef) rfl (by kernel_rfl) (by kernel_rfl) (by kernel_rfl) (fun _ _ _ h => h) (Or.inr ⟨by rfl, rfl⟩) (by assumption) ?_
      try simp only [Act.put, List.setIfInBounds_toArray, List.set_cons_zero, List.set_cons_succ]
      refine wpAnyH_take (i := 5) (oi := { dst := some 45, op := Op.binOp BinOp.neq 25 (Operand.tmp 44) (Operand.const (Value.int IntKind.i64 3)) 25, type := 4, pos := "law.go:67", after := #[{ on := 4, ground := Ground.data }, { on := 3, ground := Ground.guard }], guard := some (3, true) }) (v := undef) rfl (by kernel_rfl) (by kernel_rfl) (by kernel_rfl) (fun _ _ _ h => h) (Or.inr ⟨by rfl, rfl⟩) (by assumption) ?_
      try simp only [Act.put, List.setIfInBounds_toArray, List.set_cons_zero, List.set_cons_succ]
      refine wpAnyH_take (i := 6) (oi := { dst := some 46, op := Op.pick (Operand.tmp 43) (Operand.tmp 45) (Operand.const (Value.bool false)), type := 4, pos := "law.go:67", after := #[{ on := 3, ground := Ground.data }, { on := 5, ground := Ground.data }], guard := none }) (v := ?_) rfl (by kernel_rfl) (by kernel_rfl) (by kernel_rfl) (fun _ _ _ h => h) (Or.inl ⟨by rfl, ?_⟩) (by assumption) ?_
      rotate_left
      · intro w hSw
        try dsimp only at hSw
        go_simp
        any_goals with_reducible rfl
      try simp only [Act.put, List.setIfInBounds_toArray, List.set_cons_zero, List.set_cons_succ]
      refine wpAnyH_take (i := 7) (oi := { dst := some 47, op := Op.move (Operand.tmp 46), type := 4, pos := "law.go:67", after := #[{ on := 6, ground := Ground.data }, { on := 3, ground := Ground.chain }], guard := none }) (v := ?_) rfl (by kernel_rfl) (by kernel_rfl) (by kernel_rfl) (fun _ _ _ h => h) (Or.inl ⟨by rfl, ?_⟩) (by assumption) ?_
      rotate_left
      · intro w hSw
        try dsimp only at hSw
        go_simp
        any_goals with_reducible rfl
      try simp only [Act.put, List.setIfInBounds_toArray, List.set_cons_zero, List.set_cons_succ]
      refine wpAnyH_take (i := 8) (oi := { dst := some 48, op := Op.load 24 (Operand.tmp 3), type := 24, pos := "law.go:67", after := #[{ on := 7, ground := Ground.guard }], guard := some (7, false) }) (v := ?_) rfl (by kernel_rfl) (by kernel_rfl) (by kernel_rfl) (fun _ _ _ h => h) (Or.inl ⟨by rfl, ?_⟩) (by assumption) ?_
      rotate_left
      · intro w hSw
        try dsimp only at hSw
        go_simp
        any_goals with_reducible rfl
      try simp only [Act.put, List.setIfInBounds_toArray, List.set_cons_zero, List.set_cons_succ]
      refine wpAnyH_ready (rs := [9]) (by kernel_rfl) (by simp) ?_
      refine AllReadyH.cons (o := { dst := some 49, op := Op.call { callee := Callee.value (Operand.func 23), args := #[Operand.tmp 48], argTypes := #[24] }, type := 3, pos := "law.go:67", after := #[{ on := 8, ground := Ground.data }, { on := 7, ground := Ground.chain }, { on := 7, ground := Ground.guard }], guard := some (7, false) }) rfl (fun K hK => ?_) AllReadyH.nil
      go_simp
      go_at_call 23
      refine (SG.out _).mono ?_
      rintro o wx ⟨rfl, k⟩
      replace hk := hk.below k
      clear k
      refine hK.out _ _ (⟨hk.kk.head.c0, hk.kk.head.c1⟩) (fun hHeld => ?_)
      clear hK K
      try simp only [Act.put, List.setIfInBounds_toArray, List.set_cons_zero, List.set_cons_succ]
      refine wpAnyH_take (i := 10) (oi := { dst := some 50, op := Op.binOp BinOp.neq 3 (Operand.tmp 49) (Operand.const (Value.int IntKind.i64 0)) 3, type := 4, pos := "law.go:67", after := #[{ on := 9, ground := Ground.data }, { on := 7, ground := Ground.guard }], guard := some (7, false) }) (v := ?_) rfl (by kernel_rfl) (by kernel_rfl) (by kernel_rfl) (fun _ _ _ h => h) (Or.inl ⟨by rfl, ?_⟩) (by assumption) ?_
      rotate_left
      · intro w hSw
        try dsimp only at hSw
        go_simp
        any_goals with_reducible rfl
      try simp only [Act.put, List.setIfInBounds_toArray, List.set_cons_zero, List.set_cons_succ]
      refine wpAnyH_take (i := 11) (oi := { dst := some 51, op := Op.move (Operand.tmp 50), type := 4, pos := "law.go:67", after := #[{ on := 10, ground := Ground.data }, { on := 9, ground := Ground.chain }, { on := 7, ground := Ground.guard }], guard := some (7, false) }) (v := ?_) rfl (by kernel_rfl) (by kernel_rfl) (by kernel_rfl) (fun _ _ _ h => h) (Or.inl ⟨by rfl, ?_⟩) (by assumption) ?_
      rotate_left
      · intro w hSw
        try dsimp only at hSw
        go_simp
        any_goals with_reducible rfl
      try simp only [Act.put, List.setIfInBounds_toArray, List.set_cons_zero, List.set_cons_succ]
      refine wpAnyH_take (i := 12) (oi := { dst := some 52, op := Op.move (Operand.tmp 10), type := 25, pos := "law.go:67", after := #[{ on := 11, ground := Ground.guard }], guard := some (11, true) }) (v := ?_) rfl (by kernel_rfl) (by kernel_rfl) (by kernel_rfl) (fun _ _ _ h => h) (Or.inl ⟨by rfl, ?_⟩) (by assumption) ?_
      rotate_left
      · intro w hSw
        try dsimp only at hSw
        go_simp
        any_goals with_reducible rfl
      try simp only [Act.put, List.setIfInBounds_toArray, List.set_cons_zero, List.set_cons_succ]
      refine wpAnyH_take (i := 13) (oi := { dst := some 53, op := Op.binOp BinOp.neq 25 (Operand.tmp 52) (Operand.const (Value.int IntKind.i64 2)) 25, type := 4, pos := "law.go:67", after := #[{ on := 12, ground := Ground.data }, { on := 11, ground := Ground.guard }], guard := some (11, true) }) (v := ?_) rfl (by kernel_rfl) (by kernel_rfl) (by kernel_rfl) (fun _ _ _ h => h) (Or.inl ⟨by rfl, ?_⟩) (by assumption) ?_
      rotate_left
      · intro w hSw
        try dsimp only at hSw
        go_simp
        any_goals with_reducible rfl
      try simp only [Act.put, List.setIfInBounds_toArray, List.set_cons_zero, List.set_cons_succ]
      refine wpAnyH_take (i := 14) (oi := { dst := some 54, op := Op.move (Operand.tmp 53), type := 4, pos := "law.go:67", after := #[{ on := 13, ground := Ground.data }, { on := 11, ground := Ground.chain }, { on := 11, ground := Ground.guard }], guard := some (11, true) }) (v := ?_) rfl (by kernel_rfl) (by kernel_rfl) (by kernel_rfl) (fun _ _ _ h => h) (Or.inl ⟨by rfl, ?_⟩) (by assumption) ?_
      rotate_left
      · intro w hSw
        try dsimp only at hSw
        go_simp
        any_goals with_reducible rfl
      try simp only [Act.put, List.setIfInBounds_toArray, List.set_cons_zero, List.set_cons_succ]
      refine wpAnyH_take (i := 15) (oi := { dst := some 55, op := Op.load 24 (Operand.tmp 3), type := 24, pos := "law.go:67", after := #[{ on := 14, ground := Ground.guard }], guard := some (14, false) }) (v := ?_) rfl (by kernel_rfl) (by kernel_rfl) (by kernel_rfl) (fun _ _ _ h => h) (Or.inl ⟨by rfl, ?_⟩) (by assumption) ?_
      rotate_left
      · intro w hSw
        try dsimp only at hSw
        go_simp
        any_goals with_reducible rfl
      try simp only [Act.put, List.setIfInBounds_toArray, List.set_cons_zero, List.set_cons_succ]
      refine wpAnyH_ready (rs := [16]) (by kernel_rfl) (by simp) ?_
      refine AllReadyH.cons (o := { dst := some 56, op := Op.call { callee := Callee.value (Operand.func 16), args := #[Operand.const (Value.int IntKind.i64 (-1))], argTypes := #[2] }, type := 24, pos := "law.go:67", after := #[{ on := 14, ground := Ground.chain }, { on := 14, ground := Ground.guard }], guard := some (14, false) }) rfl (fun K hK => ?_) AllReadyH.nil
      go_simp
      go_at_call 16
      refine (OM.out _).mono ?_
      rintro o wx ⟨rfl, k⟩
      replace hk := hk.below k
      clear k
      refine hK.out _ _ (⟨hk.kk.head.c0, hk.kk.head.c1⟩) (fun hHeld => ?_)
      clear hK K
      try simp only [Act.put, List.setIfInBounds_toArray, List.set_cons_zero, List.set_cons_succ]
      refine wpAnyH_take (i := 17) (oi := { dst := some 57, op := Op.binOp BinOp.neq 24 (Operand.tmp 55) (Operand.tmp 56) 24, type := 4, pos := "law.go:67", after := #[{ on := 15, ground := Ground.data }, { on := 16, ground := Ground.data }, { on := 14, ground := Ground.guard }], guard := some (14, false) }) (v := ?_) rfl (by kernel_rfl) (by kernel_rfl) (by kernel_rfl) (fun _ _ _ h => h) (Or.inl ⟨by rfl, ?_⟩) (by assumption) ?_
      rotate_left
      · intro w hSw
        try dsimp only at hSw
        go_simp
        any_goals with_reducible rfl
      try simp only [Act.put, List.setIfInBounds_toArray, List.set_cons_zero, List.set_cons_succ]
      refine wpAnyH_take (i := 18) (oi := { dst := some 58, op := Op.pick (Operand.tmp 54) (Operand.const (Value.bool true)) (Operand.tmp 57), type := 4, pos := "law.go:67", after := #[{ on := 14, ground := Ground.data }, { on := 17, ground := Ground.data }, { on := 11, ground := Ground.guard }], guard := some (11, true) }) (v := ?_) rfl (by kernel_rfl) (by kernel_rfl) (by kernel_rfl) (fun _ _ _ h => h) (Or.inl ⟨by rfl, ?_⟩) (by assumption) ?_
      rotate_left
      · intro w hSw
        try dsimp only at hSw
        go_simp
        any_goals with_reducible rfl
      try simp only [Act.put, List.setIfInBounds_toArray, List.set_cons_zero, List.set_cons_succ]
      refine wpAnyH_take (i := 19) (oi := { dst := some 59, op := Op.pick (Operand.tmp 51) (Operand.tmp 58) (Operand.const (Value.bool false)), type := 4, pos := "law.go:67", after := #[{ on := 11, ground := Ground.data }, { on := 18, ground := Ground.data }, { on := 7, ground := Ground.guard }], guard := some (7, false) }) (v := ?_) rfl (by kernel_rfl) (by kernel_rfl) (by kernel_rfl) (fun _ _ _ h => h) (Or.inl ⟨by rfl, ?_⟩) (by assumption) ?_
      rotate_left
      · intro w hSw
        try dsimp only at hSw
        go_simp
        any_goals with_reducible rfl
      try simp only [Act.put, List.setIfInBounds_toArray, List.set_cons_zero, List.set_cons_succ]
      refine wpAnyH_take (i := 20) (oi := { dst := some 60, op := Op.pick (Operand.tmp 47) (Operand.const (Value.bool true)) (Operand.tmp 59), type := 4, pos := "law.go:67", after := #[{ on := 7, ground := Ground.data }, { on := 19, ground := Ground.data }], guard := none }) (v := ?_) rfl (by kernel_rfl) (by kernel_rfl) (by kernel_rfl) (fun _ _ _ h => h) (Or.inl ⟨by rfl, ?_⟩) (by assumption) ?_
      rotate_left
      · intro w hSw
        try dsimp only at hSw
        go_simp
        any_goals with_reducible rfl
      try simp only [Act.put, List.setIfInBounds_toArray, List.set_cons_zero, List.set_cons_succ]
      refine wpAnyH_done (by kernel_rfl) ?_ _
      refine NoPanic.normal ?_
      go_wp2_with fail
      go_roundw
      case rel => exact ⟨1, .inr (.inl rfl), rfl, hk⟩
      case measure => simp [intOf]
    · obtain ⟨_, a0, a1, _, _⟩ := hk.kk.tail.head
      obtain ⟨_, b0, b1, _, _⟩ := hk.kk.head
      go_wp2_with fail
      refine (FL.out _).mono ?_
      rintro o w1 ⟨rfl, k⟩
      replace hk := hk.below k
      clear k a0 a1 b0 b1
      obtain ⟨_, a0, a1, _, _⟩ := (hk.below (below_thru (below_box _ (.cells #[.int .i64 0, .int .u64 0] 24)) (below_box _ (.cells #[.int .i64 0, .int .u64 0] 24)))).kk.tail.head
      obtain ⟨_, b0, b1, _, _⟩ := (hk.below (below_thru (below_box _ (.cells #[.int .i64 0, .int .u64 0] 24)) (below_box _ (.cells #[.int .i64 0, .int .u64 0] 24)))).kk.head
      go_wp2_with fail
      have BB := below_thru (below_box w1 (.cells #[.int .i64 0, .int .u64 0] 24)) (below_box _ (.cells #[.int .i64 0, .int .u64 0] 24))
      have PQ := (Pair.new w1 (.int .i64 0) (.int .u64 0) 24).below (below_box _ (.cells #[.int .i64 0, .int .u64 0] 24))
      have PR := Pair.new (w1.alloc (.cells #[.int .i64 0, .int .u64 0] 24)) (.int .i64 0) (.int .u64 0) 24
      rw [World.size_alloc] at PR
      have hg := hk.kk.hb.size
      generalize (w1.alloc (.cells #[.int .i64 0, .int .u64 0] 24)).alloc (.cells #[.int .i64 0, .int .u64 0] 24) = w2 at *
      refine (TR.out _).mono ?_
      rintro o w3 ⟨rfl, k⟩
      replace BB := below_thru BB k
      replace PQ := PQ.below k
      replace PR := PR.below k
      clear k a0 a1 b0 b1
      obtain ⟨_, u0, u1, u2, u3⟩ := id PQ
      obtain ⟨_, v0, v1, v2, v3⟩ := id PR
      have i9 : w1.heap.size + 1 ≠ w1.heap.size := by omega
      replace BB := (((BB.setCell (p := ⟨w1.heap.size, 0, none⟩) (Nat.le_refl _) (.int .i64 0)).setCell (p := ⟨w1.heap.size, 1, none⟩) (Nat.le_refl _) (.int .u64 0)).setCell (p := ⟨w1.heap.size + 1, 0, none⟩) (by show _ ≤ w1.heap.size + 1; omega) (.int .i64 0)).setCell (p := ⟨w1.heap.size + 1, 1, none⟩) (by show _ ≤ w1.heap.size + 1; omega) (.int .u64 0)
      replace hk := hk.below BB
      go_wp2_with fail
      clear u0 u1 u2 u3 v0 v1 v2 v3 i9
      generalize (((w3.setCell ⟨w1.heap.size, 0, none⟩ (.int .i64 0)).setCell ⟨w1.heap.size, 1, none⟩ (.int .u64 0)).setCell ⟨w1.heap.size + 1, 0, none⟩ (.int .i64 0)).setCell ⟨w1.heap.size + 1, 1, none⟩ (.int .u64 0) = w4 at *
      clear BB PQ PR hg
      generalize w1.heap.size = g at *
      have sn : ¬ s = 0 := by rw [beq_eq_false_iff_ne] at hs; exact hs
      have sn1 : (s != 0) = true := by simp [sn]
      have sn2 : (!(s == 0)) = true := by simp [sn]
      have sn3 : decide (s = 0) = false := by simp [sn]
      obtain ⟨_, a0, a1, _, _⟩ := hk.kk.tail.head
      obtain ⟨_, b0, b1, _, _⟩ := hk.kk.head
      replace hk := hk.below (Below.refl _ _).drew
      refine wp_region_noPanic ?_
      refine wp_region_held_drew (S := (fun w' => w'.cell? ⟨w.heap.size + 1, 0, none⟩ = some (.int .i64 (hiW b)) ∧ w'.cell? ⟨w.heap.size + 1, 1, none⟩ = some (.int .u64 (loW b)))) (by kernel_rfl) ⟨hk.kk.head.c0, hk.kk.head.c1⟩ (fun hHeld => ?_)
      refine wpAnyH_take (i := 0) (oi := { dst := some 40, op := Op.load 24 (Operand.tmp 3), type := 24, pos := "law.go:67", after := #[], guard := none }) (v := ?_) rfl (by kernel_rfl) (by kernel_rfl) (by kernel_rfl) (fun _ _ _ h => h) (Or.inl ⟨by rfl, ?_⟩) (by assumption) ?_
      rotate_left
      · intro w hSw
        try dsimp only at hSw
        go_simp
        any_goals with_reducible rfl
      try simp only [Act.put, List.setIfInBounds_toArray, List.set_cons_zero, List.set_cons_succ]
      refine wpAnyH_ready (rs := [1]) (by kernel_rfl) (by simp) ?_
      refine AllReadyH.cons (o := { dst := some 41, op := Op.call { callee := Callee.value (Operand.func 23), args := #[Operand.tmp 40], argTypes := #[24] }, type := 3, pos := "law.go:67", after := #[{ on := 0, ground := Ground.data }], guard := none }) rfl (fun K hK => ?_) AllReadyH.nil
      go_simp
      go_at_call 23
      refine (SG.out _).mono ?_
      rintro o wx ⟨rfl, k⟩
      replace hk := hk.below k
      clear k
      refine hK.out _ _ (⟨hk.kk.head.c0, hk.kk.head.c1⟩) (fun hHeld => ?_)
      clear hK K
      try simp only [Act.put, List.setIfInBounds_toArray, List.set_cons_zero, List.set_cons_succ]
      refine wpAnyH_take (i := 2) (oi := { dst := some 42, op := Op.binOp BinOp.eql 3 (Operand.tmp 41) (Operand.const (Value.int IntKind.i64 0)) 3, type := 4, pos := "law.go:67", after := #[{ on := 1, ground := Ground.data }], guard := none }) (v := ?_) rfl (by kernel_rfl) (by kernel_rfl) (by kernel_rfl) (fun _ _ _ h => h) (Or.inl ⟨by rfl, ?_⟩) (by assumption) ?_
      rotate_left
      · intro w hSw
        try dsimp only at hSw
        go_simp
        any_goals with_reducible rfl
      try simp only [Act.put, List.setIfInBounds_toArray, List.set_cons_zero, List.set_cons_succ]
      refine wpAnyH_take (i := 3) (oi := { dst := some 43, op := Op.move (Operand.tmp 42), type := 4, pos := "law.go:67", after := #[{ on := 2, ground := Ground.data }, { on := 1, ground := Ground.chain }], guard := none }) (v := ?_) rfl (by kernel_rfl) (by kernel_rfl) (by kernel_rfl) (fun _ _ _ h => h) (Or.inl ⟨by rfl, ?_⟩) (by assumption) ?_
      rotate_left
      · intro w hSw
        try dsimp only at hSw
        go_simp
        any_goals with_reducible rfl
      try simp only [Act.put, List.setIfInBounds_toArray, List.set_cons_zero, List.set_cons_succ]
      refine wpAnyH_take (i := 4) (oi := { dst := some 44, op := Op.move (Operand.tmp 10), type := 25, pos := "law.go:67", after := #[{ on := 3, ground := Ground.guard }], guard := some (3, true) }) (v := undef) rfl (by kernel_rfl) (by kernel_rfl) (by kernel_rfl) (fun _ _ _ h => h) (Or.inr ⟨by rfl, rfl⟩) (by assumption) ?_
      try simp only [Act.put, List.setIfInBounds_toArray, List.set_cons_zero, List.set_cons_succ]
      refine wpAnyH_take (i := 5) (oi := { dst := some 45, op := Op.binOp BinOp.neq 25 (Operand.tmp 44) (Operand.const (Value.int IntKind.i64 3)) 25, type := 4, pos := "law.go:67", after := #[{ on := 4, ground := Ground.data }, { on := 3, ground := Ground.guard }], guard := some (3, true) }) (v := undef) rfl (by kernel_rfl) (by kernel_rfl) (by kernel_rfl) (fun _ _ _ h => h) (Or.inr ⟨by rfl, rfl⟩) (by assumption) ?_
      try simp only [Act.put, List.setIfInBounds_toArray, List.set_cons_zero, List.set_cons_succ]
      refine wpAnyH_take (i := 6) (oi := { dst := some 46, op := Op.pick (Operand.tmp 43) (Operand.tmp 45) (Operand.const (Value.bool false)), type := 4, pos := "law.go:67", after := #[{ on := 3, ground := Ground.data }, { on := 5, ground := Ground.data }], guard := none }) (v := ?_) rfl (by kernel_rfl) (by kernel_rfl) (by kernel_rfl) (fun _ _ _ h => h) (Or.inl ⟨by rfl, ?_⟩) (by assumption) ?_
      rotate_left
      · intro w hSw
        try dsimp only at hSw
        go_simp
        any_goals with_reducible rfl
      try simp only [Act.put, List.setIfInBounds_toArray, List.set_cons_zero, List.set_cons_succ]
      refine wpAnyH_take (i := 7) (oi := { dst := some 47, op := Op.move (Operand.tmp 46), type := 4, pos := "law.go:67", after := #[{ on := 6, ground := Ground.data }, { on := 3, ground := Ground.chain }], guard := none }) (v := ?_) rfl (by kernel_rfl) (by kernel_rfl) (by kernel_rfl) (fun _ _ _ h => h) (Or.inl ⟨by rfl, ?_⟩) (by assumption) ?_
      rotate_left
      · intro w hSw
        try dsimp only at hSw
        go_simp
        any_goals with_reducible rfl
      try simp only [Act.put, List.setIfInBounds_toArray, List.set_cons_zero, List.set_cons_succ]
      refine wpAnyH_take (i := 8) (oi := { dst := some 48, op := Op.load 24 (Operand.tmp 3), type := 24, pos := "law.go:67", after := #[{ on := 7, ground := Ground.guard }], guard := some (7, false) }) (v := ?_) rfl (by kernel_rfl) (by kernel_rfl) (by kernel_rfl) (fun _ _ _ h => h) (Or.inl ⟨by rfl, ?_⟩) (by assumption) ?_
      rotate_left
      · intro w hSw
        try dsimp only at hSw
        go_simp
        any_goals with_reducible rfl
      try simp only [Act.put, List.setIfInBounds_toArray, List.set_cons_zero, List.set_cons_succ]
      refine wpAnyH_ready (rs := [9]) (by kernel_rfl) (by simp) ?_
      refine AllReadyH.cons (o := { dst := some 49, op := Op.call { callee := Callee.value (Operand.func 23), args := #[Operand.tmp 48], argTypes := #[24] }, type := 3, pos := "law.go:67", after := #[{ on := 8, ground := Ground.data }, { on := 7, ground := Ground.chain }, { on := 7, ground := Ground.guard }], guard := some (7, false) }) rfl (fun K hK => ?_) AllReadyH.nil
      go_simp
      go_at_call 23
      refine (SG.out _).mono ?_
      rintro o wx ⟨rfl, k⟩
      replace hk := hk.below k
      clear k
      refine hK.out _ _ (⟨hk.kk.head.c0, hk.kk.head.c1⟩) (fun hHeld => ?_)
      clear hK K
      try simp only [Act.put, List.setIfInBounds_toArray, List.set_cons_zero, List.set_cons_succ]
      refine wpAnyH_take (i := 10) (oi := { dst := some 50, op := Op.binOp BinOp.neq 3 (Operand.tmp 49) (Operand.const (Value.int IntKind.i64 0)) 3, type := 4, pos := "law.go:67", after := #[{ on := 9, ground := Ground.data }, { on := 7, ground := Ground.guard }], guard := some (7, false) }) (v := ?_) rfl (by kernel_rfl) (by kernel_rfl) (by kernel_rfl) (fun _ _ _ h => h) (Or.inl ⟨by rfl, ?_⟩) (by assumption) ?_
      rotate_left
      · intro w hSw
        try dsimp only at hSw
        go_simp
        any_goals with_reducible rfl
      try simp only [Act.put, List.setIfInBounds_toArray, List.set_cons_zero, List.set_cons_succ]
      refine wpAnyH_take (i := 11) (oi := { dst := some 51, op := Op.move (Operand.tmp 50), type := 4, pos := "law.go:67", after := #[{ on := 10, ground := Ground.data }, { on := 9, ground := Ground.chain }, { on := 7, ground := Ground.guard }], guard := some (7, false) }) (v := ?_) rfl (by kernel_rfl) (by kernel_rfl) (by kernel_rfl) (fun _ _ _ h => h) (Or.inl ⟨by rfl, ?_⟩) (by assumption) ?_
      rotate_left
      · intro w hSw
        try dsimp only at hSw
        go_simp
        any_goals with_reducible rfl
      try simp only [Act.put, List.setIfInBounds_toArray, List.set_cons_zero, List.set_cons_succ]
      refine wpAnyH_take (i := 12) (oi := { dst := some 52, op := Op.move (Operand.tmp 10), type := 25, pos := "law.go:67", after := #[{ on := 11, ground := Ground.guard }], guard := some (11, true) }) (v := ?_) rfl (by kernel_rfl) (by kernel_rfl) (by kernel_rfl) (fun _ _ _ h => h) (Or.inl ⟨by rfl, ?_⟩) (by assumption) ?_
      rotate_left
      · intro w hSw
        try dsimp only at hSw
        go_simp
        any_goals with_reducible rfl
      try simp only [Act.put, List.setIfInBounds_toArray, List.set_cons_zero, List.set_cons_succ]
      refine wpAnyH_take (i := 13) (oi := { dst := some 53, op := Op.binOp BinOp.neq 25 (Operand.tmp 52) (Operand.const (Value.int IntKind.i64 2)) 25, type := 4, pos := "law.go:67", after := #[{ on := 12, ground := Ground.data }, { on := 11, ground := Ground.guard }], guard := some (11, true) }) (v := ?_) rfl (by kernel_rfl) (by kernel_rfl) (by kernel_rfl) (fun _ _ _ h => h) (Or.inl ⟨by rfl, ?_⟩) (by assumption) ?_
      rotate_left
      · intro w hSw
        try dsimp only at hSw
        go_simp
        any_goals with_reducible rfl
      try simp only [Act.put, List.setIfInBounds_toArray, List.set_cons_zero, List.set_cons_succ]
      refine wpAnyH_take (i := 14) (oi := { dst := some 54, op := Op.move (Operand.tmp 53), type := 4, pos := "law.go:67", after := #[{ on := 13, ground := Ground.data }, { on := 11, ground := Ground.chain }, { on := 11, ground := Ground.guard }], guard := some (11, true) }) (v := ?_) rfl (by kernel_rfl) (by kernel_rfl) (by kernel_rfl) (fun _ _ _ h => h) (Or.inl ⟨by rfl, ?_⟩) (by assumption) ?_
      rotate_left
      · intro w hSw
        try dsimp only at hSw
        go_simp
        any_goals with_reducible rfl
      try simp only [Act.put, List.setIfInBounds_toArray, List.set_cons_zero, List.set_cons_succ]
      refine wpAnyH_take (i := 15) (oi := { dst := some 55, op := Op.load 24 (Operand.tmp 3), type := 24, pos := "law.go:67", after := #[{ on := 14, ground := Ground.guard }], guard := some (14, false) }) (v := ?_) rfl (by kernel_rfl) (by kernel_rfl) (by kernel_rfl) (fun _ _ _ h => h) (Or.inl ⟨by rfl, ?_⟩) (by assumption) ?_
      rotate_left
      · intro w hSw
        try dsimp only at hSw
        go_simp
        any_goals with_reducible rfl
      try simp only [Act.put, List.setIfInBounds_toArray, List.set_cons_zero, List.set_cons_succ]
      refine wpAnyH_ready (rs := [16]) (by kernel_rfl) (by simp) ?_
      refine AllReadyH.cons (o := { dst := some 56, op := Op.call { callee := Callee.value (Operand.func 16), args := #[Operand.const (Value.int IntKind.i64 (-1))], argTypes := #[2] }, type := 24, pos := "law.go:67", after := #[{ on := 14, ground := Ground.chain }, { on := 14, ground := Ground.guard }], guard := some (14, false) }) rfl (fun K hK => ?_) AllReadyH.nil
      go_simp
      go_at_call 16
      refine (OM.out _).mono ?_
      rintro o wx ⟨rfl, k⟩
      replace hk := hk.below k
      clear k
      refine hK.out _ _ (⟨hk.kk.head.c0, hk.kk.head.c1⟩) (fun hHeld => ?_)
      clear hK K
      try simp only [Act.put, List.setIfInBounds_toArray, List.set_cons_zero, List.set_cons_succ]
      refine wpAnyH_take (i := 17) (oi := { dst := some 57, op := Op.binOp BinOp.neq 24 (Operand.tmp 55) (Operand.tmp 56) 24, type := 4, pos := "law.go:67", after := #[{ on := 15, ground := Ground.data }, { on := 16, ground := Ground.data }, { on := 14, ground := Ground.guard }], guard := some (14, false) }) (v := ?_) rfl (by kernel_rfl) (by kernel_rfl) (by kernel_rfl) (fun _ _ _ h => h) (Or.inl ⟨by rfl, ?_⟩) (by assumption) ?_
      rotate_left
      · intro w hSw
        try dsimp only at hSw
        go_simp
        any_goals with_reducible rfl
      try simp only [Act.put, List.setIfInBounds_toArray, List.set_cons_zero, List.set_cons_succ]
      refine wpAnyH_take (i := 18) (oi := { dst := some 58, op := Op.pick (Operand.tmp 54) (Operand.const (Value.bool true)) (Operand.tmp 57), type := 4, pos := "law.go:67", after := #[{ on := 14, ground := Ground.data }, { on := 17, ground := Ground.data }, { on := 11, ground := Ground.guard }], guard := some (11, true) }) (v := ?_) rfl (by kernel_rfl) (by kernel_rfl) (by kernel_rfl) (fun _ _ _ h => h) (Or.inl ⟨by rfl, ?_⟩) (by assumption) ?_
      rotate_left
      · intro w hSw
        try dsimp only at hSw
        go_simp
        any_goals with_reducible rfl
      try simp only [Act.put, List.setIfInBounds_toArray, List.set_cons_zero, List.set_cons_succ]
      refine wpAnyH_take (i := 19) (oi := { dst := some 59, op := Op.pick (Operand.tmp 51) (Operand.tmp 58) (Operand.const (Value.bool false)), type := 4, pos := "law.go:67", after := #[{ on := 11, ground := Ground.data }, { on := 18, ground := Ground.data }, { on := 7, ground := Ground.guard }], guard := some (7, false) }) (v := ?_) rfl (by kernel_rfl) (by kernel_rfl) (by kernel_rfl) (fun _ _ _ h => h) (Or.inl ⟨by rfl, ?_⟩) (by assumption) ?_
      rotate_left
      · intro w hSw
        try dsimp only at hSw
        go_simp
        any_goals with_reducible rfl
      try simp only [Act.put, List.setIfInBounds_toArray, List.set_cons_zero, List.set_cons_succ]
      refine wpAnyH_take (i := 20) (oi := { dst := some 60, op := Op.pick (Operand.tmp 47) (Operand.const (Value.bool true)) (Operand.tmp 59), type := 4, pos := "law.go:67", after := #[{ on := 7, ground := Ground.data }, { on := 19, ground := Ground.data }], guard := none }) (v := ?_) rfl (by kernel_rfl) (by kernel_rfl) (by kernel_rfl) (fun _ _ _ h => h) (Or.inl ⟨by rfl, ?_⟩) (by assumption) ?_
      rotate_left
      · intro w hSw
        try dsimp only at hSw
        go_simp
        any_goals with_reducible rfl
      try simp only [Act.put, List.setIfInBounds_toArray, List.set_cons_zero, List.set_cons_succ]
      refine wpAnyH_done (by kernel_rfl) ?_ _
      refine NoPanic.normal ?_
      go_wp2_with fail
      go_roundw
      case rel => exact ⟨2, .inr (.inr rfl), rfl, hk⟩
      case measure => simp [intOf]
    · go_wp2_with fail
      refine (alive3 _).mono ?_
      rintro e w9 ⟨rfl, k⟩
      have HB := (hk.kk.below k).hb
      go_wp2
      go_ret
      exact ⟨rfl, HB⟩

end Go.Proofs.Ytgkajbelekjahaa
