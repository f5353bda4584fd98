/- Package clock: two times held against each other. -/
import Derived.Test.YteggdabnhdjfcaaDoorKfield
import Derived.Test.YteggdabnhdjfcaaDoorGtwo
import Derived.Test.YteggdabnhdjfcaaDoorGx
import Derived.Deep.RegionHeld3
import Derived.LoopTactic
import Derived.BigQuiet
namespace Go.Proofs.YteggdabnhdjfcaaDoor
open Go.RowKit

set_option maxRecDepth 100000 in
theorem compareK (a b : Int) (w : World) : Calls Tryd.prog 41 #[.int .i64 a, .int .i64 b] w fun e w' => e = .returned (.int .i64 (ord a b)) ∧ w = w' := by
  by_cases h : a < b
  · rw [ord_lt h]
    go_enter Tryd.func41, Tryd.ntmps41
    go_wp2
    go_ret
    exact ⟨rfl, rfl⟩
  by_cases k : b < a
  · rw [ord_gt k]
    go_enter Tryd.func41, Tryd.ntmps41
    go_wp2
    go_ret
    exact ⟨rfl, rfl⟩
  · rw [ord_eq (by omega)]
    go_enter Tryd.func41, Tryd.ntmps41
    go_wp2
    go_ret
    exact ⟨rfl, rfl⟩
/-- the first that isn't 0 -/
def firstN (a b c d : Int) : Int := if a = 0 then if b = 0 then if c = 0 then d else c else b else a
set_option maxRecDepth 100000 in
set_option maxHeartbeats 8000000 in
theorem cmpK_core (h m s n h' m' s' n' c0 c1 c2 c3 v : Int) (VE : Hid (v = firstN c0 c1 c2 c3)) (CM0 : Hid (∀ W, Calls Tryd.prog 41 #[.int .i64 h, .int .i64 h'] W (fun e w' => e = .returned (.int .i64 c0) ∧ W = w'))) (CM1 : Hid (∀ W, Calls Tryd.prog 41 #[.int .i64 m, .int .i64 m'] W (fun e w' => e = .returned (.int .i64 c1) ∧ W = w'))) (CM2 : Hid (∀ W, Calls Tryd.prog 41 #[.int .i64 s, .int .i64 s'] W (fun e w' => e = .returned (.int .i64 c2) ∧ W = w'))) (CM3 : Hid (∀ W, Calls Tryd.prog 41 #[.int .i64 n, .int .i64 n'] W (fun e w' => e = .returned (.int .i64 c3) ∧ W = w'))) (S1 : Hid (∀ W, Calls Tryd.prog 26 #[.agg #[.int .i64 (h), .int .i64 (m), .int .i64 (s), .int .i64 (n)]] W (fun o w' => o = .returned (.agg #[.int .i64 (h), .int .i64 (m), .int .i64 (s), .int .i64 (n)]) ∧ Below W.heap.size W w'))) (S2 : Hid (∀ W, Calls Tryd.prog 26 #[.agg #[.int .i64 (h'), .int .i64 (m'), .int .i64 (s'), .int .i64 (n')]] W (fun o w' => o = .returned (.agg #[.int .i64 (h'), .int .i64 (m'), .int .i64 (s'), .int .i64 (n')]) ∧ Below W.heap.size W w'))) (w : World) :
    Calls Tryd.prog 22 #[.agg #[.int .i64 (h), .int .i64 (m), .int .i64 (s), .int .i64 (n)], .agg #[.int .i64 (h'), .int .i64 (m'), .int .i64 (s'), .int .i64 (n')]] w (RetV w (.int .i64 v)) := by
  go_enter Tryd.func22, Tryd.ntmps22
  go_upto_region 1 with (fail)
  have KB := (((BK.nil w).more4 (.int .i64 (h)) (.int .i64 (m)) (.int .i64 (s)) (.int .i64 (n)) 23).more4 (.int .i64 (h')) (.int .i64 (m')) (.int .i64 (s')) (.int .i64 (n')) 23)
  simp only [World.size_alloc] at KB
  generalize ((w.alloc (.cells #[.int .i64 (h), .int .i64 (m), .int .i64 (s), .int .i64 (n)] 23)).alloc (.cells #[.int .i64 (h'), .int .i64 (m'), .int .i64 (s'), .int .i64 (n')] 23)) = w0 at *
  obtain ⟨lo, st, hlo⟩ := KB.preB (KB.tail.head).lt [.int .i64 (0), .int .i64 (0), .int .i64 (0), .int .i64 (0)]
  have la0 : w.heap.size + 1 ≤ lo := hlo (w.heap.size + 1, [.int .i64 (h'), .int .i64 (m'), .int .i64 (s'), .int .i64 (n')]) (by simp)
  have la1 : w.heap.size ≤ lo := hlo (w.heap.size, [.int .i64 (h), .int .i64 (m), .int .i64 (s), .int .i64 (n)]) (by simp)
  clear hlo
  go_cut [5, 6] (fun va vb wx => CutTwoB lo (BK w [(w.heap.size + 1, [.int .i64 (h'), .int .i64 (m'), .int .i64 (s'), .int .i64 (n')]), (w.heap.size, [.int .i64 (h), .int .i64 (m), .int .i64 (s), .int .i64 (n)])]) [.int .i64 (h), .int .i64 (m), .int .i64 (s), .int .i64 (n)] [.int .i64 (h'), .int .i64 (m'), .int .i64 (s'), .int .i64 (n')] va vb wx)
  case first =>
    clear KB
    replace st := st.drew
    refine wp_region_noPanic ?_
    refine wp_region_held_drew (S := (BK w [(w.heap.size + 1, [.int .i64 (h'), .int .i64 (m'), .int .i64 (s'), .int .i64 (n')]), (w.heap.size, [.int .i64 (h), .int .i64 (m), .int .i64 (s), .int .i64 (n)])])) (by kernel_rfl) st.k (fun hHeld => ?_)
    generalize w0.drew = u0 at *
    refine wpAnyH_take (i := 0) (oi := { dst := some 9, op := Op.load 23 (Operand.tmp 2), type := 23, pos := "clock.go:93", after := #[], guard := none }) (v := ?_) rfl (by kernel_rfl) (by kernel_rfl) (by kernel_rfl) (fun _ _ _ h => h) (Or.inl ⟨by rfl, ?_⟩) (by assumption) ?_
    rotate_left
    · intro w hSw
      obtain ⟨_, j0, j1, j2, j3, _⟩ := (hSw.tail.head).four
      clear hSw
      go_simp
      any_goals with_reducible rfl
    try simp only [Act.put, List.setIfInBounds_toArray, List.set_cons_zero, List.set_cons_succ]
    refine wpAnyH_take (i := 2) (oi := { dst := some 11, op := Op.load 23 (Operand.tmp 3), type := 23, pos := "clock.go:93", after := #[], guard := none }) (v := ?_) rfl (by kernel_rfl) (by kernel_rfl) (by kernel_rfl) (fun _ _ _ h => h) (Or.inl ⟨by rfl, ?_⟩) (by assumption) ?_
    rotate_left
    · intro w hSw
      obtain ⟨_, j0, j1, j2, j3, _⟩ := (hSw.head).four
      clear hSw
      go_simp
      any_goals with_reducible rfl
    try simp only [Act.put, List.setIfInBounds_toArray, List.set_cons_zero, List.set_cons_succ]
    clear hHeld
    refine wpAnyH_ready (rs := [1, 4, 5]) (by kernel_rfl) (by simp) ?_
    refine AllReadyH.cons (o := { dst := some 10, op := Op.call { callee := Callee.value (Operand.func 26), args := #[Operand.tmp 9], argTypes := #[23] }, type := 33, pos := "clock.go:93", after := #[{ on := 0, ground := Ground.data }], guard := none }) rfl (fun K hK => ?_) (AllReadyH.cons (o := { dst := some 5, op := Op.alloc 33, type := 0, pos := "clock.go:93", after := #[], guard := none }) rfl (fun K hK => ?_) (AllReadyH.cons (o := { dst := some 6, op := Op.alloc 33, type := 0, pos := "clock.go:93", after := #[], guard := none }) rfl (fun K hK => ?_) (AllReadyH.nil)))
    · go_simp
      go_at_call 26
      refine (S1.out _).mono ?_
      rintro e u1 ⟨rfl, k⟩
      replace st := st.below k
      clear k
      refine hK.out _ _ st.k (fun _ => ?_)
      clear hK K
      try simp only [Act.put, List.setIfInBounds_toArray, List.set_cons_zero, List.set_cons_succ]
      refine wpAnyH_ready (rs := [3, 4, 5]) (by kernel_rfl) (by simp) ?_
      refine AllReadyH.cons (o := { dst := some 12, op := Op.call { callee := Callee.value (Operand.func 26), args := #[Operand.tmp 11], argTypes := #[23] }, type := 33, pos := "clock.go:93", after := #[{ on := 2, ground := Ground.data }, { on := 1, ground := Ground.chain }], guard := none }) rfl (fun K hK => ?_) (AllReadyH.cons (o := { dst := some 5, op := Op.alloc 33, type := 0, pos := "clock.go:93", after := #[], guard := none }) rfl (fun K hK => ?_) (AllReadyH.cons (o := { dst := some 6, op := Op.alloc 33, type := 0, pos := "clock.go:93", after := #[], guard := none }) rfl (fun K hK => ?_) (AllReadyH.nil)))
      · go_simp
        go_at_call 26
        refine (S2.out _).mono ?_
        rintro e u2 ⟨rfl, k⟩
        replace st := st.below k
        clear k
        refine hK.out _ _ st.k (fun _ => ?_)
        clear hK K
        try simp only [Act.put, List.setIfInBounds_toArray, List.set_cons_zero, List.set_cons_succ]
        refine wpAnyH_ready (rs := [4, 5]) (by kernel_rfl) (by simp) ?_
        refine AllReadyH.cons (o := { dst := some 5, op := Op.alloc 33, type := 0, pos := "clock.go:93", after := #[], guard := none }) rfl (fun K hK => ?_) (AllReadyH.cons (o := { dst := some 6, op := Op.alloc 33, type := 0, pos := "clock.go:93", after := #[], guard := none }) rfl (fun K hK => ?_) (AllReadyH.nil))
        · go_simp
          replace st := st.a4 33
          refine hK.out _ _ st.k (fun _ => ?_)
          clear hK K
          try simp only [Act.put, List.setIfInBounds_toArray, List.set_cons_zero, List.set_cons_succ]
          generalize u2.alloc (.cells #[.int .i64 (0), .int .i64 (0), .int .i64 (0), .int .i64 (0)] 33) = u3 at *
          generalize u2.heap.size = x at *
          refine wpAnyH_ready (rs := [5]) (by kernel_rfl) (by simp) ?_
          refine AllReadyH.cons (o := { dst := some 6, op := Op.alloc 33, type := 0, pos := "clock.go:93", after := #[], guard := none }) rfl (fun K hK => ?_) (AllReadyH.nil)
          · go_simp
            replace st := st.a4 33
            refine hK.out _ _ st.k (fun _ => ?_)
            clear hK K
            try simp only [Act.put, List.setIfInBounds_toArray, List.set_cons_zero, List.set_cons_succ]
            generalize u3.alloc (.cells #[.int .i64 (0), .int .i64 (0), .int .i64 (0), .int .i64 (0)] 33) = u4 at *
            generalize u3.heap.size = y at *
            refine wpAnyH_ready (rs := [6]) (by kernel_rfl) (by simp) ?_
            refine AllReadyH.cons (o := { dst := none, op := Op.store 33 (Operand.tmp 5) (Operand.tmp 10), type := 0, pos := "clock.go:93", after := #[{ on := 4, ground := Ground.data }, { on := 1, ground := Ground.data }, { on := 3, ground := Ground.chain }, { on := 0, ground := Ground.phase }, { on := 1, ground := Ground.phase }, { on := 2, ground := Ground.textOnly Departure.lateStores }, { on := 3, ground := Ground.textOnly Departure.lateStoresUnsure }, { on := 4, ground := Ground.phase }, { on := 5, ground := Ground.phase }], guard := none }) rfl (fun K hK => ?_) (AllReadyH.nil)
            · have bg := st.al x (by simp)
              have bh := st.al y (by simp)
              have gg := st.ge x (by simp)
              have gh := st.ge y (by simp)
              have ne : x ≠ y := Ne.symm (two_ne st.nd).1
              have kp := st.keep
              have kk := st.k
              clear st
              obtain ⟨_, y0, y1, y2, y3, f0, f1, f2, f3⟩ := bg.four
              go_simp
              clear y0 y1 y2 y3 f0 f1 f2 f3
              have kq : BK w [(w.heap.size + 1, [.int .i64 (h'), .int .i64 (m'), .int .i64 (s'), .int .i64 (n')]), (w.heap.size, [.int .i64 (h), .int .i64 (m), .int .i64 (s), .int .i64 (n)])] ((((u4.setCell ⟨x, 0, none⟩ (.int .i64 (h))).setCell ⟨x, 1, none⟩ (.int .i64 (m))).setCell ⟨x, 2, none⟩ (.int .i64 (s))).setCell ⟨x, 3, none⟩ (.int .i64 (n))) := kp.setAll gg [.int .i64 (h), .int .i64 (m), .int .i64 (s), .int .i64 (n)] _ 0 kk
              have bo : Blk ((((u4.setCell ⟨x, 0, none⟩ (.int .i64 (h))).setCell ⟨x, 1, none⟩ (.int .i64 (m))).setCell ⟨x, 2, none⟩ (.int .i64 (s))).setCell ⟨x, 3, none⟩ (.int .i64 (n))) y [.int .i64 (0), .int .i64 (0), .int .i64 (0), .int .i64 (0)] := bh.farAll ne [.int .i64 (h), .int .i64 (m), .int .i64 (s), .int .i64 (n)] 0
              have bm := bg.self4 (.int .i64 (h)) (.int .i64 (m)) (.int .i64 (s)) (.int .i64 (n))
              clear bg bh kk
              refine hK.out _ _ kq (fun _ => ?_)
              clear hK K
              try simp only [Act.put, List.setIfInBounds_toArray, List.set_cons_zero, List.set_cons_succ]
              generalize ((((u4.setCell ⟨x, 0, none⟩ (.int .i64 (h))).setCell ⟨x, 1, none⟩ (.int .i64 (m))).setCell ⟨x, 2, none⟩ (.int .i64 (s))).setCell ⟨x, 3, none⟩ (.int .i64 (n))) = u5 at *
              have bg := bm
              have bh := bo
              have kk := kq
              clear bm bo kq
              refine wpAnyH_ready (rs := [7]) (by kernel_rfl) (by simp) ?_
              refine AllReadyH.cons (o := { dst := none, op := Op.store 33 (Operand.tmp 6) (Operand.tmp 12), type := 0, pos := "clock.go:93", after := #[{ on := 5, ground := Ground.data }, { on := 3, ground := Ground.data }, { on := 6, ground := Ground.chain }, { on := 0, ground := Ground.phase }, { on := 1, ground := Ground.phase }, { on := 2, ground := Ground.phase }, { on := 3, ground := Ground.phase }, { on := 4, ground := Ground.phase }, { on := 5, ground := Ground.phase }, { on := 6, ground := Ground.phase }], guard := none }) rfl (fun K hK => ?_) (AllReadyH.nil)
              · obtain ⟨_, y0, y1, y2, y3, f0, f1, f2, f3⟩ := bh.four
                go_simp
                clear y0 y1 y2 y3 f0 f1 f2 f3
                have kq : BK w [(w.heap.size + 1, [.int .i64 (h'), .int .i64 (m'), .int .i64 (s'), .int .i64 (n')]), (w.heap.size, [.int .i64 (h), .int .i64 (m), .int .i64 (s), .int .i64 (n)])] ((((u5.setCell ⟨y, 0, none⟩ (.int .i64 (h'))).setCell ⟨y, 1, none⟩ (.int .i64 (m'))).setCell ⟨y, 2, none⟩ (.int .i64 (s'))).setCell ⟨y, 3, none⟩ (.int .i64 (n'))) := kp.setAll gh [.int .i64 (h'), .int .i64 (m'), .int .i64 (s'), .int .i64 (n')] _ 0 kk
                have bo : Blk ((((u5.setCell ⟨y, 0, none⟩ (.int .i64 (h'))).setCell ⟨y, 1, none⟩ (.int .i64 (m'))).setCell ⟨y, 2, none⟩ (.int .i64 (s'))).setCell ⟨y, 3, none⟩ (.int .i64 (n'))) x [.int .i64 (h), .int .i64 (m), .int .i64 (s), .int .i64 (n)] := bg.farAll (Ne.symm ne) [.int .i64 (h'), .int .i64 (m'), .int .i64 (s'), .int .i64 (n')] 0
                have bm := bh.self4 (.int .i64 (h')) (.int .i64 (m')) (.int .i64 (s')) (.int .i64 (n'))
                clear bh bg kk
                refine hK.out _ _ kq (fun _ => ?_)
                clear hK K
                try simp only [Act.put, List.setIfInBounds_toArray, List.set_cons_zero, List.set_cons_succ]
                generalize ((((u5.setCell ⟨y, 0, none⟩ (.int .i64 (h'))).setCell ⟨y, 1, none⟩ (.int .i64 (m'))).setCell ⟨y, 2, none⟩ (.int .i64 (s'))).setCell ⟨y, 3, none⟩ (.int .i64 (n'))) = u6 at *
                have bh := bm
                have bg := bo
                have kk := kq
                clear bm bo kq
                refine wpAnyH_done (by kernel_rfl) ?_ _
                refine NoPanic.normal ?_
                go_wp2_with fail
                go_meet
                exact ⟨_, _, rfl, rfl, kp, kk, bg, bh, gg, gh, ne⟩
        · go_simp
          replace st := st.a4 33
          refine hK.out _ _ st.k (fun _ => ?_)
          clear hK K
          try simp only [Act.put, List.setIfInBounds_toArray, List.set_cons_zero, List.set_cons_succ]
          generalize u2.alloc (.cells #[.int .i64 (0), .int .i64 (0), .int .i64 (0), .int .i64 (0)] 33) = u3 at *
          generalize u2.heap.size = y at *
          refine wpAnyH_ready (rs := [4]) (by kernel_rfl) (by simp) ?_
          refine AllReadyH.cons (o := { dst := some 5, op := Op.alloc 33, type := 0, pos := "clock.go:93", after := #[], guard := none }) rfl (fun K hK => ?_) (AllReadyH.nil)
          · go_simp
            replace st := st.a4 33
            refine hK.out _ _ st.k (fun _ => ?_)
            clear hK K
            try simp only [Act.put, List.setIfInBounds_toArray, List.set_cons_zero, List.set_cons_succ]
            generalize u3.alloc (.cells #[.int .i64 (0), .int .i64 (0), .int .i64 (0), .int .i64 (0)] 33) = u4 at *
            generalize u3.heap.size = x at *
            refine wpAnyH_ready (rs := [6]) (by kernel_rfl) (by simp) ?_
            refine AllReadyH.cons (o := { dst := none, op := Op.store 33 (Operand.tmp 5) (Operand.tmp 10), type := 0, pos := "clock.go:93", after := #[{ on := 4, ground := Ground.data }, { on := 1, ground := Ground.data }, { on := 3, ground := Ground.chain }, { on := 0, ground := Ground.phase }, { on := 1, ground := Ground.phase }, { on := 2, ground := Ground.textOnly Departure.lateStores }, { on := 3, ground := Ground.textOnly Departure.lateStoresUnsure }, { on := 4, ground := Ground.phase }, { on := 5, ground := Ground.phase }], guard := none }) rfl (fun K hK => ?_) (AllReadyH.nil)
            · have bg := st.al x (by simp)
              have bh := st.al y (by simp)
              have gg := st.ge x (by simp)
              have gh := st.ge y (by simp)
              have ne : x ≠ y := (two_ne st.nd).1
              have kp := st.keep
              have kk := st.k
              clear st
              obtain ⟨_, y0, y1, y2, y3, f0, f1, f2, f3⟩ := bg.four
              go_simp
              clear y0 y1 y2 y3 f0 f1 f2 f3
              have kq : BK w [(w.heap.size + 1, [.int .i64 (h'), .int .i64 (m'), .int .i64 (s'), .int .i64 (n')]), (w.heap.size, [.int .i64 (h), .int .i64 (m), .int .i64 (s), .int .i64 (n)])] ((((u4.setCell ⟨x, 0, none⟩ (.int .i64 (h))).setCell ⟨x, 1, none⟩ (.int .i64 (m))).setCell ⟨x, 2, none⟩ (.int .i64 (s))).setCell ⟨x, 3, none⟩ (.int .i64 (n))) := kp.setAll gg [.int .i64 (h), .int .i64 (m), .int .i64 (s), .int .i64 (n)] _ 0 kk
              have bo : Blk ((((u4.setCell ⟨x, 0, none⟩ (.int .i64 (h))).setCell ⟨x, 1, none⟩ (.int .i64 (m))).setCell ⟨x, 2, none⟩ (.int .i64 (s))).setCell ⟨x, 3, none⟩ (.int .i64 (n))) y [.int .i64 (0), .int .i64 (0), .int .i64 (0), .int .i64 (0)] := bh.farAll ne [.int .i64 (h), .int .i64 (m), .int .i64 (s), .int .i64 (n)] 0
              have bm := bg.self4 (.int .i64 (h)) (.int .i64 (m)) (.int .i64 (s)) (.int .i64 (n))
              clear bg bh kk
              refine hK.out _ _ kq (fun _ => ?_)
              clear hK K
              try simp only [Act.put, List.setIfInBounds_toArray, List.set_cons_zero, List.set_cons_succ]
              generalize ((((u4.setCell ⟨x, 0, none⟩ (.int .i64 (h))).setCell ⟨x, 1, none⟩ (.int .i64 (m))).setCell ⟨x, 2, none⟩ (.int .i64 (s))).setCell ⟨x, 3, none⟩ (.int .i64 (n))) = u5 at *
              have bg := bm
              have bh := bo
              have kk := kq
              clear bm bo kq
              refine wpAnyH_ready (rs := [7]) (by kernel_rfl) (by simp) ?_
              refine AllReadyH.cons (o := { dst := none, op := Op.store 33 (Operand.tmp 6) (Operand.tmp 12), type := 0, pos := "clock.go:93", after := #[{ on := 5, ground := Ground.data }, { on := 3, ground := Ground.data }, { on := 6, ground := Ground.chain }, { on := 0, ground := Ground.phase }, { on := 1, ground := Ground.phase }, { on := 2, ground := Ground.phase }, { on := 3, ground := Ground.phase }, { on := 4, ground := Ground.phase }, { on := 5, ground := Ground.phase }, { on := 6, ground := Ground.phase }], guard := none }) rfl (fun K hK => ?_) (AllReadyH.nil)
              · obtain ⟨_, y0, y1, y2, y3, f0, f1, f2, f3⟩ := bh.four
                go_simp
                clear y0 y1 y2 y3 f0 f1 f2 f3
                have kq : BK w [(w.heap.size + 1, [.int .i64 (h'), .int .i64 (m'), .int .i64 (s'), .int .i64 (n')]), (w.heap.size, [.int .i64 (h), .int .i64 (m), .int .i64 (s), .int .i64 (n)])] ((((u5.setCell ⟨y, 0, none⟩ (.int .i64 (h'))).setCell ⟨y, 1, none⟩ (.int .i64 (m'))).setCell ⟨y, 2, none⟩ (.int .i64 (s'))).setCell ⟨y, 3, none⟩ (.int .i64 (n'))) := kp.setAll gh [.int .i64 (h'), .int .i64 (m'), .int .i64 (s'), .int .i64 (n')] _ 0 kk
                have bo : Blk ((((u5.setCell ⟨y, 0, none⟩ (.int .i64 (h'))).setCell ⟨y, 1, none⟩ (.int .i64 (m'))).setCell ⟨y, 2, none⟩ (.int .i64 (s'))).setCell ⟨y, 3, none⟩ (.int .i64 (n'))) x [.int .i64 (h), .int .i64 (m), .int .i64 (s), .int .i64 (n)] := bg.farAll (Ne.symm ne) [.int .i64 (h'), .int .i64 (m'), .int .i64 (s'), .int .i64 (n')] 0
                have bm := bh.self4 (.int .i64 (h')) (.int .i64 (m')) (.int .i64 (s')) (.int .i64 (n'))
                clear bh bg kk
                refine hK.out _ _ kq (fun _ => ?_)
                clear hK K
                try simp only [Act.put, List.setIfInBounds_toArray, List.set_cons_zero, List.set_cons_succ]
                generalize ((((u5.setCell ⟨y, 0, none⟩ (.int .i64 (h'))).setCell ⟨y, 1, none⟩ (.int .i64 (m'))).setCell ⟨y, 2, none⟩ (.int .i64 (s'))).setCell ⟨y, 3, none⟩ (.int .i64 (n'))) = u6 at *
                have bh := bm
                have bg := bo
                have kk := kq
                clear bm bo kq
                refine wpAnyH_done (by kernel_rfl) ?_ _
                refine NoPanic.normal ?_
                go_wp2_with fail
                go_meet
                exact ⟨_, _, rfl, rfl, kp, kk, bg, bh, gg, gh, ne⟩
      · go_simp
        replace st := st.a4 33
        refine hK.out _ _ st.k (fun _ => ?_)
        clear hK K
        try simp only [Act.put, List.setIfInBounds_toArray, List.set_cons_zero, List.set_cons_succ]
        generalize u1.alloc (.cells #[.int .i64 (0), .int .i64 (0), .int .i64 (0), .int .i64 (0)] 33) = u2 at *
        generalize u1.heap.size = x at *
        refine wpAnyH_ready (rs := [3, 5]) (by kernel_rfl) (by simp) ?_
        refine AllReadyH.cons (o := { dst := some 12, op := Op.call { callee := Callee.value (Operand.func 26), args := #[Operand.tmp 11], argTypes := #[23] }, type := 33, pos := "clock.go:93", after := #[{ on := 2, ground := Ground.data }, { on := 1, ground := Ground.chain }], guard := none }) rfl (fun K hK => ?_) (AllReadyH.cons (o := { dst := some 6, op := Op.alloc 33, type := 0, pos := "clock.go:93", after := #[], guard := none }) rfl (fun K hK => ?_) (AllReadyH.nil))
        · go_simp
          go_at_call 26
          refine (S2.out _).mono ?_
          rintro e u3 ⟨rfl, k⟩
          replace st := st.below k
          clear k
          refine hK.out _ _ st.k (fun _ => ?_)
          clear hK K
          try simp only [Act.put, List.setIfInBounds_toArray, List.set_cons_zero, List.set_cons_succ]
          refine wpAnyH_ready (rs := [5]) (by kernel_rfl) (by simp) ?_
          refine AllReadyH.cons (o := { dst := some 6, op := Op.alloc 33, type := 0, pos := "clock.go:93", after := #[], guard := none }) rfl (fun K hK => ?_) (AllReadyH.nil)
          · go_simp
            replace st := st.a4 33
            refine hK.out _ _ st.k (fun _ => ?_)
            clear hK K
            try simp only [Act.put, List.setIfInBounds_toArray, List.set_cons_zero, List.set_cons_succ]
            generalize u3.alloc (.cells #[.int .i64 (0), .int .i64 (0), .int .i64 (0), .int .i64 (0)] 33) = u4 at *
            generalize u3.heap.size = y at *
            refine wpAnyH_ready (rs := [6]) (by kernel_rfl) (by simp) ?_
            refine AllReadyH.cons (o := { dst := none, op := Op.store 33 (Operand.tmp 5) (Operand.tmp 10), type := 0, pos := "clock.go:93", after := #[{ on := 4, ground := Ground.data }, { on := 1, ground := Ground.data }, { on := 3, ground := Ground.chain }, { on := 0, ground := Ground.phase }, { on := 1, ground := Ground.phase }, { on := 2, ground := Ground.textOnly Departure.lateStores }, { on := 3, ground := Ground.textOnly Departure.lateStoresUnsure }, { on := 4, ground := Ground.phase }, { on := 5, ground := Ground.phase }], guard := none }) rfl (fun K hK => ?_) (AllReadyH.nil)
            · have bg := st.al x (by simp)
              have bh := st.al y (by simp)
              have gg := st.ge x (by simp)
              have gh := st.ge y (by simp)
              have ne : x ≠ y := Ne.symm (two_ne st.nd).1
              have kp := st.keep
              have kk := st.k
              clear st
              obtain ⟨_, y0, y1, y2, y3, f0, f1, f2, f3⟩ := bg.four
              go_simp
              clear y0 y1 y2 y3 f0 f1 f2 f3
              have kq : BK w [(w.heap.size + 1, [.int .i64 (h'), .int .i64 (m'), .int .i64 (s'), .int .i64 (n')]), (w.heap.size, [.int .i64 (h), .int .i64 (m), .int .i64 (s), .int .i64 (n)])] ((((u4.setCell ⟨x, 0, none⟩ (.int .i64 (h))).setCell ⟨x, 1, none⟩ (.int .i64 (m))).setCell ⟨x, 2, none⟩ (.int .i64 (s))).setCell ⟨x, 3, none⟩ (.int .i64 (n))) := kp.setAll gg [.int .i64 (h), .int .i64 (m), .int .i64 (s), .int .i64 (n)] _ 0 kk
              have bo : Blk ((((u4.setCell ⟨x, 0, none⟩ (.int .i64 (h))).setCell ⟨x, 1, none⟩ (.int .i64 (m))).setCell ⟨x, 2, none⟩ (.int .i64 (s))).setCell ⟨x, 3, none⟩ (.int .i64 (n))) y [.int .i64 (0), .int .i64 (0), .int .i64 (0), .int .i64 (0)] := bh.farAll ne [.int .i64 (h), .int .i64 (m), .int .i64 (s), .int .i64 (n)] 0
              have bm := bg.self4 (.int .i64 (h)) (.int .i64 (m)) (.int .i64 (s)) (.int .i64 (n))
              clear bg bh kk
              refine hK.out _ _ kq (fun _ => ?_)
              clear hK K
              try simp only [Act.put, List.setIfInBounds_toArray, List.set_cons_zero, List.set_cons_succ]
              generalize ((((u4.setCell ⟨x, 0, none⟩ (.int .i64 (h))).setCell ⟨x, 1, none⟩ (.int .i64 (m))).setCell ⟨x, 2, none⟩ (.int .i64 (s))).setCell ⟨x, 3, none⟩ (.int .i64 (n))) = u5 at *
              have bg := bm
              have bh := bo
              have kk := kq
              clear bm bo kq
              refine wpAnyH_ready (rs := [7]) (by kernel_rfl) (by simp) ?_
              refine AllReadyH.cons (o := { dst := none, op := Op.store 33 (Operand.tmp 6) (Operand.tmp 12), type := 0, pos := "clock.go:93", after := #[{ on := 5, ground := Ground.data }, { on := 3, ground := Ground.data }, { on := 6, ground := Ground.chain }, { on := 0, ground := Ground.phase }, { on := 1, ground := Ground.phase }, { on := 2, ground := Ground.phase }, { on := 3, ground := Ground.phase }, { on := 4, ground := Ground.phase }, { on := 5, ground := Ground.phase }, { on := 6, ground := Ground.phase }], guard := none }) rfl (fun K hK => ?_) (AllReadyH.nil)
              · obtain ⟨_, y0, y1, y2, y3, f0, f1, f2, f3⟩ := bh.four
                go_simp
                clear y0 y1 y2 y3 f0 f1 f2 f3
                have kq : BK w [(w.heap.size + 1, [.int .i64 (h'), .int .i64 (m'), .int .i64 (s'), .int .i64 (n')]), (w.heap.size, [.int .i64 (h), .int .i64 (m), .int .i64 (s), .int .i64 (n)])] ((((u5.setCell ⟨y, 0, none⟩ (.int .i64 (h'))).setCell ⟨y, 1, none⟩ (.int .i64 (m'))).setCell ⟨y, 2, none⟩ (.int .i64 (s'))).setCell ⟨y, 3, none⟩ (.int .i64 (n'))) := kp.setAll gh [.int .i64 (h'), .int .i64 (m'), .int .i64 (s'), .int .i64 (n')] _ 0 kk
                have bo : Blk ((((u5.setCell ⟨y, 0, none⟩ (.int .i64 (h'))).setCell ⟨y, 1, none⟩ (.int .i64 (m'))).setCell ⟨y, 2, none⟩ (.int .i64 (s'))).setCell ⟨y, 3, none⟩ (.int .i64 (n'))) x [.int .i64 (h), .int .i64 (m), .int .i64 (s), .int .i64 (n)] := bg.farAll (Ne.symm ne) [.int .i64 (h'), .int .i64 (m'), .int .i64 (s'), .int .i64 (n')] 0
                have bm := bh.self4 (.int .i64 (h')) (.int .i64 (m')) (.int .i64 (s')) (.int .i64 (n'))
                clear bh bg kk
                refine hK.out _ _ kq (fun _ => ?_)
                clear hK K
                try simp only [Act.put, List.setIfInBounds_toArray, List.set_cons_zero, List.set_cons_succ]
                generalize ((((u5.setCell ⟨y, 0, none⟩ (.int .i64 (h'))).setCell ⟨y, 1, none⟩ (.int .i64 (m'))).setCell ⟨y, 2, none⟩ (.int .i64 (s'))).setCell ⟨y, 3, none⟩ (.int .i64 (n'))) = u6 at *
                have bh := bm
                have bg := bo
                have kk := kq
                clear bm bo kq
                refine wpAnyH_done (by kernel_rfl) ?_ _
                refine NoPanic.normal ?_
                go_wp2_with fail
                go_meet
                exact ⟨_, _, rfl, rfl, kp, kk, bg, bh, gg, gh, ne⟩
        · go_simp
          replace st := st.a4 33
          refine hK.out _ _ st.k (fun _ => ?_)
          clear hK K
          try simp only [Act.put, List.setIfInBounds_toArray, List.set_cons_zero, List.set_cons_succ]
          generalize u2.alloc (.cells #[.int .i64 (0), .int .i64 (0), .int .i64 (0), .int .i64 (0)] 33) = u3 at *
          generalize u2.heap.size = y at *
          refine wpAnyH_ready (rs := [3]) (by kernel_rfl) (by simp) ?_
          refine AllReadyH.cons (o := { dst := some 12, op := Op.call { callee := Callee.value (Operand.func 26), args := #[Operand.tmp 11], argTypes := #[23] }, type := 33, pos := "clock.go:93", after := #[{ on := 2, ground := Ground.data }, { on := 1, ground := Ground.chain }], guard := none }) rfl (fun K hK => ?_) (AllReadyH.nil)
          · go_simp
            go_at_call 26
            refine (S2.out _).mono ?_
            rintro e u4 ⟨rfl, k⟩
            replace st := st.below k
            clear k
            refine hK.out _ _ st.k (fun _ => ?_)
            clear hK K
            try simp only [Act.put, List.setIfInBounds_toArray, List.set_cons_zero, List.set_cons_succ]
            refine wpAnyH_ready (rs := [6]) (by kernel_rfl) (by simp) ?_
            refine AllReadyH.cons (o := { dst := none, op := Op.store 33 (Operand.tmp 5) (Operand.tmp 10), type := 0, pos := "clock.go:93", after := #[{ on := 4, ground := Ground.data }, { on := 1, ground := Ground.data }, { on := 3, ground := Ground.chain }, { on := 0, ground := Ground.phase }, { on := 1, ground := Ground.phase }, { on := 2, ground := Ground.textOnly Departure.lateStores }, { on := 3, ground := Ground.textOnly Departure.lateStoresUnsure }, { on := 4, ground := Ground.phase }, { on := 5, ground := Ground.phase }], guard := none }) rfl (fun K hK => ?_) (AllReadyH.nil)
            · have bg := st.al x (by simp)
              have bh := st.al y (by simp)
              have gg := st.ge x (by simp)
              have gh := st.ge y (by simp)
              have ne : x ≠ y := Ne.symm (two_ne st.nd).1
              have kp := st.keep
              have kk := st.k
              clear st
              obtain ⟨_, y0, y1, y2, y3, f0, f1, f2, f3⟩ := bg.four
              go_simp
              clear y0 y1 y2 y3 f0 f1 f2 f3
              have kq : BK w [(w.heap.size + 1, [.int .i64 (h'), .int .i64 (m'), .int .i64 (s'), .int .i64 (n')]), (w.heap.size, [.int .i64 (h), .int .i64 (m), .int .i64 (s), .int .i64 (n)])] ((((u4.setCell ⟨x, 0, none⟩ (.int .i64 (h))).setCell ⟨x, 1, none⟩ (.int .i64 (m))).setCell ⟨x, 2, none⟩ (.int .i64 (s))).setCell ⟨x, 3, none⟩ (.int .i64 (n))) := kp.setAll gg [.int .i64 (h), .int .i64 (m), .int .i64 (s), .int .i64 (n)] _ 0 kk
              have bo : Blk ((((u4.setCell ⟨x, 0, none⟩ (.int .i64 (h))).setCell ⟨x, 1, none⟩ (.int .i64 (m))).setCell ⟨x, 2, none⟩ (.int .i64 (s))).setCell ⟨x, 3, none⟩ (.int .i64 (n))) y [.int .i64 (0), .int .i64 (0), .int .i64 (0), .int .i64 (0)] := bh.farAll ne [.int .i64 (h), .int .i64 (m), .int .i64 (s), .int .i64 (n)] 0
              have bm := bg.self4 (.int .i64 (h)) (.int .i64 (m)) (.int .i64 (s)) (.int .i64 (n))
              clear bg bh kk
              refine hK.out _ _ kq (fun _ => ?_)
              clear hK K
              try simp only [Act.put, List.setIfInBounds_toArray, List.set_cons_zero, List.set_cons_succ]
              generalize ((((u4.setCell ⟨x, 0, none⟩ (.int .i64 (h))).setCell ⟨x, 1, none⟩ (.int .i64 (m))).setCell ⟨x, 2, none⟩ (.int .i64 (s))).setCell ⟨x, 3, none⟩ (.int .i64 (n))) = u5 at *
              have bg := bm
              have bh := bo
              have kk := kq
              clear bm bo kq
              refine wpAnyH_ready (rs := [7]) (by kernel_rfl) (by simp) ?_
              refine AllReadyH.cons (o := { dst := none, op := Op.store 33 (Operand.tmp 6) (Operand.tmp 12), type := 0, pos := "clock.go:93", after := #[{ on := 5, ground := Ground.data }, { on := 3, ground := Ground.data }, { on := 6, ground := Ground.chain }, { on := 0, ground := Ground.phase }, { on := 1, ground := Ground.phase }, { on := 2, ground := Ground.phase }, { on := 3, ground := Ground.phase }, { on := 4, ground := Ground.phase }, { on := 5, ground := Ground.phase }, { on := 6, ground := Ground.phase }], guard := none }) rfl (fun K hK => ?_) (AllReadyH.nil)
              · obtain ⟨_, y0, y1, y2, y3, f0, f1, f2, f3⟩ := bh.four
                go_simp
                clear y0 y1 y2 y3 f0 f1 f2 f3
                have kq : BK w [(w.heap.size + 1, [.int .i64 (h'), .int .i64 (m'), .int .i64 (s'), .int .i64 (n')]), (w.heap.size, [.int .i64 (h), .int .i64 (m), .int .i64 (s), .int .i64 (n)])] ((((u5.setCell ⟨y, 0, none⟩ (.int .i64 (h'))).setCell ⟨y, 1, none⟩ (.int .i64 (m'))).setCell ⟨y, 2, none⟩ (.int .i64 (s'))).setCell ⟨y, 3, none⟩ (.int .i64 (n'))) := kp.setAll gh [.int .i64 (h'), .int .i64 (m'), .int .i64 (s'), .int .i64 (n')] _ 0 kk
                have bo : Blk ((((u5.setCell ⟨y, 0, none⟩ (.int .i64 (h'))).setCell ⟨y, 1, none⟩ (.int .i64 (m'))).setCell ⟨y, 2, none⟩ (.int .i64 (s'))).setCell ⟨y, 3, none⟩ (.int .i64 (n'))) x [.int .i64 (h), .int .i64 (m), .int .i64 (s), .int .i64 (n)] := bg.farAll (Ne.symm ne) [.int .i64 (h'), .int .i64 (m'), .int .i64 (s'), .int .i64 (n')] 0
                have bm := bh.self4 (.int .i64 (h')) (.int .i64 (m')) (.int .i64 (s')) (.int .i64 (n'))
                clear bh bg kk
                refine hK.out _ _ kq (fun _ => ?_)
                clear hK K
                try simp only [Act.put, List.setIfInBounds_toArray, List.set_cons_zero, List.set_cons_succ]
                generalize ((((u5.setCell ⟨y, 0, none⟩ (.int .i64 (h'))).setCell ⟨y, 1, none⟩ (.int .i64 (m'))).setCell ⟨y, 2, none⟩ (.int .i64 (s'))).setCell ⟨y, 3, none⟩ (.int .i64 (n'))) = u6 at *
                have bh := bm
                have bg := bo
                have kk := kq
                clear bm bo kq
                refine wpAnyH_done (by kernel_rfl) ?_ _
                refine NoPanic.normal ?_
                go_wp2_with fail
                go_meet
                exact ⟨_, _, rfl, rfl, kp, kk, bg, bh, gg, gh, ne⟩
      · go_simp
        replace st := st.a4 33
        refine hK.out _ _ st.k (fun _ => ?_)
        clear hK K
        try simp only [Act.put, List.setIfInBounds_toArray, List.set_cons_zero, List.set_cons_succ]
        generalize u1.alloc (.cells #[.int .i64 (0), .int .i64 (0), .int .i64 (0), .int .i64 (0)] 33) = u2 at *
        generalize u1.heap.size = y at *
        refine wpAnyH_ready (rs := [3, 4]) (by kernel_rfl) (by simp) ?_
        refine AllReadyH.cons (o := { dst := some 12, op := Op.call { callee := Callee.value (Operand.func 26), args := #[Operand.tmp 11], argTypes := #[23] }, type := 33, pos := "clock.go:93", after := #[{ on := 2, ground := Ground.data }, { on := 1, ground := Ground.chain }], guard := none }) rfl (fun K hK => ?_) (AllReadyH.cons (o := { dst := some 5, op := Op.alloc 33, type := 0, pos := "clock.go:93", after := #[], guard := none }) rfl (fun K hK => ?_) (AllReadyH.nil))
        · go_simp
          go_at_call 26
          refine (S2.out _).mono ?_
          rintro e u3 ⟨rfl, k⟩
          replace st := st.below k
          clear k
          refine hK.out _ _ st.k (fun _ => ?_)
          clear hK K
          try simp only [Act.put, List.setIfInBounds_toArray, List.set_cons_zero, List.set_cons_succ]
          refine wpAnyH_ready (rs := [4]) (by kernel_rfl) (by simp) ?_
          refine AllReadyH.cons (o := { dst := some 5, op := Op.alloc 33, type := 0, pos := "clock.go:93", after := #[], guard := none }) rfl (fun K hK => ?_) (AllReadyH.nil)
          · go_simp
            replace st := st.a4 33
            refine hK.out _ _ st.k (fun _ => ?_)
            clear hK K
            try simp only [Act.put, List.setIfInBounds_toArray, List.set_cons_zero, List.set_cons_succ]
            generalize u3.alloc (.cells #[.int .i64 (0), .int .i64 (0), .int .i64 (0), .int .i64 (0)] 33) = u4 at *
            generalize u3.heap.size = x at *
            refine wpAnyH_ready (rs := [6]) (by kernel_rfl) (by simp) ?_
            refine AllReadyH.cons (o := { dst := none, op := Op.store 33 (Operand.tmp 5) (Operand.tmp 10), type := 0, pos := "clock.go:93", after := #[{ on := 4, ground := Ground.data }, { on := 1, ground := Ground.data }, { on := 3, ground := Ground.chain }, { on := 0, ground := Ground.phase }, { on := 1, ground := Ground.phase }, { on := 2, ground := Ground.textOnly Departure.lateStores }, { on := 3, ground := Ground.textOnly Departure.lateStoresUnsure }, { on := 4, ground := Ground.phase }, { on := 5, ground := Ground.phase }], guard := none }) rfl (fun K hK => ?_) (AllReadyH.nil)
            · have bg := st.al x (by simp)
              have bh := st.al y (by simp)
              have gg := st.ge x (by simp)
              have gh := st.ge y (by simp)
              have ne : x ≠ y := (two_ne st.nd).1
              have kp := st.keep
              have kk := st.k
              clear st
              obtain ⟨_, y0, y1, y2, y3, f0, f1, f2, f3⟩ := bg.four
              go_simp
              clear y0 y1 y2 y3 f0 f1 f2 f3
              have kq : BK w [(w.heap.size + 1, [.int .i64 (h'), .int .i64 (m'), .int .i64 (s'), .int .i64 (n')]), (w.heap.size, [.int .i64 (h), .int .i64 (m), .int .i64 (s), .int .i64 (n)])] ((((u4.setCell ⟨x, 0, none⟩ (.int .i64 (h))).setCell ⟨x, 1, none⟩ (.int .i64 (m))).setCell ⟨x, 2, none⟩ (.int .i64 (s))).setCell ⟨x, 3, none⟩ (.int .i64 (n))) := kp.setAll gg [.int .i64 (h), .int .i64 (m), .int .i64 (s), .int .i64 (n)] _ 0 kk
              have bo : Blk ((((u4.setCell ⟨x, 0, none⟩ (.int .i64 (h))).setCell ⟨x, 1, none⟩ (.int .i64 (m))).setCell ⟨x, 2, none⟩ (.int .i64 (s))).setCell ⟨x, 3, none⟩ (.int .i64 (n))) y [.int .i64 (0), .int .i64 (0), .int .i64 (0), .int .i64 (0)] := bh.farAll ne [.int .i64 (h), .int .i64 (m), .int .i64 (s), .int .i64 (n)] 0
              have bm := bg.self4 (.int .i64 (h)) (.int .i64 (m)) (.int .i64 (s)) (.int .i64 (n))
              clear bg bh kk
              refine hK.out _ _ kq (fun _ => ?_)
              clear hK K
              try simp only [Act.put, List.setIfInBounds_toArray, List.set_cons_zero, List.set_cons_succ]
              generalize ((((u4.setCell ⟨x, 0, none⟩ (.int .i64 (h))).setCell ⟨x, 1, none⟩ (.int .i64 (m))).setCell ⟨x, 2, none⟩ (.int .i64 (s))).setCell ⟨x, 3, none⟩ (.int .i64 (n))) = u5 at *
              have bg := bm
              have bh := bo
              have kk := kq
              clear bm bo kq
              refine wpAnyH_ready (rs := [7]) (by kernel_rfl) (by simp) ?_
              refine AllReadyH.cons (o := { dst := none, op := Op.store 33 (Operand.tmp 6) (Operand.tmp 12), type := 0, pos := "clock.go:93", after := #[{ on := 5, ground := Ground.data }, { on := 3, ground := Ground.data }, { on := 6, ground := Ground.chain }, { on := 0, ground := Ground.phase }, { on := 1, ground := Ground.phase }, { on := 2, ground := Ground.phase }, { on := 3, ground := Ground.phase }, { on := 4, ground := Ground.phase }, { on := 5, ground := Ground.phase }, { on := 6, ground := Ground.phase }], guard := none }) rfl (fun K hK => ?_) (AllReadyH.nil)
              · obtain ⟨_, y0, y1, y2, y3, f0, f1, f2, f3⟩ := bh.four
                go_simp
                clear y0 y1 y2 y3 f0 f1 f2 f3
                have kq : BK w [(w.heap.size + 1, [.int .i64 (h'), .int .i64 (m'), .int .i64 (s'), .int .i64 (n')]), (w.heap.size, [.int .i64 (h), .int .i64 (m), .int .i64 (s), .int .i64 (n)])] ((((u5.setCell ⟨y, 0, none⟩ (.int .i64 (h'))).setCell ⟨y, 1, none⟩ (.int .i64 (m'))).setCell ⟨y, 2, none⟩ (.int .i64 (s'))).setCell ⟨y, 3, none⟩ (.int .i64 (n'))) := kp.setAll gh [.int .i64 (h'), .int .i64 (m'), .int .i64 (s'), .int .i64 (n')] _ 0 kk
                have bo : Blk ((((u5.setCell ⟨y, 0, none⟩ (.int .i64 (h'))).setCell ⟨y, 1, none⟩ (.int .i64 (m'))).setCell ⟨y, 2, none⟩ (.int .i64 (s'))).setCell ⟨y, 3, none⟩ (.int .i64 (n'))) x [.int .i64 (h), .int .i64 (m), .int .i64 (s), .int .i64 (n)] := bg.farAll (Ne.symm ne) [.int .i64 (h'), .int .i64 (m'), .int .i64 (s'), .int .i64 (n')] 0
                have bm := bh.self4 (.int .i64 (h')) (.int .i64 (m')) (.int .i64 (s')) (.int .i64 (n'))
                clear bh bg kk
                refine hK.out _ _ kq (fun _ => ?_)
                clear hK K
                try simp only [Act.put, List.setIfInBounds_toArray, List.set_cons_zero, List.set_cons_succ]
                generalize ((((u5.setCell ⟨y, 0, none⟩ (.int .i64 (h'))).setCell ⟨y, 1, none⟩ (.int .i64 (m'))).setCell ⟨y, 2, none⟩ (.int .i64 (s'))).setCell ⟨y, 3, none⟩ (.int .i64 (n'))) = u6 at *
                have bh := bm
                have bg := bo
                have kk := kq
                clear bm bo kq
                refine wpAnyH_done (by kernel_rfl) ?_ _
                refine NoPanic.normal ?_
                go_wp2_with fail
                go_meet
                exact ⟨_, _, rfl, rfl, kp, kk, bg, bh, gg, gh, ne⟩
        · go_simp
          replace st := st.a4 33
          refine hK.out _ _ st.k (fun _ => ?_)
          clear hK K
          try simp only [Act.put, List.setIfInBounds_toArray, List.set_cons_zero, List.set_cons_succ]
          generalize u2.alloc (.cells #[.int .i64 (0), .int .i64 (0), .int .i64 (0), .int .i64 (0)] 33) = u3 at *
          generalize u2.heap.size = x at *
          refine wpAnyH_ready (rs := [3]) (by kernel_rfl) (by simp) ?_
          refine AllReadyH.cons (o := { dst := some 12, op := Op.call { callee := Callee.value (Operand.func 26), args := #[Operand.tmp 11], argTypes := #[23] }, type := 33, pos := "clock.go:93", after := #[{ on := 2, ground := Ground.data }, { on := 1, ground := Ground.chain }], guard := none }) rfl (fun K hK => ?_) (AllReadyH.nil)
          · go_simp
            go_at_call 26
            refine (S2.out _).mono ?_
            rintro e u4 ⟨rfl, k⟩
            replace st := st.below k
            clear k
            refine hK.out _ _ st.k (fun _ => ?_)
            clear hK K
            try simp only [Act.put, List.setIfInBounds_toArray, List.set_cons_zero, List.set_cons_succ]
            refine wpAnyH_ready (rs := [6]) (by kernel_rfl) (by simp) ?_
            refine AllReadyH.cons (o := { dst := none, op := Op.store 33 (Operand.tmp 5) (Operand.tmp 10), type := 0, pos := "clock.go:93", after := #[{ on := 4, ground := Ground.data }, { on := 1, ground := Ground.data }, { on := 3, ground := Ground.chain }, { on := 0, ground := Ground.phase }, { on := 1, ground := Ground.phase }, { on := 2, ground := Ground.textOnly Departure.lateStores }, { on := 3, ground := Ground.textOnly Departure.lateStoresUnsure }, { on := 4, ground := Ground.phase }, { on := 5, ground := Ground.phase }], guard := none }) rfl (fun K hK => ?_) (AllReadyH.nil)
            · have bg := st.al x (by simp)
              have bh := st.al y (by simp)
              have gg := st.ge x (by simp)
              have gh := st.ge y (by simp)
              have ne : x ≠ y := (two_ne st.nd).1
              have kp := st.keep
              have kk := st.k
              clear st
              obtain ⟨_, y0, y1, y2, y3, f0, f1, f2, f3⟩ := bg.four
              go_simp
              clear y0 y1 y2 y3 f0 f1 f2 f3
              have kq : BK w [(w.heap.size + 1, [.int .i64 (h'), .int .i64 (m'), .int .i64 (s'), .int .i64 (n')]), (w.heap.size, [.int .i64 (h), .int .i64 (m), .int .i64 (s), .int .i64 (n)])] ((((u4.setCell ⟨x, 0, none⟩ (.int .i64 (h))).setCell ⟨x, 1, none⟩ (.int .i64 (m))).setCell ⟨x, 2, none⟩ (.int .i64 (s))).setCell ⟨x, 3, none⟩ (.int .i64 (n))) := kp.setAll gg [.int .i64 (h), .int .i64 (m), .int .i64 (s), .int .i64 (n)] _ 0 kk
              have bo : Blk ((((u4.setCell ⟨x, 0, none⟩ (.int .i64 (h))).setCell ⟨x, 1, none⟩ (.int .i64 (m))).setCell ⟨x, 2, none⟩ (.int .i64 (s))).setCell ⟨x, 3, none⟩ (.int .i64 (n))) y [.int .i64 (0), .int .i64 (0), .int .i64 (0), .int .i64 (0)] := bh.farAll ne [.int .i64 (h), .int .i64 (m), .int .i64 (s), .int .i64 (n)] 0
              have bm := bg.self4 (.int .i64 (h)) (.int .i64 (m)) (.int .i64 (s)) (.int .i64 (n))
              clear bg bh kk
              refine hK.out _ _ kq (fun _ => ?_)
              clear hK K
              try simp only [Act.put, List.setIfInBounds_toArray, List.set_cons_zero, List.set_cons_succ]
              generalize ((((u4.setCell ⟨x, 0, none⟩ (.int .i64 (h))).setCell ⟨x, 1, none⟩ (.int .i64 (m))).setCell ⟨x, 2, none⟩ (.int .i64 (s))).setCell ⟨x, 3, none⟩ (.int .i64 (n))) = u5 at *
              have bg := bm
              have bh := bo
              have kk := kq
              clear bm bo kq
              refine wpAnyH_ready (rs := [7]) (by kernel_rfl) (by simp) ?_
              refine AllReadyH.cons (o := { dst := none, op := Op.store 33 (Operand.tmp 6) (Operand.tmp 12), type := 0, pos := "clock.go:93", after := #[{ on := 5, ground := Ground.data }, { on := 3, ground := Ground.data }, { on := 6, ground := Ground.chain }, { on := 0, ground := Ground.phase }, { on := 1, ground := Ground.phase }, { on := 2, ground := Ground.phase }, { on := 3, ground := Ground.phase }, { on := 4, ground := Ground.phase }, { on := 5, ground := Ground.phase }, { on := 6, ground := Ground.phase }], guard := none }) rfl (fun K hK => ?_) (AllReadyH.nil)
              · obtain ⟨_, y0, y1, y2, y3, f0, f1, f2, f3⟩ := bh.four
                go_simp
                clear y0 y1 y2 y3 f0 f1 f2 f3
                have kq : BK w [(w.heap.size + 1, [.int .i64 (h'), .int .i64 (m'), .int .i64 (s'), .int .i64 (n')]), (w.heap.size, [.int .i64 (h), .int .i64 (m), .int .i64 (s), .int .i64 (n)])] ((((u5.setCell ⟨y, 0, none⟩ (.int .i64 (h'))).setCell ⟨y, 1, none⟩ (.int .i64 (m'))).setCell ⟨y, 2, none⟩ (.int .i64 (s'))).setCell ⟨y, 3, none⟩ (.int .i64 (n'))) := kp.setAll gh [.int .i64 (h'), .int .i64 (m'), .int .i64 (s'), .int .i64 (n')] _ 0 kk
                have bo : Blk ((((u5.setCell ⟨y, 0, none⟩ (.int .i64 (h'))).setCell ⟨y, 1, none⟩ (.int .i64 (m'))).setCell ⟨y, 2, none⟩ (.int .i64 (s'))).setCell ⟨y, 3, none⟩ (.int .i64 (n'))) x [.int .i64 (h), .int .i64 (m), .int .i64 (s), .int .i64 (n)] := bg.farAll (Ne.symm ne) [.int .i64 (h'), .int .i64 (m'), .int .i64 (s'), .int .i64 (n')] 0
                have bm := bh.self4 (.int .i64 (h')) (.int .i64 (m')) (.int .i64 (s')) (.int .i64 (n'))
                clear bh bg kk
                refine hK.out _ _ kq (fun _ => ?_)
                clear hK K
                try simp only [Act.put, List.setIfInBounds_toArray, List.set_cons_zero, List.set_cons_succ]
                generalize ((((u5.setCell ⟨y, 0, none⟩ (.int .i64 (h'))).setCell ⟨y, 1, none⟩ (.int .i64 (m'))).setCell ⟨y, 2, none⟩ (.int .i64 (s'))).setCell ⟨y, 3, none⟩ (.int .i64 (n'))) = u6 at *
                have bh := bm
                have bg := bo
                have kk := kq
                clear bm bo kq
                refine wpAnyH_done (by kernel_rfl) ?_ _
                refine NoPanic.normal ?_
                go_wp2_with fail
                go_meet
                exact ⟨_, _, rfl, rfl, kp, kk, bg, bh, gg, gh, ne⟩
    · go_simp
      replace st := st.a4 33
      refine hK.out _ _ st.k (fun _ => ?_)
      clear hK K
      try simp only [Act.put, List.setIfInBounds_toArray, List.set_cons_zero, List.set_cons_succ]
      generalize u0.alloc (.cells #[.int .i64 (0), .int .i64 (0), .int .i64 (0), .int .i64 (0)] 33) = u1 at *
      generalize u0.heap.size = x at *
      refine wpAnyH_ready (rs := [1, 5]) (by kernel_rfl) (by simp) ?_
      refine AllReadyH.cons (o := { dst := some 10, op := Op.call { callee := Callee.value (Operand.func 26), args := #[Operand.tmp 9], argTypes := #[23] }, type := 33, pos := "clock.go:93", after := #[{ on := 0, ground := Ground.data }], guard := none }) rfl (fun K hK => ?_) (AllReadyH.cons (o := { dst := some 6, op := Op.alloc 33, type := 0, pos := "clock.go:93", after := #[], guard := none }) rfl (fun K hK => ?_) (AllReadyH.nil))
      · go_simp
        go_at_call 26
        refine (S1.out _).mono ?_
        rintro e u2 ⟨rfl, k⟩
        replace st := st.below k
        clear k
        refine hK.out _ _ st.k (fun _ => ?_)
        clear hK K
        try simp only [Act.put, List.setIfInBounds_toArray, List.set_cons_zero, List.set_cons_succ]
        refine wpAnyH_ready (rs := [3, 5]) (by kernel_rfl) (by simp) ?_
        refine AllReadyH.cons (o := { dst := some 12, op := Op.call { callee := Callee.value (Operand.func 26), args := #[Operand.tmp 11], argTypes := #[23] }, type := 33, pos := "clock.go:93", after := #[{ on := 2, ground := Ground.data }, { on := 1, ground := Ground.chain }], guard := none }) rfl (fun K hK => ?_) (AllReadyH.cons (o := { dst := some 6, op := Op.alloc 33, type := 0, pos := "clock.go:93", after := #[], guard := none }) rfl (fun K hK => ?_) (AllReadyH.nil))
        · go_simp
          go_at_call 26
          refine (S2.out _).mono ?_
          rintro e u3 ⟨rfl, k⟩
          replace st := st.below k
          clear k
          refine hK.out _ _ st.k (fun _ => ?_)
          clear hK K
          try simp only [Act.put, List.setIfInBounds_toArray, List.set_cons_zero, List.set_cons_succ]
          refine wpAnyH_ready (rs := [5]) (by kernel_rfl) (by simp) ?_
          refine AllReadyH.cons (o := { dst := some 6, op := Op.alloc 33, type := 0, pos := "clock.go:93", after := #[], guard := none }) rfl (fun K hK => ?_) (AllReadyH.nil)
          · go_simp
            replace st := st.a4 33
            refine hK.out _ _ st.k (fun _ => ?_)
            clear hK K
            try simp only [Act.put, List.setIfInBounds_toArray, List.set_cons_zero, List.set_cons_succ]
            generalize u3.alloc (.cells #[.int .i64 (0), .int .i64 (0), .int .i64 (0), .int .i64 (0)] 33) = u4 at *
            generalize u3.heap.size = y at *
            refine wpAnyH_ready (rs := [6]) (by kernel_rfl) (by simp) ?_
            refine AllReadyH.cons (o := { dst := none, op := Op.store 33 (Operand.tmp 5) (Operand.tmp 10), type := 0, pos := "clock.go:93", after := #[{ on := 4, ground := Ground.data }, { on := 1, ground := Ground.data }, { on := 3, ground := Ground.chain }, { on := 0, ground := Ground.phase }, { on := 1, ground := Ground.phase }, { on := 2, ground := Ground.textOnly Departure.lateStores }, { on := 3, ground := Ground.textOnly Departure.lateStoresUnsure }, { on := 4, ground := Ground.phase }, { on := 5, ground := Ground.phase }], guard := none }) rfl (fun K hK => ?_) (AllReadyH.nil)
            · have bg := st.al x (by simp)
              have bh := st.al y (by simp)
              have gg := st.ge x (by simp)
              have gh := st.ge y (by simp)
              have ne : x ≠ y := Ne.symm (two_ne st.nd).1
              have kp := st.keep
              have kk := st.k
              clear st
              obtain ⟨_, y0, y1, y2, y3, f0, f1, f2, f3⟩ := bg.four
              go_simp
              clear y0 y1 y2 y3 f0 f1 f2 f3
              have kq : BK w [(w.heap.size + 1, [.int .i64 (h'), .int .i64 (m'), .int .i64 (s'), .int .i64 (n')]), (w.heap.size, [.int .i64 (h), .int .i64 (m), .int .i64 (s), .int .i64 (n)])] ((((u4.setCell ⟨x, 0, none⟩ (.int .i64 (h))).setCell ⟨x, 1, none⟩ (.int .i64 (m))).setCell ⟨x, 2, none⟩ (.int .i64 (s))).setCell ⟨x, 3, none⟩ (.int .i64 (n))) := kp.setAll gg [.int .i64 (h), .int .i64 (m), .int .i64 (s), .int .i64 (n)] _ 0 kk
              have bo : Blk ((((u4.setCell ⟨x, 0, none⟩ (.int .i64 (h))).setCell ⟨x, 1, none⟩ (.int .i64 (m))).setCell ⟨x, 2, none⟩ (.int .i64 (s))).setCell ⟨x, 3, none⟩ (.int .i64 (n))) y [.int .i64 (0), .int .i64 (0), .int .i64 (0), .int .i64 (0)] := bh.farAll ne [.int .i64 (h), .int .i64 (m), .int .i64 (s), .int .i64 (n)] 0
              have bm := bg.self4 (.int .i64 (h)) (.int .i64 (m)) (.int .i64 (s)) (.int .i64 (n))
              clear bg bh kk
              refine hK.out _ _ kq (fun _ => ?_)
              clear hK K
              try simp only [Act.put, List.setIfInBounds_toArray, List.set_cons_zero, List.set_cons_succ]
              generalize ((((u4.setCell ⟨x, 0, none⟩ (.int .i64 (h))).setCell ⟨x, 1, none⟩ (.int .i64 (m))).setCell ⟨x, 2, none⟩ (.int .i64 (s))).setCell ⟨x, 3, none⟩ (.int .i64 (n))) = u5 at *
              have bg := bm
              have bh := bo
              have kk := kq
              clear bm bo kq
              refine wpAnyH_ready (rs := [7]) (by kernel_rfl) (by simp) ?_
              refine AllReadyH.cons (o := { dst := none, op := Op.store 33 (Operand.tmp 6) (Operand.tmp 12), type := 0, pos := "clock.go:93", after := #[{ on := 5, ground := Ground.data }, { on := 3, ground := Ground.data }, { on := 6, ground := Ground.chain }, { on := 0, ground := Ground.phase }, { on := 1, ground := Ground.phase }, { on := 2, ground := Ground.phase }, { on := 3, ground := Ground.phase }, { on := 4, ground := Ground.phase }, { on := 5, ground := Ground.phase }, { on := 6, ground := Ground.phase }], guard := none }) rfl (fun K hK => ?_) (AllReadyH.nil)
              · obtain ⟨_, y0, y1, y2, y3, f0, f1, f2, f3⟩ := bh.four
                go_simp
                clear y0 y1 y2 y3 f0 f1 f2 f3
                have kq : BK w [(w.heap.size + 1, [.int .i64 (h'), .int .i64 (m'), .int .i64 (s'), .int .i64 (n')]), (w.heap.size, [.int .i64 (h), .int .i64 (m), .int .i64 (s), .int .i64 (n)])] ((((u5.setCell ⟨y, 0, none⟩ (.int .i64 (h'))).setCell ⟨y, 1, none⟩ (.int .i64 (m'))).setCell ⟨y, 2, none⟩ (.int .i64 (s'))).setCell ⟨y, 3, none⟩ (.int .i64 (n'))) := kp.setAll gh [.int .i64 (h'), .int .i64 (m'), .int .i64 (s'), .int .i64 (n')] _ 0 kk
                have bo : Blk ((((u5.setCell ⟨y, 0, none⟩ (.int .i64 (h'))).setCell ⟨y, 1, none⟩ (.int .i64 (m'))).setCell ⟨y, 2, none⟩ (.int .i64 (s'))).setCell ⟨y, 3, none⟩ (.int .i64 (n'))) x [.int .i64 (h), .int .i64 (m), .int .i64 (s), .int .i64 (n)] := bg.farAll (Ne.symm ne) [.int .i64 (h'), .int .i64 (m'), .int .i64 (s'), .int .i64 (n')] 0
                have bm := bh.self4 (.int .i64 (h')) (.int .i64 (m')) (.int .i64 (s')) (.int .i64 (n'))
                clear bh bg kk
                refine hK.out _ _ kq (fun _ => ?_)
                clear hK K
                try simp only [Act.put, List.setIfInBounds_toArray, List.set_cons_zero, List.set_cons_succ]
                generalize ((((u5.setCell ⟨y, 0, none⟩ (.int .i64 (h'))).setCell ⟨y, 1, none⟩ (.int .i64 (m'))).setCell ⟨y, 2, none⟩ (.int .i64 (s'))).setCell ⟨y, 3, none⟩ (.int .i64 (n'))) = u6 at *
                have bh := bm
                have bg := bo
                have kk := kq
                clear bm bo kq
                refine wpAnyH_done (by kernel_rfl) ?_ _
                refine NoPanic.normal ?_
                go_wp2_with fail
                go_meet
                exact ⟨_, _, rfl, rfl, kp, kk, bg, bh, gg, gh, ne⟩
        · go_simp
          replace st := st.a4 33
          refine hK.out _ _ st.k (fun _ => ?_)
          clear hK K
          try simp only [Act.put, List.setIfInBounds_toArray, List.set_cons_zero, List.set_cons_succ]
          generalize u2.alloc (.cells #[.int .i64 (0), .int .i64 (0), .int .i64 (0), .int .i64 (0)] 33) = u3 at *
          generalize u2.heap.size = y at *
          refine wpAnyH_ready (rs := [3]) (by kernel_rfl) (by simp) ?_
          refine AllReadyH.cons (o := { dst := some 12, op := Op.call { callee := Callee.value (Operand.func 26), args := #[Operand.tmp 11], argTypes := #[23] }, type := 33, pos := "clock.go:93", after := #[{ on := 2, ground := Ground.data }, { on := 1, ground := Ground.chain }], guard := none }) rfl (fun K hK => ?_) (AllReadyH.nil)
          · go_simp
            go_at_call 26
            refine (S2.out _).mono ?_
            rintro e u4 ⟨rfl, k⟩
            replace st := st.below k
            clear k
            refine hK.out _ _ st.k (fun _ => ?_)
            clear hK K
            try simp only [Act.put, List.setIfInBounds_toArray, List.set_cons_zero, List.set_cons_succ]
            refine wpAnyH_ready (rs := [6]) (by kernel_rfl) (by simp) ?_
            refine AllReadyH.cons (o := { dst := none, op := Op.store 33 (Operand.tmp 5) (Operand.tmp 10), type := 0, pos := "clock.go:93", after := #[{ on := 4, ground := Ground.data }, { on := 1, ground := Ground.data }, { on := 3, ground := Ground.chain }, { on := 0, ground := Ground.phase }, { on := 1, ground := Ground.phase }, { on := 2, ground := Ground.textOnly Departure.lateStores }, { on := 3, ground := Ground.textOnly Departure.lateStoresUnsure }, { on := 4, ground := Ground.phase }, { on := 5, ground := Ground.phase }], guard := none }) rfl (fun K hK => ?_) (AllReadyH.nil)
            · have bg := st.al x (by simp)
              have bh := st.al y (by simp)
              have gg := st.ge x (by simp)
              have gh := st.ge y (by simp)
              have ne : x ≠ y := Ne.symm (two_ne st.nd).1
              have kp := st.keep
              have kk := st.k
              clear st
              obtain ⟨_, y0, y1, y2, y3, f0, f1, f2, f3⟩ := bg.four
              go_simp
              clear y0 y1 y2 y3 f0 f1 f2 f3
              have kq : BK w [(w.heap.size + 1, [.int .i64 (h'), .int .i64 (m'), .int .i64 (s'), .int .i64 (n')]), (w.heap.size, [.int .i64 (h), .int .i64 (m), .int .i64 (s), .int .i64 (n)])] ((((u4.setCell ⟨x, 0, none⟩ (.int .i64 (h))).setCell ⟨x, 1, none⟩ (.int .i64 (m))).setCell ⟨x, 2, none⟩ (.int .i64 (s))).setCell ⟨x, 3, none⟩ (.int .i64 (n))) := kp.setAll gg [.int .i64 (h), .int .i64 (m), .int .i64 (s), .int .i64 (n)] _ 0 kk
              have bo : Blk ((((u4.setCell ⟨x, 0, none⟩ (.int .i64 (h))).setCell ⟨x, 1, none⟩ (.int .i64 (m))).setCell ⟨x, 2, none⟩ (.int .i64 (s))).setCell ⟨x, 3, none⟩ (.int .i64 (n))) y [.int .i64 (0), .int .i64 (0), .int .i64 (0), .int .i64 (0)] := bh.farAll ne [.int .i64 (h), .int .i64 (m), .int .i64 (s), .int .i64 (n)] 0
              have bm := bg.self4 (.int .i64 (h)) (.int .i64 (m)) (.int .i64 (s)) (.int .i64 (n))
              clear bg bh kk
              refine hK.out _ _ kq (fun _ => ?_)
              clear hK K
              try simp only [Act.put, List.setIfInBounds_toArray, List.set_cons_zero, List.set_cons_succ]
              generalize ((((u4.setCell ⟨x, 0, none⟩ (.int .i64 (h))).setCell ⟨x, 1, none⟩ (.int .i64 (m))).setCell ⟨x, 2, none⟩ (.int .i64 (s))).setCell ⟨x, 3, none⟩ (.int .i64 (n))) = u5 at *
              have bg := bm
              have bh := bo
              have kk := kq
              clear bm bo kq
              refine wpAnyH_ready (rs := [7]) (by kernel_rfl) (by simp) ?_
              refine AllReadyH.cons (o := { dst := none, op := Op.store 33 (Operand.tmp 6) (Operand.tmp 12), type := 0, pos := "clock.go:93", after := #[{ on := 5, ground := Ground.data }, { on := 3, ground := Ground.data }, { on := 6, ground := Ground.chain }, { on := 0, ground := Ground.phase }, { on := 1, ground := Ground.phase }, { on := 2, ground := Ground.phase }, { on := 3, ground := Ground.phase }, { on := 4, ground := Ground.phase }, { on := 5, ground := Ground.phase }, { on := 6, ground := Ground.phase }], guard := none }) rfl (fun K hK => ?_) (AllReadyH.nil)
              · obtain ⟨_, y0, y1, y2, y3, f0, f1, f2, f3⟩ := bh.four
                go_simp
                clear y0 y1 y2 y3 f0 f1 f2 f3
                have kq : BK w [(w.heap.size + 1, [.int .i64 (h'), .int .i64 (m'), .int .i64 (s'), .int .i64 (n')]), (w.heap.size, [.int .i64 (h), .int .i64 (m), .int .i64 (s), .int .i64 (n)])] ((((u5.setCell ⟨y, 0, none⟩ (.int .i64 (h'))).setCell ⟨y, 1, none⟩ (.int .i64 (m'))).setCell ⟨y, 2, none⟩ (.int .i64 (s'))).setCell ⟨y, 3, none⟩ (.int .i64 (n'))) := kp.setAll gh [.int .i64 (h'), .int .i64 (m'), .int .i64 (s'), .int .i64 (n')] _ 0 kk
                have bo : Blk ((((u5.setCell ⟨y, 0, none⟩ (.int .i64 (h'))).setCell ⟨y, 1, none⟩ (.int .i64 (m'))).setCell ⟨y, 2, none⟩ (.int .i64 (s'))).setCell ⟨y, 3, none⟩ (.int .i64 (n'))) x [.int .i64 (h), .int .i64 (m), .int .i64 (s), .int .i64 (n)] := bg.farAll (Ne.symm ne) [.int .i64 (h'), .int .i64 (m'), .int .i64 (s'), .int .i64 (n')] 0
                have bm := bh.self4 (.int .i64 (h')) (.int .i64 (m')) (.int .i64 (s')) (.int .i64 (n'))
                clear bh bg kk
                refine hK.out _ _ kq (fun _ => ?_)
                clear hK K
                try simp only [Act.put, List.setIfInBounds_toArray, List.set_cons_zero, List.set_cons_succ]
                generalize ((((u5.setCell ⟨y, 0, none⟩ (.int .i64 (h'))).setCell ⟨y, 1, none⟩ (.int .i64 (m'))).setCell ⟨y, 2, none⟩ (.int .i64 (s'))).setCell ⟨y, 3, none⟩ (.int .i64 (n'))) = u6 at *
                have bh := bm
                have bg := bo
                have kk := kq
                clear bm bo kq
                refine wpAnyH_done (by kernel_rfl) ?_ _
                refine NoPanic.normal ?_
                go_wp2_with fail
                go_meet
                exact ⟨_, _, rfl, rfl, kp, kk, bg, bh, gg, gh, ne⟩
      · go_simp
        replace st := st.a4 33
        refine hK.out _ _ st.k (fun _ => ?_)
        clear hK K
        try simp only [Act.put, List.setIfInBounds_toArray, List.set_cons_zero, List.set_cons_succ]
        generalize u1.alloc (.cells #[.int .i64 (0), .int .i64 (0), .int .i64 (0), .int .i64 (0)] 33) = u2 at *
        generalize u1.heap.size = y at *
        refine wpAnyH_ready (rs := [1]) (by kernel_rfl) (by simp) ?_
        refine AllReadyH.cons (o := { dst := some 10, op := Op.call { callee := Callee.value (Operand.func 26), args := #[Operand.tmp 9], argTypes := #[23] }, type := 33, pos := "clock.go:93", after := #[{ on := 0, ground := Ground.data }], guard := none }) rfl (fun K hK => ?_) (AllReadyH.nil)
        · go_simp
          go_at_call 26
          refine (S1.out _).mono ?_
          rintro e u3 ⟨rfl, k⟩
          replace st := st.below k
          clear k
          refine hK.out _ _ st.k (fun _ => ?_)
          clear hK K
          try simp only [Act.put, List.setIfInBounds_toArray, List.set_cons_zero, List.set_cons_succ]
          refine wpAnyH_ready (rs := [3]) (by kernel_rfl) (by simp) ?_
          refine AllReadyH.cons (o := { dst := some 12, op := Op.call { callee := Callee.value (Operand.func 26), args := #[Operand.tmp 11], argTypes := #[23] }, type := 33, pos := "clock.go:93", after := #[{ on := 2, ground := Ground.data }, { on := 1, ground := Ground.chain }], guard := none }) rfl (fun K hK => ?_) (AllReadyH.nil)
          · go_simp
            go_at_call 26
            refine (S2.out _).mono ?_
            rintro e u4 ⟨rfl, k⟩
            replace st := st.below k
            clear k
            refine hK.out _ _ st.k (fun _ => ?_)
            clear hK K
            try simp only [Act.put, List.setIfInBounds_toArray, List.set_cons_zero, List.set_cons_succ]
            refine wpAnyH_ready (rs := [6]) (by kernel_rfl) (by simp) ?_
            refine AllReadyH.cons (o := { dst := none, op := Op.store 33 (Operand.tmp 5) (Operand.tmp 10), type := 0, pos := "clock.go:93", after := #[{ on := 4, ground := Ground.data }, { on := 1, ground := Ground.data }, { on := 3, ground := Ground.chain }, { on := 0, ground := Ground.phase }, { on := 1, ground := Ground.phase }, { on := 2, ground := Ground.textOnly Departure.lateStores }, { on := 3, ground := Ground.textOnly Departure.lateStoresUnsure }, { on := 4, ground := Ground.phase }, { on := 5, ground := Ground.phase }], guard := none }) rfl (fun K hK => ?_) (AllReadyH.nil)
            · have bg := st.al x (by simp)
              have bh := st.al y (by simp)
              have gg := st.ge x (by simp)
              have gh := st.ge y (by simp)
              have ne : x ≠ y := Ne.symm (two_ne st.nd).1
              have kp := st.keep
              have kk := st.k
              clear st
              obtain ⟨_, y0, y1, y2, y3, f0, f1, f2, f3⟩ := bg.four
              go_simp
              clear y0 y1 y2 y3 f0 f1 f2 f3
              have kq : BK w [(w.heap.size + 1, [.int .i64 (h'), .int .i64 (m'), .int .i64 (s'), .int .i64 (n')]), (w.heap.size, [.int .i64 (h), .int .i64 (m), .int .i64 (s), .int .i64 (n)])] ((((u4.setCell ⟨x, 0, none⟩ (.int .i64 (h))).setCell ⟨x, 1, none⟩ (.int .i64 (m))).setCell ⟨x, 2, none⟩ (.int .i64 (s))).setCell ⟨x, 3, none⟩ (.int .i64 (n))) := kp.setAll gg [.int .i64 (h), .int .i64 (m), .int .i64 (s), .int .i64 (n)] _ 0 kk
              have bo : Blk ((((u4.setCell ⟨x, 0, none⟩ (.int .i64 (h))).setCell ⟨x, 1, none⟩ (.int .i64 (m))).setCell ⟨x, 2, none⟩ (.int .i64 (s))).setCell ⟨x, 3, none⟩ (.int .i64 (n))) y [.int .i64 (0), .int .i64 (0), .int .i64 (0), .int .i64 (0)] := bh.farAll ne [.int .i64 (h), .int .i64 (m), .int .i64 (s), .int .i64 (n)] 0
              have bm := bg.self4 (.int .i64 (h)) (.int .i64 (m)) (.int .i64 (s)) (.int .i64 (n))
              clear bg bh kk
              refine hK.out _ _ kq (fun _ => ?_)
              clear hK K
              try simp only [Act.put, List.setIfInBounds_toArray, List.set_cons_zero, List.set_cons_succ]
              generalize ((((u4.setCell ⟨x, 0, none⟩ (.int .i64 (h))).setCell ⟨x, 1, none⟩ (.int .i64 (m))).setCell ⟨x, 2, none⟩ (.int .i64 (s))).setCell ⟨x, 3, none⟩ (.int .i64 (n))) = u5 at *
              have bg := bm
              have bh := bo
              have kk := kq
              clear bm bo kq
              refine wpAnyH_ready (rs := [7]) (by kernel_rfl) (by simp) ?_
              refine AllReadyH.cons (o := { dst := none, op := Op.store 33 (Operand.tmp 6) (Operand.tmp 12), type := 0, pos := "clock.go:93", after := #[{ on := 5, ground := Ground.data }, { on := 3, ground := Ground.data }, { on := 6, ground := Ground.chain }, { on := 0, ground := Ground.phase }, { on := 1, ground := Ground.phase }, { on := 2, ground := Ground.phase }, { on := 3, ground := Ground.phase }, { on := 4, ground := Ground.phase }, { on := 5, ground := Ground.phase }, { on := 6, ground := Ground.phase }], guard := none }) rfl (fun K hK => ?_) (AllReadyH.nil)
              · obtain ⟨_, y0, y1, y2, y3, f0, f1, f2, f3⟩ := bh.four
                go_simp
                clear y0 y1 y2 y3 f0 f1 f2 f3
                have kq : BK w [(w.heap.size + 1, [.int .i64 (h'), .int .i64 (m'), .int .i64 (s'), .int .i64 (n')]), (w.heap.size, [.int .i64 (h), .int .i64 (m), .int .i64 (s), .int .i64 (n)])] ((((u5.setCell ⟨y, 0, none⟩ (.int .i64 (h'))).setCell ⟨y, 1, none⟩ (.int .i64 (m'))).setCell ⟨y, 2, none⟩ (.int .i64 (s'))).setCell ⟨y, 3, none⟩ (.int .i64 (n'))) := kp.setAll gh [.int .i64 (h'), .int .i64 (m'), .int .i64 (s'), .int .i64 (n')] _ 0 kk
                have bo : Blk ((((u5.setCell ⟨y, 0, none⟩ (.int .i64 (h'))).setCell ⟨y, 1, none⟩ (.int .i64 (m'))).setCell ⟨y, 2, none⟩ (.int .i64 (s'))).setCell ⟨y, 3, none⟩ (.int .i64 (n'))) x [.int .i64 (h), .int .i64 (m), .int .i64 (s), .int .i64 (n)] := bg.farAll (Ne.symm ne) [.int .i64 (h'), .int .i64 (m'), .int .i64 (s'), .int .i64 (n')] 0
                have bm := bh.self4 (.int .i64 (h')) (.int .i64 (m')) (.int .i64 (s')) (.int .i64 (n'))
                clear bh bg kk
                refine hK.out _ _ kq (fun _ => ?_)
                clear hK K
                try simp only [Act.put, List.setIfInBounds_toArray, List.set_cons_zero, List.set_cons_succ]
                generalize ((((u5.setCell ⟨y, 0, none⟩ (.int .i64 (h'))).setCell ⟨y, 1, none⟩ (.int .i64 (m'))).setCell ⟨y, 2, none⟩ (.int .i64 (s'))).setCell ⟨y, 3, none⟩ (.int .i64 (n'))) = u6 at *
                have bh := bm
                have bg := bo
                have kk := kq
                clear bm bo kq
                refine wpAnyH_done (by kernel_rfl) ?_ _
                refine NoPanic.normal ?_
                go_wp2_with fail
                go_meet
                exact ⟨_, _, rfl, rfl, kp, kk, bg, bh, gg, gh, ne⟩
    · go_simp
      replace st := st.a4 33
      refine hK.out _ _ st.k (fun _ => ?_)
      clear hK K
      try simp only [Act.put, List.setIfInBounds_toArray, List.set_cons_zero, List.set_cons_succ]
      generalize u0.alloc (.cells #[.int .i64 (0), .int .i64 (0), .int .i64 (0), .int .i64 (0)] 33) = u1 at *
      generalize u0.heap.size = y at *
      refine wpAnyH_ready (rs := [1, 4]) (by kernel_rfl) (by simp) ?_
      refine AllReadyH.cons (o := { dst := some 10, op := Op.call { callee := Callee.value (Operand.func 26), args := #[Operand.tmp 9], argTypes := #[23] }, type := 33, pos := "clock.go:93", after := #[{ on := 0, ground := Ground.data }], guard := none }) rfl (fun K hK => ?_) (AllReadyH.cons (o := { dst := some 5, op := Op.alloc 33, type := 0, pos := "clock.go:93", after := #[], guard := none }) rfl (fun K hK => ?_) (AllReadyH.nil))
      · go_simp
        go_at_call 26
        refine (S1.out _).mono ?_
        rintro e u2 ⟨rfl, k⟩
        replace st := st.below k
        clear k
        refine hK.out _ _ st.k (fun _ => ?_)
        clear hK K
        try simp only [Act.put, List.setIfInBounds_toArray, List.set_cons_zero, List.set_cons_succ]
        refine wpAnyH_ready (rs := [3, 4]) (by kernel_rfl) (by simp) ?_
        refine AllReadyH.cons (o := { dst := some 12, op := Op.call { callee := Callee.value (Operand.func 26), args := #[Operand.tmp 11], argTypes := #[23] }, type := 33, pos := "clock.go:93", after := #[{ on := 2, ground := Ground.data }, { on := 1, ground := Ground.chain }], guard := none }) rfl (fun K hK => ?_) (AllReadyH.cons (o := { dst := some 5, op := Op.alloc 33, type := 0, pos := "clock.go:93", after := #[], guard := none }) rfl (fun K hK => ?_) (AllReadyH.nil))
        · go_simp
          go_at_call 26
          refine (S2.out _).mono ?_
          rintro e u3 ⟨rfl, k⟩
          replace st := st.below k
          clear k
          refine hK.out _ _ st.k (fun _ => ?_)
          clear hK K
          try simp only [Act.put, List.setIfInBounds_toArray, List.set_cons_zero, List.set_cons_succ]
          refine wpAnyH_ready (rs := [4]) (by kernel_rfl) (by simp) ?_
          refine AllReadyH.cons (o := { dst := some 5, op := Op.alloc 33, type := 0, pos := "clock.go:93", after := #[], guard := none }) rfl (fun K hK => ?_) (AllReadyH.nil)
          · go_simp
            replace st := st.a4 33
            refine hK.out _ _ st.k (fun _ => ?_)
            clear hK K
            try simp only [Act.put, List.setIfInBounds_toArray, List.set_cons_zero, List.set_cons_succ]
            generalize u3.alloc (.cells #[.int .i64 (0), .int .i64 (0), .int .i64 (0), .int .i64 (0)] 33) = u4 at *
            generalize u3.heap.size = x at *
            refine wpAnyH_ready (rs := [6]) (by kernel_rfl) (by simp) ?_
            refine AllReadyH.cons (o := { dst := none, op := Op.store 33 (Operand.tmp 5) (Operand.tmp 10), type := 0, pos := "clock.go:93", after := #[{ on := 4, ground := Ground.data }, { on := 1, ground := Ground.data }, { on := 3, ground := Ground.chain }, { on := 0, ground := Ground.phase }, { on := 1, ground := Ground.phase }, { on := 2, ground := Ground.textOnly Departure.lateStores }, { on := 3, ground := Ground.textOnly Departure.lateStoresUnsure }, { on := 4, ground := Ground.phase }, { on := 5, ground := Ground.phase }], guard := none }) rfl (fun K hK => ?_) (AllReadyH.nil)
            · have bg := st.al x (by simp)
              have bh := st.al y (by simp)
              have gg := st.ge x (by simp)
              have gh := st.ge y (by simp)
              have ne : x ≠ y := (two_ne st.nd).1
              have kp := st.keep
              have kk := st.k
              clear st
              obtain ⟨_, y0, y1, y2, y3, f0, f1, f2, f3⟩ := bg.four
              go_simp
              clear y0 y1 y2 y3 f0 f1 f2 f3
              have kq : BK w [(w.heap.size + 1, [.int .i64 (h'), .int .i64 (m'), .int .i64 (s'), .int .i64 (n')]), (w.heap.size, [.int .i64 (h), .int .i64 (m), .int .i64 (s), .int .i64 (n)])] ((((u4.setCell ⟨x, 0, none⟩ (.int .i64 (h))).setCell ⟨x, 1, none⟩ (.int .i64 (m))).setCell ⟨x, 2, none⟩ (.int .i64 (s))).setCell ⟨x, 3, none⟩ (.int .i64 (n))) := kp.setAll gg [.int .i64 (h), .int .i64 (m), .int .i64 (s), .int .i64 (n)] _ 0 kk
              have bo : Blk ((((u4.setCell ⟨x, 0, none⟩ (.int .i64 (h))).setCell ⟨x, 1, none⟩ (.int .i64 (m))).setCell ⟨x, 2, none⟩ (.int .i64 (s))).setCell ⟨x, 3, none⟩ (.int .i64 (n))) y [.int .i64 (0), .int .i64 (0), .int .i64 (0), .int .i64 (0)] := bh.farAll ne [.int .i64 (h), .int .i64 (m), .int .i64 (s), .int .i64 (n)] 0
              have bm := bg.self4 (.int .i64 (h)) (.int .i64 (m)) (.int .i64 (s)) (.int .i64 (n))
              clear bg bh kk
              refine hK.out _ _ kq (fun _ => ?_)
              clear hK K
              try simp only [Act.put, List.setIfInBounds_toArray, List.set_cons_zero, List.set_cons_succ]
              generalize ((((u4.setCell ⟨x, 0, none⟩ (.int .i64 (h))).setCell ⟨x, 1, none⟩ (.int .i64 (m))).setCell ⟨x, 2, none⟩ (.int .i64 (s))).setCell ⟨x, 3, none⟩ (.int .i64 (n))) = u5 at *
              have bg := bm
              have bh := bo
              have kk := kq
              clear bm bo kq
              refine wpAnyH_ready (rs := [7]) (by kernel_rfl) (by simp) ?_
              refine AllReadyH.cons (o := { dst := none, op := Op.store 33 (Operand.tmp 6) (Operand.tmp 12), type := 0, pos := "clock.go:93", after := #[{ on := 5, ground := Ground.data }, { on := 3, ground := Ground.data }, { on := 6, ground := Ground.chain }, { on := 0, ground := Ground.phase }, { on := 1, ground := Ground.phase }, { on := 2, ground := Ground.phase }, { on := 3, ground := Ground.phase }, { on := 4, ground := Ground.phase }, { on := 5, ground := Ground.phase }, { on := 6, ground := Ground.phase }], guard := none }) rfl (fun K hK => ?_) (AllReadyH.nil)
              · obtain ⟨_, y0, y1, y2, y3, f0, f1, f2, f3⟩ := bh.four
                go_simp
                clear y0 y1 y2 y3 f0 f1 f2 f3
                have kq : BK w [(w.heap.size + 1, [.int .i64 (h'), .int .i64 (m'), .int .i64 (s'), .int .i64 (n')]), (w.heap.size, [.int .i64 (h), .int .i64 (m), .int .i64 (s), .int .i64 (n)])] ((((u5.setCell ⟨y, 0, none⟩ (.int .i64 (h'))).setCell ⟨y, 1, none⟩ (.int .i64 (m'))).setCell ⟨y, 2, none⟩ (.int .i64 (s'))).setCell ⟨y, 3, none⟩ (.int .i64 (n'))) := kp.setAll gh [.int .i64 (h'), .int .i64 (m'), .int .i64 (s'), .int .i64 (n')] _ 0 kk
                have bo : Blk ((((u5.setCell ⟨y, 0, none⟩ (.int .i64 (h'))).setCell ⟨y, 1, none⟩ (.int .i64 (m'))).setCell ⟨y, 2, none⟩ (.int .i64 (s'))).setCell ⟨y, 3, none⟩ (.int .i64 (n'))) x [.int .i64 (h), .int .i64 (m), .int .i64 (s), .int .i64 (n)] := bg.farAll (Ne.symm ne) [.int .i64 (h'), .int .i64 (m'), .int .i64 (s'), .int .i64 (n')] 0
                have bm := bh.self4 (.int .i64 (h')) (.int .i64 (m')) (.int .i64 (s')) (.int .i64 (n'))
                clear bh bg kk
                refine hK.out _ _ kq (fun _ => ?_)
                clear hK K
                try simp only [Act.put, List.setIfInBounds_toArray, List.set_cons_zero, List.set_cons_succ]
                generalize ((((u5.setCell ⟨y, 0, none⟩ (.int .i64 (h'))).setCell ⟨y, 1, none⟩ (.int .i64 (m'))).setCell ⟨y, 2, none⟩ (.int .i64 (s'))).setCell ⟨y, 3, none⟩ (.int .i64 (n'))) = u6 at *
                have bh := bm
                have bg := bo
                have kk := kq
                clear bm bo kq
                refine wpAnyH_done (by kernel_rfl) ?_ _
                refine NoPanic.normal ?_
                go_wp2_with fail
                go_meet
                exact ⟨_, _, rfl, rfl, kp, kk, bg, bh, gg, gh, ne⟩
        · go_simp
          replace st := st.a4 33
          refine hK.out _ _ st.k (fun _ => ?_)
          clear hK K
          try simp only [Act.put, List.setIfInBounds_toArray, List.set_cons_zero, List.set_cons_succ]
          generalize u2.alloc (.cells #[.int .i64 (0), .int .i64 (0), .int .i64 (0), .int .i64 (0)] 33) = u3 at *
          generalize u2.heap.size = x at *
          refine wpAnyH_ready (rs := [3]) (by kernel_rfl) (by simp) ?_
          refine AllReadyH.cons (o := { dst := some 12, op := Op.call { callee := Callee.value (Operand.func 26), args := #[Operand.tmp 11], argTypes := #[23] }, type := 33, pos := "clock.go:93", after := #[{ on := 2, ground := Ground.data }, { on := 1, ground := Ground.chain }], guard := none }) rfl (fun K hK => ?_) (AllReadyH.nil)
          · go_simp
            go_at_call 26
            refine (S2.out _).mono ?_
            rintro e u4 ⟨rfl, k⟩
            replace st := st.below k
            clear k
            refine hK.out _ _ st.k (fun _ => ?_)
            clear hK K
            try simp only [Act.put, List.setIfInBounds_toArray, List.set_cons_zero, List.set_cons_succ]
            refine wpAnyH_ready (rs := [6]) (by kernel_rfl) (by simp) ?_
            refine AllReadyH.cons (o := { dst := none, op := Op.store 33 (Operand.tmp 5) (Operand.tmp 10), type := 0, pos := "clock.go:93", after := #[{ on := 4, ground := Ground.data }, { on := 1, ground := Ground.data }, { on := 3, ground := Ground.chain }, { on := 0, ground := Ground.phase }, { on := 1, ground := Ground.phase }, { on := 2, ground := Ground.textOnly Departure.lateStores }, { on := 3, ground := Ground.textOnly Departure.lateStoresUnsure }, { on := 4, ground := Ground.phase }, { on := 5, ground := Ground.phase }], guard := none }) rfl (fun K hK => ?_) (AllReadyH.nil)
            · have bg := st.al x (by simp)
              have bh := st.al y (by simp)
              have gg := st.ge x (by simp)
              have gh := st.ge y (by simp)
              have ne : x ≠ y := (two_ne st.nd).1
              have kp := st.keep
              have kk := st.k
              clear st
              obtain ⟨_, y0, y1, y2, y3, f0, f1, f2, f3⟩ := bg.four
              go_simp
              clear y0 y1 y2 y3 f0 f1 f2 f3
              have kq : BK w [(w.heap.size + 1, [.int .i64 (h'), .int .i64 (m'), .int .i64 (s'), .int .i64 (n')]), (w.heap.size, [.int .i64 (h), .int .i64 (m), .int .i64 (s), .int .i64 (n)])] ((((u4.setCell ⟨x, 0, none⟩ (.int .i64 (h))).setCell ⟨x, 1, none⟩ (.int .i64 (m))).setCell ⟨x, 2, none⟩ (.int .i64 (s))).setCell ⟨x, 3, none⟩ (.int .i64 (n))) := kp.setAll gg [.int .i64 (h), .int .i64 (m), .int .i64 (s), .int .i64 (n)] _ 0 kk
              have bo : Blk ((((u4.setCell ⟨x, 0, none⟩ (.int .i64 (h))).setCell ⟨x, 1, none⟩ (.int .i64 (m))).setCell ⟨x, 2, none⟩ (.int .i64 (s))).setCell ⟨x, 3, none⟩ (.int .i64 (n))) y [.int .i64 (0), .int .i64 (0), .int .i64 (0), .int .i64 (0)] := bh.farAll ne [.int .i64 (h), .int .i64 (m), .int .i64 (s), .int .i64 (n)] 0
              have bm := bg.self4 (.int .i64 (h)) (.int .i64 (m)) (.int .i64 (s)) (.int .i64 (n))
              clear bg bh kk
              refine hK.out _ _ kq (fun _ => ?_)
              clear hK K
              try simp only [Act.put, List.setIfInBounds_toArray, List.set_cons_zero, List.set_cons_succ]
              generalize ((((u4.setCell ⟨x, 0, none⟩ (.int .i64 (h))).setCell ⟨x, 1, none⟩ (.int .i64 (m))).setCell ⟨x, 2, none⟩ (.int .i64 (s))).setCell ⟨x, 3, none⟩ (.int .i64 (n))) = u5 at *
              have bg := bm
              have bh := bo
              have kk := kq
              clear bm bo kq
              refine wpAnyH_ready (rs := [7]) (by kernel_rfl) (by simp) ?_
              refine AllReadyH.cons (o := { dst := none, op := Op.store 33 (Operand.tmp 6) (Operand.tmp 12), type := 0, pos := "clock.go:93", after := #[{ on := 5, ground := Ground.data }, { on := 3, ground := Ground.data }, { on := 6, ground := Ground.chain }, { on := 0, ground := Ground.phase }, { on := 1, ground := Ground.phase }, { on := 2, ground := Ground.phase }, { on := 3, ground := Ground.phase }, { on := 4, ground := Ground.phase }, { on := 5, ground := Ground.phase }, { on := 6, ground := Ground.phase }], guard := none }) rfl (fun K hK => ?_) (AllReadyH.nil)
              · obtain ⟨_, y0, y1, y2, y3, f0, f1, f2, f3⟩ := bh.four
                go_simp
                clear y0 y1 y2 y3 f0 f1 f2 f3
                have kq : BK w [(w.heap.size + 1, [.int .i64 (h'), .int .i64 (m'), .int .i64 (s'), .int .i64 (n')]), (w.heap.size, [.int .i64 (h), .int .i64 (m), .int .i64 (s), .int .i64 (n)])] ((((u5.setCell ⟨y, 0, none⟩ (.int .i64 (h'))).setCell ⟨y, 1, none⟩ (.int .i64 (m'))).setCell ⟨y, 2, none⟩ (.int .i64 (s'))).setCell ⟨y, 3, none⟩ (.int .i64 (n'))) := kp.setAll gh [.int .i64 (h'), .int .i64 (m'), .int .i64 (s'), .int .i64 (n')] _ 0 kk
                have bo : Blk ((((u5.setCell ⟨y, 0, none⟩ (.int .i64 (h'))).setCell ⟨y, 1, none⟩ (.int .i64 (m'))).setCell ⟨y, 2, none⟩ (.int .i64 (s'))).setCell ⟨y, 3, none⟩ (.int .i64 (n'))) x [.int .i64 (h), .int .i64 (m), .int .i64 (s), .int .i64 (n)] := bg.farAll (Ne.symm ne) [.int .i64 (h'), .int .i64 (m'), .int .i64 (s'), .int .i64 (n')] 0
                have bm := bh.self4 (.int .i64 (h')) (.int .i64 (m')) (.int .i64 (s')) (.int .i64 (n'))
                clear bh bg kk
                refine hK.out _ _ kq (fun _ => ?_)
                clear hK K
                try simp only [Act.put, List.setIfInBounds_toArray, List.set_cons_zero, List.set_cons_succ]
                generalize ((((u5.setCell ⟨y, 0, none⟩ (.int .i64 (h'))).setCell ⟨y, 1, none⟩ (.int .i64 (m'))).setCell ⟨y, 2, none⟩ (.int .i64 (s'))).setCell ⟨y, 3, none⟩ (.int .i64 (n'))) = u6 at *
                have bh := bm
                have bg := bo
                have kk := kq
                clear bm bo kq
                refine wpAnyH_done (by kernel_rfl) ?_ _
                refine NoPanic.normal ?_
                go_wp2_with fail
                go_meet
                exact ⟨_, _, rfl, rfl, kp, kk, bg, bh, gg, gh, ne⟩
      · go_simp
        replace st := st.a4 33
        refine hK.out _ _ st.k (fun _ => ?_)
        clear hK K
        try simp only [Act.put, List.setIfInBounds_toArray, List.set_cons_zero, List.set_cons_succ]
        generalize u1.alloc (.cells #[.int .i64 (0), .int .i64 (0), .int .i64 (0), .int .i64 (0)] 33) = u2 at *
        generalize u1.heap.size = x at *
        refine wpAnyH_ready (rs := [1]) (by kernel_rfl) (by simp) ?_
        refine AllReadyH.cons (o := { dst := some 10, op := Op.call { callee := Callee.value (Operand.func 26), args := #[Operand.tmp 9], argTypes := #[23] }, type := 33, pos := "clock.go:93", after := #[{ on := 0, ground := Ground.data }], guard := none }) rfl (fun K hK => ?_) (AllReadyH.nil)
        · go_simp
          go_at_call 26
          refine (S1.out _).mono ?_
          rintro e u3 ⟨rfl, k⟩
          replace st := st.below k
          clear k
          refine hK.out _ _ st.k (fun _ => ?_)
          clear hK K
          try simp only [Act.put, List.setIfInBounds_toArray, List.set_cons_zero, List.set_cons_succ]
          refine wpAnyH_ready (rs := [3]) (by kernel_rfl) (by simp) ?_
          refine AllReadyH.cons (o := { dst := some 12, op := Op.call { callee := Callee.value (Operand.func 26), args := #[Operand.tmp 11], argTypes := #[23] }, type := 33, pos := "clock.go:93", after := #[{ on := 2, ground := Ground.data }, { on := 1, ground := Ground.chain }], guard := none }) rfl (fun K hK => ?_) (AllReadyH.nil)
          · go_simp
            go_at_call 26
            refine (S2.out _).mono ?_
            rintro e u4 ⟨rfl, k⟩
            replace st := st.below k
            clear k
            refine hK.out _ _ st.k (fun _ => ?_)
            clear hK K
            try simp only [Act.put, List.setIfInBounds_toArray, List.set_cons_zero, List.set_cons_succ]
            refine wpAnyH_ready (rs := [6]) (by kernel_rfl) (by simp) ?_
            refine AllReadyH.cons (o := { dst := none, op := Op.store 33 (Operand.tmp 5) (Operand.tmp 10), type := 0, pos := "clock.go:93", after := #[{ on := 4, ground := Ground.data }, { on := 1, ground := Ground.data }, { on := 3, ground := Ground.chain }, { on := 0, ground := Ground.phase }, { on := 1, ground := Ground.phase }, { on := 2, ground := Ground.textOnly Departure.lateStores }, { on := 3, ground := Ground.textOnly Departure.lateStoresUnsure }, { on := 4, ground := Ground.phase }, { on := 5, ground := Ground.phase }], guard := none }) rfl (fun K hK => ?_) (AllReadyH.nil)
            · have bg := st.al x (by simp)
              have bh := st.al y (by simp)
              have gg := st.ge x (by simp)
              have gh := st.ge y (by simp)
              have ne : x ≠ y := (two_ne st.nd).1
              have kp := st.keep
              have kk := st.k
              clear st
              obtain ⟨_, y0, y1, y2, y3, f0, f1, f2, f3⟩ := bg.four
              go_simp
              clear y0 y1 y2 y3 f0 f1 f2 f3
              have kq : BK w [(w.heap.size + 1, [.int .i64 (h'), .int .i64 (m'), .int .i64 (s'), .int .i64 (n')]), (w.heap.size, [.int .i64 (h), .int .i64 (m), .int .i64 (s), .int .i64 (n)])] ((((u4.setCell ⟨x, 0, none⟩ (.int .i64 (h))).setCell ⟨x, 1, none⟩ (.int .i64 (m))).setCell ⟨x, 2, none⟩ (.int .i64 (s))).setCell ⟨x, 3, none⟩ (.int .i64 (n))) := kp.setAll gg [.int .i64 (h), .int .i64 (m), .int .i64 (s), .int .i64 (n)] _ 0 kk
              have bo : Blk ((((u4.setCell ⟨x, 0, none⟩ (.int .i64 (h))).setCell ⟨x, 1, none⟩ (.int .i64 (m))).setCell ⟨x, 2, none⟩ (.int .i64 (s))).setCell ⟨x, 3, none⟩ (.int .i64 (n))) y [.int .i64 (0), .int .i64 (0), .int .i64 (0), .int .i64 (0)] := bh.farAll ne [.int .i64 (h), .int .i64 (m), .int .i64 (s), .int .i64 (n)] 0
              have bm := bg.self4 (.int .i64 (h)) (.int .i64 (m)) (.int .i64 (s)) (.int .i64 (n))
              clear bg bh kk
              refine hK.out _ _ kq (fun _ => ?_)
              clear hK K
              try simp only [Act.put, List.setIfInBounds_toArray, List.set_cons_zero, List.set_cons_succ]
              generalize ((((u4.setCell ⟨x, 0, none⟩ (.int .i64 (h))).setCell ⟨x, 1, none⟩ (.int .i64 (m))).setCell ⟨x, 2, none⟩ (.int .i64 (s))).setCell ⟨x, 3, none⟩ (.int .i64 (n))) = u5 at *
              have bg := bm
              have bh := bo
              have kk := kq
              clear bm bo kq
              refine wpAnyH_ready (rs := [7]) (by kernel_rfl) (by simp) ?_
              refine AllReadyH.cons (o := { dst := none, op := Op.store 33 (Operand.tmp 6) (Operand.tmp 12), type := 0, pos := "clock.go:93", after := #[{ on := 5, ground := Ground.data }, { on := 3, ground := Ground.data }, { on := 6, ground := Ground.chain }, { on := 0, ground := Ground.phase }, { on := 1, ground := Ground.phase }, { on := 2, ground := Ground.phase }, { on := 3, ground := Ground.phase }, { on := 4, ground := Ground.phase }, { on := 5, ground := Ground.phase }, { on := 6, ground := Ground.phase }], guard := none }) rfl (fun K hK => ?_) (AllReadyH.nil)
              · obtain ⟨_, y0, y1, y2, y3, f0, f1, f2, f3⟩ := bh.four
                go_simp
                clear y0 y1 y2 y3 f0 f1 f2 f3
                have kq : BK w [(w.heap.size + 1, [.int .i64 (h'), .int .i64 (m'), .int .i64 (s'), .int .i64 (n')]), (w.heap.size, [.int .i64 (h), .int .i64 (m), .int .i64 (s), .int .i64 (n)])] ((((u5.setCell ⟨y, 0, none⟩ (.int .i64 (h'))).setCell ⟨y, 1, none⟩ (.int .i64 (m'))).setCell ⟨y, 2, none⟩ (.int .i64 (s'))).setCell ⟨y, 3, none⟩ (.int .i64 (n'))) := kp.setAll gh [.int .i64 (h'), .int .i64 (m'), .int .i64 (s'), .int .i64 (n')] _ 0 kk
                have bo : Blk ((((u5.setCell ⟨y, 0, none⟩ (.int .i64 (h'))).setCell ⟨y, 1, none⟩ (.int .i64 (m'))).setCell ⟨y, 2, none⟩ (.int .i64 (s'))).setCell ⟨y, 3, none⟩ (.int .i64 (n'))) x [.int .i64 (h), .int .i64 (m), .int .i64 (s), .int .i64 (n)] := bg.farAll (Ne.symm ne) [.int .i64 (h'), .int .i64 (m'), .int .i64 (s'), .int .i64 (n')] 0
                have bm := bh.self4 (.int .i64 (h')) (.int .i64 (m')) (.int .i64 (s')) (.int .i64 (n'))
                clear bh bg kk
                refine hK.out _ _ kq (fun _ => ?_)
                clear hK K
                try simp only [Act.put, List.setIfInBounds_toArray, List.set_cons_zero, List.set_cons_succ]
                generalize ((((u5.setCell ⟨y, 0, none⟩ (.int .i64 (h'))).setCell ⟨y, 1, none⟩ (.int .i64 (m'))).setCell ⟨y, 2, none⟩ (.int .i64 (s'))).setCell ⟨y, 3, none⟩ (.int .i64 (n'))) = u6 at *
                have bh := bm
                have bg := bo
                have kk := kq
                clear bm bo kq
                refine wpAnyH_done (by kernel_rfl) ?_ _
                refine NoPanic.normal ?_
                go_wp2_with fail
                go_meet
                exact ⟨_, _, rfl, rfl, kp, kk, bg, bh, gg, gh, ne⟩
  case rest =>
  obtain ⟨x, y, rfl, rfl, s0⟩ := hcut
  clear st
  have KB := (s0.k.cons s0.bg).cons s0.bh
  have ggx := s0.gg
  have ggy := s0.gh
  have nex := s0.ne
  have nfx := Ne.symm s0.ne
  have ix0 : x ≠ w.heap.size + 1 := by omega
  have ox0 := Ne.symm ix0
  have iy0 : y ≠ w.heap.size + 1 := by omega
  have oy0 := Ne.symm iy0
  have ix1 : x ≠ w.heap.size := by omega
  have ox1 := Ne.symm ix1
  have iy1 : y ≠ w.heap.size := by omega
  have oy1 := Ne.symm iy1
  clear s0 la0 la1 ggx ggy
  clear lo
  go_wp2_with fail
  go_loopw [13] (fun v13 wr => (v13 = .int .i64 0 ∧ BK w [(y, [.int .i64 (h'), .int .i64 (m'), .int .i64 (s'), .int .i64 (n')]), (x, [.int .i64 (h), .int .i64 (m), .int .i64 (s), .int .i64 (n)]), (w.heap.size + 1, [.int .i64 (h'), .int .i64 (m'), .int .i64 (s'), .int .i64 (n')]), (w.heap.size, [.int .i64 (h), .int .i64 (m), .int .i64 (s), .int .i64 (n)])] wr) ∨ (v13 = .int .i64 1 ∧ c0 = 0 ∧ BK w [(y, [.int .i64 (h'), .int .i64 (m'), .int .i64 (s'), .int .i64 (n')]), (x, [.int .i64 (h), .int .i64 (m), .int .i64 (s), .int .i64 (n)]), (w.heap.size + 1, [.int .i64 (h'), .int .i64 (m'), .int .i64 (s'), .int .i64 (n')]), (w.heap.size, [.int .i64 (h), .int .i64 (m), .int .i64 (s), .int .i64 (n)])] wr) ∨ (v13 = .int .i64 2 ∧ c0 = 0 ∧ c1 = 0 ∧ BK w [(y, [.int .i64 (h'), .int .i64 (m'), .int .i64 (s'), .int .i64 (n')]), (x, [.int .i64 (h), .int .i64 (m), .int .i64 (s), .int .i64 (n)]), (w.heap.size + 1, [.int .i64 (h'), .int .i64 (m'), .int .i64 (s'), .int .i64 (n')]), (w.heap.size, [.int .i64 (h), .int .i64 (m), .int .i64 (s), .int .i64 (n)])] wr) ∨ (v13 = .int .i64 3 ∧ c0 = 0 ∧ c1 = 0 ∧ c2 = 0 ∧ BK w [(y, [.int .i64 (h'), .int .i64 (m'), .int .i64 (s'), .int .i64 (n')]), (x, [.int .i64 (h), .int .i64 (m), .int .i64 (s), .int .i64 (n)]), (w.heap.size + 1, [.int .i64 (h'), .int .i64 (m'), .int .i64 (s'), .int .i64 (n')]), (w.heap.size, [.int .i64 (h), .int .i64 (m), .int .i64 (s), .int .i64 (n)])] wr) ∨ (v13 = .int .i64 4 ∧ c0 = 0 ∧ c1 = 0 ∧ c2 = 0 ∧ c3 = 0 ∧ BK w [(y, [.int .i64 (h'), .int .i64 (m'), .int .i64 (s'), .int .i64 (n')]), (x, [.int .i64 (h), .int .i64 (m), .int .i64 (s), .int .i64 (n)]), (w.heap.size + 1, [.int .i64 (h'), .int .i64 (m'), .int .i64 (s'), .int .i64 (n')]), (w.heap.size, [.int .i64 (h), .int .i64 (m), .int .i64 (s), .int .i64 (n)])] wr)) (fun v13 _ => (4 - intOf v13).toNat)
  case atStart => exact .inl ⟨rfl, KB⟩
  case round =>
    clear KB
    rcases hrel with ⟨rfl, KB⟩ | ⟨rfl, z0, KB⟩ | ⟨rfl, z0, z1, KB⟩ | ⟨rfl, z0, z1, z2, KB⟩ | ⟨rfl, z0, z1, z2, z3, KB⟩
    · obtain ⟨_, j0a, j0b, j0c, j0d, _⟩ := (KB.tail.head).four
      obtain ⟨_, j1a, j1b, j1c, j1d, _⟩ := (KB.head).four
      by_cases z0 : c0 = 0
      · have f1 : (c0 != 0) = false := by rw [bne_eq_false_iff_eq]; exact z0
        have f2 : (c0 == 0) = true := by rw [beq_iff_eq]; exact z0
        have Z0 := Lib.hid z0
        clear z0
        go_wp2_with fail
        go_quiet ((first
          | (go_at_call 41; exact Calls.quiet_of_same ((CM0.out _).mono fun _ _ ⟨h1, h2⟩ => ⟨h1, h2.symm⟩))))
        go_wp2_with fail
        go_roundw
        case rel => exact .inr (.inl ⟨rfl, Z0.out, KB.below (below_drewN (Below.refl _ _) _)⟩)
        case measure => simp [intOf]
      · have f1 : (c0 != 0) = true := bne_iff_ne.2 z0
        have f2 : (c0 == 0) = false := beq_eq_false_iff_ne.2 z0
        have e : v = c0 := by rw [VE.out]; unfold firstN; rw [if_neg z0]
        subst e
        clear VE
        go_wp2_with fail
        go_quiet ((first
          | (go_at_call 41; exact Calls.quiet_of_same ((CM0.out _).mono fun _ _ ⟨h1, h2⟩ => ⟨h1, h2.symm⟩))))
        have HB := (KB.below (below_drewN (Below.refl _ _) nq)).hb
        go_wp2
        go_ret
        exact ⟨rfl, HB⟩
    · have Z0 := Lib.hid z0
      clear z0
      obtain ⟨_, j0a, j0b, j0c, j0d, _⟩ := (KB.tail.head).four
      obtain ⟨_, j1a, j1b, j1c, j1d, _⟩ := (KB.head).four
      by_cases z1 : c1 = 0
      · have f1 : (c1 != 0) = false := by rw [bne_eq_false_iff_eq]; exact z1
        have f2 : (c1 == 0) = true := by rw [beq_iff_eq]; exact z1
        have Z1 := Lib.hid z1
        clear z1
        go_wp2_with fail
        go_quiet ((first
          | (go_at_call 41; exact Calls.quiet_of_same ((CM1.out _).mono fun _ _ ⟨h1, h2⟩ => ⟨h1, h2.symm⟩))))
        go_wp2_with fail
        go_roundw
        case rel => exact .inr (.inr (.inl ⟨rfl, Z0.out, Z1.out, KB.below (below_drewN (Below.refl _ _) _)⟩))
        case measure => simp [intOf]
      · have f1 : (c1 != 0) = true := bne_iff_ne.2 z1
        have f2 : (c1 == 0) = false := beq_eq_false_iff_ne.2 z1
        have e : v = c1 := by rw [VE.out]; unfold firstN; rw [if_pos Z0.out, if_neg z1]
        subst e
        clear VE
        go_wp2_with fail
        go_quiet ((first
          | (go_at_call 41; exact Calls.quiet_of_same ((CM1.out _).mono fun _ _ ⟨h1, h2⟩ => ⟨h1, h2.symm⟩))))
        have HB := (KB.below (below_drewN (Below.refl _ _) nq)).hb
        go_wp2
        go_ret
        exact ⟨rfl, HB⟩
    · have Z0 := Lib.hid z0
      clear z0
      have Z1 := Lib.hid z1
      clear z1
      obtain ⟨_, j0a, j0b, j0c, j0d, _⟩ := (KB.tail.head).four
      obtain ⟨_, j1a, j1b, j1c, j1d, _⟩ := (KB.head).four
      by_cases z2 : c2 = 0
      · have f1 : (c2 != 0) = false := by rw [bne_eq_false_iff_eq]; exact z2
        have f2 : (c2 == 0) = true := by rw [beq_iff_eq]; exact z2
        have Z2 := Lib.hid z2
        clear z2
        go_wp2_with fail
        go_quiet ((first
          | (go_at_call 41; exact Calls.quiet_of_same ((CM2.out _).mono fun _ _ ⟨h1, h2⟩ => ⟨h1, h2.symm⟩))))
        go_wp2_with fail
        go_roundw
        case rel => exact .inr (.inr (.inr (.inl ⟨rfl, Z0.out, Z1.out, Z2.out, KB.below (below_drewN (Below.refl _ _) _)⟩)))
        case measure => simp [intOf]
      · have f1 : (c2 != 0) = true := bne_iff_ne.2 z2
        have f2 : (c2 == 0) = false := beq_eq_false_iff_ne.2 z2
        have e : v = c2 := by rw [VE.out]; unfold firstN; rw [if_pos Z0.out, if_pos Z1.out, if_neg z2]
        subst e
        clear VE
        go_wp2_with fail
        go_quiet ((first
          | (go_at_call 41; exact Calls.quiet_of_same ((CM2.out _).mono fun _ _ ⟨h1, h2⟩ => ⟨h1, h2.symm⟩))))
        have HB := (KB.below (below_drewN (Below.refl _ _) nq)).hb
        go_wp2
        go_ret
        exact ⟨rfl, HB⟩
    · have Z0 := Lib.hid z0
      clear z0
      have Z1 := Lib.hid z1
      clear z1
      have Z2 := Lib.hid z2
      clear z2
      obtain ⟨_, j0a, j0b, j0c, j0d, _⟩ := (KB.tail.head).four
      obtain ⟨_, j1a, j1b, j1c, j1d, _⟩ := (KB.head).four
      by_cases z3 : c3 = 0
      · have f1 : (c3 != 0) = false := by rw [bne_eq_false_iff_eq]; exact z3
        have f2 : (c3 == 0) = true := by rw [beq_iff_eq]; exact z3
        have Z3 := Lib.hid z3
        clear z3
        go_wp2_with fail
        go_quiet ((first
          | (go_at_call 41; exact Calls.quiet_of_same ((CM3.out _).mono fun _ _ ⟨h1, h2⟩ => ⟨h1, h2.symm⟩))))
        go_wp2_with fail
        go_roundw
        case rel => exact .inr (.inr (.inr (.inr (⟨rfl, Z0.out, Z1.out, Z2.out, Z3.out, KB.below (below_drewN (Below.refl _ _) _)⟩))))
        case measure => simp [intOf]
      · have f1 : (c3 != 0) = true := bne_iff_ne.2 z3
        have f2 : (c3 == 0) = false := beq_eq_false_iff_ne.2 z3
        have e : v = c3 := by rw [VE.out]; unfold firstN; rw [if_pos Z0.out, if_pos Z1.out, if_pos Z2.out]
        subst e
        clear VE
        go_wp2_with fail
        go_quiet ((first
          | (go_at_call 41; exact Calls.quiet_of_same ((CM3.out _).mono fun _ _ ⟨h1, h2⟩ => ⟨h1, h2.symm⟩))))
        have HB := (KB.below (below_drewN (Below.refl _ _) nq)).hb
        go_wp2
        go_ret
        exact ⟨rfl, HB⟩
    · have Z0 := Lib.hid z0
      clear z0
      have Z1 := Lib.hid z1
      clear z1
      have Z2 := Lib.hid z2
      clear z2
      have Z3 := Lib.hid z3
      clear z3
      have HB := KB.hb
      have e : v = 0 := by rw [VE.out]; unfold firstN; rw [if_pos Z0.out, if_pos Z1.out, if_pos Z2.out, Z3.out]
      subst e
      clear VE
      go_wp2
      go_ret
      exact ⟨rfl, HB⟩
theorem cmp_first (h m s n h' m' s' n' : Int) : cmpT h m s n h' m' s' n' = firstN (ord h h') (ord m m') (ord s s') (ord n n') := by
  have key : ∀ a b : Int, (ord a b = -1 ∧ a < b) ∨ (ord a b = 0 ∧ ¬ a < b ∧ ¬ b < a) ∨ (ord a b = 1 ∧ ¬ a < b ∧ b < a) := fun a b => by
    unfold ord; repeat' split
    all_goals omega
  unfold cmpT firstN
  rcases key h h' with ⟨e, a⟩ | ⟨e, a, b⟩ | ⟨e, a, b⟩
  · rw [e, if_pos a, if_neg (by omega)]
  · rw [e, if_neg a, if_neg b, if_pos rfl]
    rcases key m m' with ⟨e, a⟩ | ⟨e, a, b⟩ | ⟨e, a, b⟩
    · rw [e, if_pos a, if_neg (by omega)]
    · rw [e, if_neg a, if_neg b, if_pos rfl]
      rcases key s s' with ⟨e, a⟩ | ⟨e, a, b⟩ | ⟨e, a, b⟩
      · rw [e, if_pos a, if_neg (by omega)]
      · rw [e, if_neg a, if_neg b, if_pos rfl]
        rcases key n n' with ⟨e, a⟩ | ⟨e, a, b⟩ | ⟨e, a, b⟩
        · rw [e, if_pos a]
        · rw [e, if_neg a, if_neg b]
        · rw [e, if_neg a, if_pos b]
      · rw [e, if_neg a, if_pos b, if_neg (by omega)]
    · rw [e, if_neg a, if_pos b, if_neg (by omega)]
  · rw [e, if_neg a, if_pos b, if_neg (by omega)]
theorem cmpK (h m s n h' m' s' n' : Int) (w : World) : Calls Tryd.prog 22 #[.agg #[.int .i64 (h), .int .i64 (m), .int .i64 (s), .int .i64 (n)], .agg #[.int .i64 (h'), .int .i64 (m'), .int .i64 (s'), .int .i64 (n')]] w (RetV w (.int .i64 (cmpT h m s n h' m' s' n'))) :=
  cmpK_core h m s n h' m' s' n' _ _ _ _ _ (Lib.hid (cmp_first h m s n h' m' s' n')) (Lib.hid fun W => compareK _ _ W) (Lib.hid fun W => compareK _ _ W) (Lib.hid fun W => compareK _ _ W) (Lib.hid fun W => compareK _ _ W) (Lib.hid fun W => splitK h m s n W) (Lib.hid fun W => splitK h' m' s' n' W) w
end Go.Proofs.YteggdabnhdjfcaaDoor
