/- The walk of WideTexts: at any wide number and any text it returns true; what was there is as it was. -/
import Derived.Test.YtpjhenipeafbiaaWprs
import Derived.Test.YtpjhenipeafbiaaWlaw
import Derived.Test.YtpjhenipeafbiaaWparse
import Derived.Deep.RegionWith
namespace Go.Proofs.Ytpjhenipeafbiaa
open Go.RowKit

theorem ten40 {z : Int} (hz : InW z) : z.natAbs < 10 ^ (39 + 1) := by
  unfold InW two127 at hz
  have : (10 : Nat) ^ (39 + 1) = 10000000000000000000000000000000000000000 := by decide
  rw [this]
  omega

set_option maxRecDepth 100000 in
set_option maxHeartbeats 8000000 in
theorem wideTexts_walk (z : Int) (s : ByteArray) (hz : InW z) (hs : s.size ≤ maxLen) (w : World) :
    Calls Try.prog 7 #[.agg #[.int .i64 (hiW z), .int .u64 (loW z)], .string s] w (RetV w (.bool true)) := by
  have P1 := Lib.hid (fun W => wideParse s hs W)
  have P2 := Lib.hid (fun W => parse_any s hs W)
  have TX := Lib.hid (fun W => wideText z hz W)
  have OZ := Lib.hid (fun W => wof_z z hz W)
  have sz := Lib.hid (small_w hz)
  have RT := Lib.hid (fun p A n c W h => text_any z 39 (by omega) (ten40 hz) p A n c W h)
  clear hz hs
  go_enter Try.func7, Try.ntmps7
  go_wp2_with fail
  have KK := ((PairsK.nil w).more (.int .i64 (hiW z)) (.int .u64 (loW z)) 24)
  generalize (w.alloc (.cells #[.int .i64 (hiW z), .int .u64 (loW z)] 24)) = w0 at *
  refine (P1.out _).mono ?_
  rintro e w1 ⟨h1, k⟩
  replace KK := KK.below k
  clear k P1
  rcases h1 with ⟨x, hx1, hx2, rfl⟩ | ⟨hno, rfl⟩
  · go_wp2_with fail
    have hlt := KK.head.lt
    replace KK := KK.more (.int .i64 (hiW x)) (.int .u64 (loW x)) 24
    generalize hw1 : w1.alloc (.cells #[.int .i64 (hiW x), .int .u64 (loW x)] 24) = w2 at *
    generalize hg : w1.heap.size = gx at *
    clear hw1 hg
    refine (P2.out _).mono ?_
    rintro e w1 ⟨h2, k⟩
    replace KK := KK.below k
    clear k P2
    rcases h2 with ⟨y, hy1, hy2, rfl⟩ | ⟨hno, _⟩
    · obtain rfl : x = y := decZ_inj (by rw [hx2, hy2])
      clear hx1 hx2 hy1 hy2
      go_wp2_with fail
      have hlt2 := KK.head.lt
      replace KK := KK.more (.int .i64 (hiW x)) (.int .u64 (loW x)) 24
      generalize hw1 : w1.alloc (.cells #[.int .i64 (hiW x), .int .u64 (loW x)] 24) = w2 at *
      generalize hg : w1.heap.size = gy at *
      clear hw1 hg
      obtain ⟨_, a0, a0', _, _⟩ := KK.tail.tail.head
      obtain ⟨_, b0, b0', _, _⟩ := KK.tail.head
      obtain ⟨_, c0, c0', _, _⟩ := KK.head
      replace KK := KK.drew
      generalize htx : (⟨(decZ z).toArray⟩ : ByteArray) = tx at *
      refine wp_region_noPanic ?_
      refine wp_region_held_drew (S := (fun w' => w'.cell? ⟨w.heap.size, 0, none⟩ = some (.int .i64 (hiW z)) ∧ w'.cell? ⟨w.heap.size, 1, none⟩ = some (.int .u64 (loW z)) ∧ w'.cell? ⟨gx, 0, none⟩ = some (.int .i64 (hiW x)) ∧ w'.cell? ⟨gx, 1, none⟩ = some (.int .u64 (loW x)) ∧ w'.cell? ⟨gy, 0, none⟩ = some (.int .i64 (hiW x)) ∧ w'.cell? ⟨gy, 1, none⟩ = some (.int .u64 (loW x)))) (by kernel_rfl) ⟨KK.tail.tail.head.c0, KK.tail.tail.head.c1, KK.tail.head.c0, KK.tail.head.c1, KK.head.c0, KK.head.c1⟩ (fun hHeld => ?_)
      refine wpAnyH_ready (rs := [0]) (by kernel_rfl) (by simp) ?_
      refine AllReadyH.cons (o := { dst := some 19, op := Op.call { callee := Callee.value (Operand.func 14), args := #[], argTypes := #[] }, type := 4, pos := "law.go:60", after := #[], guard := none }) rfl (fun K hK => ?_) AllReadyH.nil
      go_simp
      go_at_call 14
      refine (alive_any _).mono ?_
      rintro e wx ⟨rfl, k⟩
      replace KK := KK.below k
      clear k
      refine hK.out _ _ (⟨KK.tail.tail.head.c0, KK.tail.tail.head.c1, KK.tail.head.c0, KK.tail.head.c1, KK.head.c0, KK.head.c1⟩) (fun hHeld => ?_)
      clear hK K
      try simp only [Act.put, List.setIfInBounds_toArray, List.set_cons_zero, List.set_cons_succ]
      refine wpAnyH_take (i := 1) (oi := { dst := some 20, op := Op.move (Operand.tmp 19), type := 4, pos := "law.go:60", after := #[{ on := 0, ground := Ground.data }, { on := 0, ground := Ground.chain }], guard := none }) (v := ?_) rfl (by kernel_rfl) (by kernel_rfl) (by kernel_rfl) (fun _ _ _ h => h) (Or.inl ⟨by rfl, ?_⟩) (by assumption) ?_
      rotate_left
      · intro w hSw
        try dsimp only at hSw
        go_simp
        any_goals with_reducible rfl
      try simp only [Act.put, List.setIfInBounds_toArray, List.set_cons_zero, List.set_cons_succ]
      refine wpAnyH_take (i := 2) (oi := { dst := some 21, op := Op.load 24 (Operand.tmp 2), type := 24, pos := "law.go:60", after := #[{ on := 1, ground := Ground.guard }], guard := some (1, true) }) (v := ?_) rfl (by kernel_rfl) (by kernel_rfl) (by kernel_rfl) (fun _ _ _ h => h) (Or.inl ⟨by rfl, ?_⟩) (by assumption) ?_
      rotate_left
      · intro w hSw
        try dsimp only at hSw
        go_simp
        any_goals with_reducible rfl
      try simp only [Act.put, List.setIfInBounds_toArray, List.set_cons_zero, List.set_cons_succ]
      refine wpAnyH_take (i := 4) (oi := { dst := some 23, op := Op.load 24 (Operand.tmp 2), type := 24, pos := "law.go:60", after := #[{ on := 1, ground := Ground.guard }], guard := some (1, true) }) (v := ?_) rfl (by kernel_rfl) (by kernel_rfl) (by kernel_rfl) (fun _ _ _ h => h) (Or.inl ⟨by rfl, ?_⟩) (by assumption) ?_
      rotate_left
      · intro w hSw
        try dsimp only at hSw
        go_simp
        any_goals with_reducible rfl
      try simp only [Act.put, List.setIfInBounds_toArray, List.set_cons_zero, List.set_cons_succ]
      refine wpAnyH_ready (rs := [3]) (by kernel_rfl) (by simp) ?_
      refine AllReadyH.cons (o := { dst := some 22, op := Op.call { callee := Callee.value (Operand.func 35), args := #[Operand.tmp 21], argTypes := #[24] }, type := 9, pos := "law.go:60", after := #[{ on := 2, ground := Ground.data }, { on := 1, ground := Ground.chain }, { on := 1, ground := Ground.guard }], guard := some (1, true) }) rfl (fun K hK => ?_) AllReadyH.nil
      go_simp
      go_at_call 35
      refine (TX.out _).mono ?_
      rintro e wx ⟨rfl, k⟩
      rw [htx]
      replace KK := KK.below k
      clear k
      refine hK.out _ _ (⟨KK.tail.tail.head.c0, KK.tail.tail.head.c1, KK.tail.head.c0, KK.tail.head.c1, KK.head.c0, KK.head.c1⟩) (fun hHeld => ?_)
      clear hK K
      try simp only [Act.put, List.setIfInBounds_toArray, List.set_cons_zero, List.set_cons_succ]
      refine wpAnyH_ready (rs := [5]) (by kernel_rfl) (by simp) ?_
      refine AllReadyH.cons (o := { dst := some 24, op := Op.call { callee := Callee.value (Operand.func 13), args := #[Operand.tmp 23], argTypes := #[24] }, type := 31, pos := "law.go:60", after := #[{ on := 4, ground := Ground.data }, { on := 3, ground := Ground.chain }, { on := 1, ground := Ground.guard }], guard := some (1, true) }) rfl (fun K hK => ?_) AllReadyH.nil
      go_simp
      go_at_call 13
      refine (OZ.out _).mono ?_
      rintro e wx ⟨p1, A1, n1, k1, rfl, z1, k⟩
      replace KK := KK.below k
      clear k
      refine hK.out _ _ (⟨KK.tail.tail.head.c0, KK.tail.tail.head.c1, KK.tail.head.c0, KK.tail.head.c1, KK.head.c0, KK.head.c1⟩) (fun hHeld => ?_)
      clear hK K
      try simp only [Act.put, List.setIfInBounds_toArray, List.set_cons_zero, List.set_cons_succ]
      refine wpAnyH_ready (rs := [6]) (by kernel_rfl) (by simp) ?_
      refine AllReadyH.cons (o := { dst := some 25, op := Op.call { callee := Callee.value (Operand.func 36), args := #[Operand.tmp 24], argTypes := #[31] }, type := 9, pos := "law.go:60", after := #[{ on := 5, ground := Ground.data }, { on := 5, ground := Ground.chain }, { on := 1, ground := Ground.guard }], guard := some (1, true) }) rfl (fun K hK => ?_) AllReadyH.nil
      go_simp
      go_at_call 36
      refine (RT.out p1 A1 n1 k1 _ z1).mono ?_
      rintro e wx ⟨rfl, k⟩
      rw [htx]
      replace KK := KK.below k
      clear k z1
      refine hK.out _ _ (⟨KK.tail.tail.head.c0, KK.tail.tail.head.c1, KK.tail.head.c0, KK.tail.head.c1, KK.head.c0, KK.head.c1⟩) (fun hHeld => ?_)
      clear hK K
      try simp only [Act.put, List.setIfInBounds_toArray, List.set_cons_zero, List.set_cons_succ]
      refine wpAnyH_take (i := 7) (oi := { dst := some 26, op := Op.binOp BinOp.eql 9 (Operand.tmp 22) (Operand.tmp 25) 9, type := 4, pos := "law.go:60", after := #[{ on := 3, ground := Ground.data }, { on := 6, ground := Ground.data }, { on := 1, ground := Ground.guard }], guard := some (1, true) }) (v := ?_) rfl (by kernel_rfl) (by kernel_rfl) (by kernel_rfl) (fun _ _ _ h => h) (Or.inl ⟨by rfl, ?_⟩) (by assumption) ?_
      rotate_left
      · intro w hSw
        try dsimp only at hSw
        go_simp
        any_goals with_reducible rfl
      try simp only [Act.put, List.setIfInBounds_toArray, List.set_cons_zero, List.set_cons_succ]
      refine wpAnyH_take (i := 8) (oi := { dst := some 27, op := Op.pick (Operand.tmp 20) (Operand.tmp 26) (Operand.const (Value.bool false)), type := 4, pos := "law.go:60", after := #[{ on := 1, ground := Ground.data }, { on := 7, ground := Ground.data }], guard := none }) (v := ?_) rfl (by kernel_rfl) (by kernel_rfl) (by kernel_rfl) (fun _ _ _ h => h) (Or.inl ⟨by rfl, ?_⟩) (by assumption) ?_
      rotate_left
      · intro w hSw
        try dsimp only at hSw
        go_simp
        any_goals with_reducible rfl
      try simp only [Act.put, List.setIfInBounds_toArray, List.set_cons_zero, List.set_cons_succ]
      refine wpAnyH_take (i := 9) (oi := { dst := some 28, op := Op.move (Operand.tmp 27), type := 4, pos := "law.go:60", after := #[{ on := 8, ground := Ground.data }, { on := 6, ground := Ground.chain }], guard := none }) (v := ?_) rfl (by kernel_rfl) (by kernel_rfl) (by kernel_rfl) (fun _ _ _ h => h) (Or.inl ⟨by rfl, ?_⟩) (by assumption) ?_
      rotate_left
      · intro w hSw
        try dsimp only at hSw
        go_simp
        any_goals with_reducible rfl
      try simp only [Act.put, List.setIfInBounds_toArray, List.set_cons_zero, List.set_cons_succ]
      refine wpAnyH_take (i := 10) (oi := { dst := some 29, op := Op.load 24 (Operand.tmp 5), type := 24, pos := "law.go:60", after := #[{ on := 9, ground := Ground.guard }], guard := some (9, true) }) (v := ?_) rfl (by kernel_rfl) (by kernel_rfl) (by kernel_rfl) (fun _ _ _ h => h) (Or.inl ⟨by rfl, ?_⟩) (by assumption) ?_
      rotate_left
      · intro w hSw
        try dsimp only at hSw
        go_simp
        any_goals with_reducible rfl
      try simp only [Act.put, List.setIfInBounds_toArray, List.set_cons_zero, List.set_cons_succ]
      refine wpAnyH_take (i := 11) (oi := { dst := some 30, op := Op.load 24 (Operand.tmp 7), type := 24, pos := "law.go:60", after := #[{ on := 9, ground := Ground.guard }], guard := some (9, true) }) (v := ?_) rfl (by kernel_rfl) (by kernel_rfl) (by kernel_rfl) (fun _ _ _ h => h) (Or.inl ⟨by rfl, ?_⟩) (by assumption) ?_
      rotate_left
      · intro w hSw
        try dsimp only at hSw
        go_simp
        any_goals with_reducible rfl
      try simp only [Act.put, List.setIfInBounds_toArray, List.set_cons_zero, List.set_cons_succ]
      refine wpAnyH_take (i := 12) (oi := { dst := some 31, op := Op.binOp BinOp.eql 24 (Operand.tmp 29) (Operand.tmp 30) 24, type := 4, pos := "law.go:60", after := #[{ on := 10, ground := Ground.data }, { on := 11, ground := Ground.data }, { on := 9, ground := Ground.guard }], guard := some (9, true) }) (v := ?_) rfl (by kernel_rfl) (by kernel_rfl) (by kernel_rfl) (fun _ _ _ h => h) (Or.inl ⟨by rfl, ?_⟩) (by assumption) ?_
      rotate_left
      · intro w hSw
        try dsimp only at hSw
        go_simp
        any_goals with_reducible rfl
      try simp only [Act.put, List.setIfInBounds_toArray, List.set_cons_zero, List.set_cons_succ]
      refine wpAnyH_take (i := 13) (oi := { dst := some 32, op := Op.pick (Operand.tmp 28) (Operand.tmp 31) (Operand.const (Value.bool false)), type := 4, pos := "law.go:60", after := #[{ on := 9, ground := Ground.data }, { on := 12, ground := Ground.data }], guard := none }) (v := ?_) rfl (by kernel_rfl) (by kernel_rfl) (by kernel_rfl) (fun _ _ _ h => h) (Or.inl ⟨by rfl, ?_⟩) (by assumption) ?_
      rotate_left
      · intro w hSw
        try dsimp only at hSw
        go_simp
        any_goals with_reducible rfl
      try simp only [Act.put, List.setIfInBounds_toArray, List.set_cons_zero, List.set_cons_succ]
      refine wpAnyH_take (i := 14) (oi := { dst := some 33, op := Op.move (Operand.tmp 32), type := 4, pos := "law.go:60", after := #[{ on := 13, ground := Ground.data }, { on := 9, ground := Ground.chain }], guard := none }) (v := ?_) rfl (by kernel_rfl) (by kernel_rfl) (by kernel_rfl) (fun _ _ _ h => h) (Or.inl ⟨by rfl, ?_⟩) (by assumption) ?_
      rotate_left
      · intro w hSw
        try dsimp only at hSw
        go_simp
        any_goals with_reducible rfl
      try simp only [Act.put, List.setIfInBounds_toArray, List.set_cons_zero, List.set_cons_succ]
      refine wpAnyH_take (i := 15) (oi := { dst := some 34, op := Op.move (Operand.tmp 6), type := 39, pos := "law.go:60", after := #[{ on := 14, ground := Ground.guard }], guard := some (14, true) }) (v := ?_) rfl (by kernel_rfl) (by kernel_rfl) (by kernel_rfl) (fun _ _ _ h => h) (Or.inl ⟨by rfl, ?_⟩) (by assumption) ?_
      rotate_left
      · intro w hSw
        try dsimp only at hSw
        go_simp
        any_goals with_reducible rfl
      try simp only [Act.put, List.setIfInBounds_toArray, List.set_cons_zero, List.set_cons_succ]
      refine wpAnyH_take (i := 16) (oi := { dst := some 35, op := Op.binOp BinOp.eql 39 (Operand.tmp 34) (Operand.const (Value.int IntKind.i64 0)) 39, type := 4, pos := "law.go:60", after := #[{ on := 15, ground := Ground.data }, { on := 14, ground := Ground.guard }], guard := some (14, true) }) (v := ?_) rfl (by kernel_rfl) (by kernel_rfl) (by kernel_rfl) (fun _ _ _ h => h) (Or.inl ⟨by rfl, ?_⟩) (by assumption) ?_
      rotate_left
      · intro w hSw
        try dsimp only at hSw
        go_simp
        any_goals with_reducible rfl
      try simp only [Act.put, List.setIfInBounds_toArray, List.set_cons_zero, List.set_cons_succ]
      refine wpAnyH_take (i := 17) (oi := { dst := some 36, op := Op.move (Operand.tmp 8), type := 4, pos := "law.go:60", after := #[{ on := 14, ground := Ground.guard }], guard := some (14, true) }) (v := ?_) rfl (by kernel_rfl) (by kernel_rfl) (by kernel_rfl) (fun _ _ _ h => h) (Or.inl ⟨by rfl, ?_⟩) (by assumption) ?_
      rotate_left
      · intro w hSw
        try dsimp only at hSw
        go_simp
        any_goals with_reducible rfl
      try simp only [Act.put, List.setIfInBounds_toArray, List.set_cons_zero, List.set_cons_succ]
      refine wpAnyH_take (i := 18) (oi := { dst := some 37, op := Op.binOp BinOp.eql 4 (Operand.tmp 35) (Operand.tmp 36) 4, type := 4, pos := "law.go:60", after := #[{ on := 16, ground := Ground.data }, { on := 17, ground := Ground.data }, { on := 14, ground := Ground.guard }], guard := some (14, true) }) (v := ?_) rfl (by kernel_rfl) (by kernel_rfl) (by kernel_rfl) (fun _ _ _ h => h) (Or.inl ⟨by rfl, ?_⟩) (by assumption) ?_
      rotate_left
      · intro w hSw
        try dsimp only at hSw
        go_simp
        any_goals with_reducible rfl
      try simp only [Act.put, List.setIfInBounds_toArray, List.set_cons_zero, List.set_cons_succ]
      refine wpAnyH_take (i := 19) (oi := { dst := some 38, op := Op.pick (Operand.tmp 33) (Operand.tmp 37) (Operand.const (Value.bool false)), type := 4, pos := "law.go:60", after := #[{ on := 14, ground := Ground.data }, { on := 18, ground := Ground.data }], guard := none }) (v := ?_) rfl (by kernel_rfl) (by kernel_rfl) (by kernel_rfl) (fun _ _ _ h => h) (Or.inl ⟨by rfl, ?_⟩) (by assumption) ?_
      rotate_left
      · intro w hSw
        try dsimp only at hSw
        go_simp
        any_goals with_reducible rfl
      try simp only [Act.put, List.setIfInBounds_toArray, List.set_cons_zero, List.set_cons_succ]
      refine wpAnyH_take (i := 20) (oi := { dst := some 39, op := Op.move (Operand.tmp 38), type := 4, pos := "law.go:60", after := #[{ on := 19, ground := Ground.data }, { on := 14, ground := Ground.chain }], guard := none }) (v := ?_) rfl (by kernel_rfl) (by kernel_rfl) (by kernel_rfl) (fun _ _ _ h => h) (Or.inl ⟨by rfl, ?_⟩) (by assumption) ?_
      rotate_left
      · intro w hSw
        try dsimp only at hSw
        go_simp
        any_goals with_reducible rfl
      try simp only [Act.put, List.setIfInBounds_toArray, List.set_cons_zero, List.set_cons_succ]
      refine wpAnyH_take (i := 21) (oi := { dst := some 40, op := Op.move (Operand.tmp 8), type := 4, pos := "law.go:60", after := #[{ on := 20, ground := Ground.guard }], guard := some (20, true) }) (v := ?_) rfl (by kernel_rfl) (by kernel_rfl) (by kernel_rfl) (fun _ _ _ h => h) (Or.inl ⟨by rfl, ?_⟩) (by assumption) ?_
      rotate_left
      · intro w hSw
        try dsimp only at hSw
        go_simp
        any_goals with_reducible rfl
      try simp only [Act.put, List.setIfInBounds_toArray, List.set_cons_zero, List.set_cons_succ]
      refine wpAnyH_take (i := 22) (oi := { dst := some 41, op := Op.move (Operand.tmp 40), type := 4, pos := "law.go:60", after := #[{ on := 21, ground := Ground.data }, { on := 20, ground := Ground.chain }, { on := 20, ground := Ground.guard }], guard := some (20, true) }) (v := ?_) rfl (by kernel_rfl) (by kernel_rfl) (by kernel_rfl) (fun _ _ _ h => h) (Or.inl ⟨by rfl, ?_⟩) (by assumption) ?_
      rotate_left
      · intro w hSw
        try dsimp only at hSw
        go_simp
        any_goals with_reducible rfl
      try simp only [Act.put, List.setIfInBounds_toArray, List.set_cons_zero, List.set_cons_succ]
      refine wpAnyH_take (i := 23) (oi := { dst := some 42, op := Op.move (Operand.tmp 6), type := 39, pos := "law.go:60", after := #[{ on := 22, ground := Ground.guard }], guard := some (22, false) }) (v := undef) rfl (by kernel_rfl) (by kernel_rfl) (by kernel_rfl) (fun _ _ _ h => h) (Or.inr ⟨by rfl, rfl⟩) (by assumption) ?_
      try simp only [Act.put, List.setIfInBounds_toArray, List.set_cons_zero, List.set_cons_succ]
      refine wpAnyH_take (i := 24) (oi := { dst := some 43, op := Op.binOp BinOp.eql 39 (Operand.tmp 42) (Operand.const (Value.int IntKind.i64 6)) 39, type := 4, pos := "law.go:60", after := #[{ on := 23, ground := Ground.data }, { on := 22, ground := Ground.guard }], guard := some (22, false) }) (v := undef) rfl (by kernel_rfl) (by kernel_rfl) (by kernel_rfl) (fun _ _ _ h => h) (Or.inr ⟨by rfl, rfl⟩) (by assumption) ?_
      try simp only [Act.put, List.setIfInBounds_toArray, List.set_cons_zero, List.set_cons_succ]
      refine wpAnyH_take (i := 25) (oi := { dst := some 44, op := Op.pick (Operand.tmp 41) (Operand.const (Value.bool true)) (Operand.tmp 43), type := 4, pos := "law.go:60", after := #[{ on := 22, ground := Ground.data }, { on := 24, ground := Ground.data }, { on := 20, ground := Ground.guard }], guard := some (20, true) }) (v := ?_) rfl (by kernel_rfl) (by kernel_rfl) (by kernel_rfl) (fun _ _ _ h => h) (Or.inl ⟨by rfl, ?_⟩) (by assumption) ?_
      rotate_left
      · intro w hSw
        try dsimp only at hSw
        go_simp
        any_goals with_reducible rfl
      try simp only [Act.put, List.setIfInBounds_toArray, List.set_cons_zero, List.set_cons_succ]
      refine wpAnyH_take (i := 26) (oi := { dst := some 45, op := Op.pick (Operand.tmp 39) (Operand.tmp 44) (Operand.const (Value.bool false)), type := 4, pos := "law.go:60", after := #[{ on := 20, ground := Ground.data }, { on := 25, ground := Ground.data }], guard := none }) (v := ?_) rfl (by kernel_rfl) (by kernel_rfl) (by kernel_rfl) (fun _ _ _ h => h) (Or.inl ⟨by rfl, ?_⟩) (by assumption) ?_
      rotate_left
      · intro w hSw
        try dsimp only at hSw
        go_simp
        any_goals with_reducible rfl
      try simp only [Act.put, List.setIfInBounds_toArray, List.set_cons_zero, List.set_cons_succ]
      refine wpAnyH_take (i := 27) (oi := { dst := some 4, op := Op.assign (Operand.tmp 45), type := 4, pos := "law.go:60", after := #[{ on := 26, ground := Ground.data }, { on := 22, ground := Ground.chain }, { on := 0, ground := Ground.phase }, { on := 1, ground := Ground.phase }, { on := 2, ground := Ground.phase }, { on := 3, ground := Ground.phase }, { on := 4, ground := Ground.phase }, { on := 5, ground := Ground.phase }, { on := 6, ground := Ground.phase }, { on := 7, ground := Ground.phase }, { on := 8, ground := Ground.phase }, { on := 9, ground := Ground.phase }, { on := 10, ground := Ground.phase }, { on := 11, ground := Ground.phase }, { on := 12, ground := Ground.phase }, { on := 13, ground := Ground.phase }, { on := 14, ground := Ground.phase }, { on := 15, ground := Ground.phase }, { on := 16, ground := Ground.phase }, { on := 17, ground := Ground.phase }, { on := 18, ground := Ground.phase }, { on := 19, ground := Ground.phase }, { on := 20, ground := Ground.phase }, { on := 21, ground := Ground.phase }, { on := 22, ground := Ground.phase }, { on := 23, ground := Ground.phase }, { on := 24, ground := Ground.phase }, { on := 25, ground := Ground.phase }, { on := 26, ground := Ground.phase }], guard := none }) (v := ?_) rfl (by kernel_rfl) (by kernel_rfl) (by kernel_rfl) (fun _ _ _ h => h) (Or.inl ⟨by rfl, ?_⟩) (by assumption) ?_
      rotate_left
      · intro w hSw
        try dsimp only at hSw
        go_simp
        any_goals with_reducible rfl
      try simp only [Act.put, List.setIfInBounds_toArray, List.set_cons_zero, List.set_cons_succ]
      refine wpAnyH_done (by kernel_rfl) ?_ _
      refine NoPanic.normal ?_
      go_wp2
      go_ret
      exact ⟨rfl, KK.hb⟩
    · exact absurd hx2 (hno x hx1)
  · go_wp2_with fail
    have hlt2 := KK.head.lt
    replace KK := KK.more (.int .i64 0) (.int .u64 0) 24
    generalize hw1 : w1.alloc (.cells #[.int .i64 0, .int .u64 0] 24) = w2 at *
    generalize hg : w1.heap.size = gx at *
    clear hw1 hg
    refine (P2.out _).mono ?_
    rintro e w1 ⟨h2, k⟩
    replace KK := KK.below k
    clear k P2
    rcases h2 with ⟨y, hy1, hy2, rfl⟩ | ⟨_, rfl⟩
    · exact absurd hy2 (hno y hy1)
    · clear hno
      go_wp2_with fail
      have hlt2 := KK.head.lt
      replace KK := KK.more (.int .i64 0) (.int .u64 0) 24
      generalize hw1 : w1.alloc (.cells #[.int .i64 0, .int .u64 0] 24) = w2 at *
      generalize hg : w1.heap.size = gy at *
      clear hw1 hg
      obtain ⟨_, a0, a0', _, _⟩ := KK.tail.tail.head
      obtain ⟨_, b0, b0', _, _⟩ := KK.tail.head
      obtain ⟨_, c0, c0', _, _⟩ := KK.head
      replace KK := KK.drew
      generalize htx : (⟨(decZ z).toArray⟩ : ByteArray) = tx at *
      go_region_held3 (fun w' => w'.cell? ⟨w.heap.size, 0, none⟩ = some (.int .i64 (hiW z)) ∧ w'.cell? ⟨w.heap.size, 1, none⟩ = some (.int .u64 (loW z)) ∧ w'.cell? ⟨gx, 0, none⟩ = some (.int .i64 0) ∧ w'.cell? ⟨gx, 1, none⟩ = some (.int .u64 0) ∧ w'.cell? ⟨gy, 0, none⟩ = some (.int .i64 0) ∧ w'.cell? ⟨gy, 1, none⟩ = some (.int .u64 0)) (first | (with_reducible exact ⟨KK.tail.tail.head.c0, KK.tail.tail.head.c1, KK.tail.head.c0, KK.tail.head.c1, KK.head.c0, KK.head.c1⟩) | go_keep)
        (first
          | (go_at_call 14; (with_reducible refine (alive_any _).mono ?_); rintro e x ⟨rfl, k⟩
             replace KK := KK.below k
             clear k)
          | (go_at_call 35; (with_reducible refine (TX.out _).mono ?_); rintro e x ⟨rfl, k⟩
             rw [htx]
             replace KK := KK.below k
             clear k)
          | (go_at_call 13; (with_reducible refine (OZ.out _).mono ?_); rintro e x ⟨p1, A1, n1, c1, rfl, z1, k⟩
             replace KK := KK.below k
             clear k)
          | (go_at_call 36; (with_reducible refine (RT.out p1 A1 n1 c1 _ z1).mono ?_); rintro e x ⟨rfl, k⟩
             rw [htx]
             replace KK := KK.below k
             clear k))
      go_wp2
      go_ret
      exact ⟨rfl, KK.hb⟩
end Go.Proofs.Ytpjhenipeafbiaa
