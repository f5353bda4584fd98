import Derived.Test.YtlidicnbmfkghaaDoorGa
import Derived.Below
import Derived.IntWalk
import Derived.Lib.Hide
import Derived.Test.YtlidicnbmfkghaaDoorGb
import Derived.Deep.DeepCutAuto
/- Wide numbers: what they are, their halves, and what calls leave that answer one; a block of two cells in memory. No walk here. -/
namespace Go.Proofs.YtlidicnbmfkghaaDoor
open Go.RowKit

/-- a block of two cells -/
structure Pair (w : World) (b : Nat) (u v : Value) : Prop where
  lt : b < w.heap.size
  c0 : w.cell? ⟨b, 0, none⟩ = some u
  c1 : w.cell? ⟨b, 1, none⟩ = some v
  f0 : w.frozen? ⟨b, 0, none⟩ = false
  f1 : w.frozen? ⟨b, 1, none⟩ = false
theorem Pair.below {w w' : World} {b : Nat} {u v : Value} (h : Pair w b u v) (hb : Below w.heap.size w w') : Pair w' b u v :=
  ⟨Nat.lt_of_lt_of_le h.lt hb.size, (hb.cell (p := ⟨b, 0, none⟩) h.lt).trans h.c0, (hb.cell (p := ⟨b, 1, none⟩) h.lt).trans h.c1, (hb.frozen (p := ⟨b, 0, none⟩) h.lt).trans h.f0, (hb.frozen (p := ⟨b, 1, none⟩) h.lt).trans h.f1⟩
theorem Pair.new (w : World) (u v : Value) (t : TypeId) : Pair (w.alloc (.cells #[u, v] t)) w.heap.size u v := ⟨by simp, by simp, by simp, by simp, by simp⟩
theorem Pair.far {w : World} {b : Nat} {u v : Value} (h : Pair w b u v) {b' : Nat} (hne : b' ≠ b) (o : Nat) (x : Value) : Pair (w.setCell ⟨b', o, none⟩ x) b u v :=
  have hb : (w.setCell ⟨b', o, none⟩ x).heap[b]? = w.heap[b]? := Below.heap_setCell w ⟨b', o, none⟩ x b (fun e => hne e.symm)
  ⟨by simpa [World.setCell] using h.lt, (World.cell?_of_block (w := w) (a := ⟨b, 0, none⟩) hb).trans h.c0, (World.cell?_of_block (w := w) (a := ⟨b, 1, none⟩) hb).trans h.c1, (World.frozen?_of_block (w := w) (a := ⟨b, 0, none⟩) hb).trans h.f0, (World.frozen?_of_block (w := w) (a := ⟨b, 1, none⟩) hb).trans h.f1⟩
theorem Pair.far2 {w : World} {b : Nat} {u v : Value} (h : Pair w b u v) {b' : Nat} (hne : b' ≠ b) (x x' : Value) : Pair ((w.setCell ⟨b', 0, none⟩ x).setCell ⟨b', 1, none⟩ x') b u v := (h.far hne 0 x).far hne 1 x'
theorem Pair.drew {w : World} {b : Nat} {u v : Value} (h : Pair w b u v) : Pair w.drew b u v := h.below (Below.refl _ _).drew
def two127 : Int := 170141183460469231731687303715884105728
/-- a wide number -/
def InW (z : Int) : Prop := -two127 ≤ z ∧ z < two127
instance (z : Int) : Decidable (InW z) := by unfold InW; infer_instance
/-- its halves -/
def hiW (z : Int) : Int := z / 18446744073709551616
def loW (z : Int) : Int := z % 18446744073709551616

/-- What a call that answers a wide number and a bool leaves. -/
def RetWB (w : World) (hi lo : Int) (ok : Bool) (e : Ending) (w' : World) : Prop := e = .returned (.tuple #[.agg #[.int .i64 hi, .int .u64 lo], .bool ok]) ∧ Below w.heap.size w w'

theorem Pair.self2 {w : World} {b : Nat} {u v : Value} (h : Pair w b u v) (x y : Value) : Pair ((w.setCell ⟨b, 0, none⟩ x).setCell ⟨b, 1, none⟩ y) b x y := by
  refine ⟨by simpa [World.setCell] using h.lt, ?_, ?_, ?_, ?_⟩
  · rw [World.cell?_setCell_other _ _ _ _ (by simp)]
    exact World.cell?_setCell_same _ _ _ h.c0
  · refine World.cell?_setCell_same _ _ _ (u := v) ?_
    rw [World.cell?_setCell_other _ _ _ _ (by simp)]
    exact h.c1
  · simp [h.f0]
  · simp [h.f1]

/-- what is told: the halves and the error's number -/
def hv (z : Int) : Int := if InW z then hiW z else 0
def lv (z : Int) : Int := if InW z then loW z else 0
def ev (z : Int) : Int := if InW z then 0 else 2
/-- What a call that answers a wide number and an error's number leaves. -/
def RetWE (w : World) (z : Int) (e : Ending) (w' : World) : Prop := e = .returned (.tuple #[.agg #[.int .i64 (hv z), .int .u64 (lv z)], .int .i64 (ev z)]) ∧ Below w.heap.size w w'

/-- What a call that answers a text leaves. -/
def RetS (w : World) (l : List UInt8) (e : Ending) (w' : World) : Prop := e = .returned (.string ⟨l.toArray⟩) ∧ Below w.heap.size w w'

theorem bytes_append (l m : List UInt8) : (⟨l.toArray⟩ : ByteArray) ++ ⟨m.toArray⟩ = ⟨(l ++ m).toArray⟩ := by
  apply ByteArray.ext
  simp [ByteArray.data_append]

/-- What a call that answers one value leaves. -/
def RetV (w : World) (v : Value) (e : Ending) (w' : World) : Prop := e = .returned v ∧ Below w.heap.size w w'
/-- What a call that answers a wide number leaves. -/
def RetW (w : World) (z : Int) (e : Ending) (w' : World) : Prop := e = .returned (.agg #[.int .i64 (hiW z), .int .u64 (loW z)]) ∧ Below w.heap.size w w'
theorem below_thru {a b c : World} (h : Below a.heap.size a b) (k : Below b.heap.size b c) : Below a.heap.size a c := h.trans (k.mono h.size)
theorem below_box (W : World) (o : Obj) : Below W.heap.size W (W.alloc o) := (Below.refl _ _).alloc (Nat.le_refl _) o

/-- the halves of a wide number, and the number of its halves -/
theorem halves {z : Int} (h : InW z) : In64 (hiW z) ∧ 0 ≤ loW z ∧ loW z ≤ 18446744073709551615 ∧ z = hiW z * 18446744073709551616 + loW z := by
  unfold InW two127 at h
  unfold hiW loW In64
  omega
theorem of_halves {hi lo : Int} (h1 : In64 hi) (h2 : 0 ≤ lo) (h3 : lo ≤ 18446744073709551615) :
    InW (hi * 18446744073709551616 + lo) ∧ hiW (hi * 18446744073709551616 + lo) = hi ∧ loW (hi * 18446744073709551616 + lo) = lo := by
  unfold In64 at h1
  unfold InW two127 hiW loW
  omega
theorem inW_of_64 {n : Int} (h : In64 n) : InW n := by unfold In64 at h; unfold InW two127; omega
theorem hi_of_64 {n : Int} (h : In64 n) : hiW n = if n < 0 then -1 else 0 := by
  unfold In64 at h; unfold hiW; split <;> omega
theorem wide_eq {a b : Int} : hiW a = hiW b → loW a = loW b → a = b := by
  unfold hiW loW; omega
end Go.Proofs.YtlidicnbmfkghaaDoor

/- The document's answer of layer 2: a wide number as one of any size. -/
namespace Go.Proofs.YtlidicnbmfkghaaDoor
open Go.RowKit

theorem below_alloc' (W : World) (o : Obj) : Below W.heap.size W (W.alloc o) := (Below.refl _ _).alloc (Nat.le_refl _) o

theorem pow64 : (2 : Int) ^ 64 = 18446744073709551616 := by decide
theorem power64 (W : World) : Calls Tryd.prog 42 #[.int .i64 64] W (RetZ W (2 ^ 64)) := power_any 64 (by decide) W
theorem small20 {x : Int} (h : x.natAbs < 65536 ^ 19) : x.natAbs < 65536 ^ 20 := Nat.lt_trans h (Nat.pow_lt_pow_right (by decide) (by decide))

set_option maxRecDepth 100000 in
set_option maxHeartbeats 2000000 in
theorem wof_any (hi lo : Int) (h1 : -9223372036854775808 ≤ hi) (h2 : hi ≤ 9223372036854775807) (h3 : 0 ≤ lo) (h4 : lo ≤ 18446744073709551615) (w : World) :
    Calls Tryd.prog 12 #[.agg #[.int .i64 hi, .int .u64 lo]] w (RetZ w (hi * 2 ^ 64 + lo)) := by
  have OH := Lib.hid (fun W => of_any hi h1 h2 W)
  have OL := Lib.hid (fun W => ofu_int lo h3 h4 W)
  have sh := Lib.hid (show hi.natAbs < 65536 ^ 5 by
    have : (65536 : Nat) ^ 5 = 1208925819614629174706176 := by decide
    rw [this]; omega)
  have sl := Lib.hid (show lo.natAbs < 65536 ^ 5 by
    have : (65536 : Nat) ^ 5 = 1208925819614629174706176 := by decide
    rw [this]; omega)
  have sp := Lib.hid (show ((2 : Int) ^ 64).natAbs < 65536 ^ 5 by rw [pow64]; decide)
  have sm := Lib.hid (show (hi * 2 ^ 64).natAbs < 65536 ^ 11 by
    have : (65536 : Nat) ^ 11 = 95780971304118053647396689196894323976171195136475136 := by decide
    rw [this, pow64]; omega)
  clear h1 h2 h3 h4
  go_enter Tryd.func12, Tryd.ntmps12
  go_wp2_with fail
  have b1 := (Pair.new w (.int .i64 hi) (.int .u64 lo) 30).below (below_alloc' _ (.cells #[.bool false, .slice none 0 0] 39))
  have b2 := Box.new (w.alloc (.cells #[.int .i64 hi, .int .u64 lo] 30)) false (.slice none 0 0) 39
  rw [World.size_alloc] at b2
  have HB := below_next (below_alloc' w (.cells #[.int .i64 hi, .int .u64 lo] 30)) (below_alloc' _ (.cells #[.bool false, .slice none 0 0] 39))
  generalize (w.alloc (.cells #[.int .i64 hi, .int .u64 lo] 30)).alloc (.cells #[.bool false, .slice none 0 0] 39) = w0 at *
  obtain ⟨_, a0, a1, _, _⟩ := id b1
  have B1 := b1.drew
  have B2 := b2.drew
  replace HB := HB.drew
  have ne1 : w.heap.size + 1 ≠ w.heap.size := by omega
  clear b1 b2
  go_region_held3 (fun w' => w'.cell? ⟨w.heap.size, 0, none⟩ = some (.int .i64 hi) ∧ w'.cell? ⟨w.heap.size, 1, none⟩ = some (.int .u64 lo)) (first | exact ⟨B1.c0, B1.c1⟩ | go_keep)
    (first
      | (go_at_call 41; refine (OH.out _).mono ?_; rintro e w1 ⟨p1, A1, n1, c1, rfl, z1, hb⟩
         have l1 := z1.small sh.out
         replace B1 := B1.below hb
         replace B2 := B2.below' hb
         replace HB := below_next HB hb
         clear hb
         obtain ⟨_, a2, a3, _, _⟩ := id B1)
      | (go_at_call 42; refine (power64 _).mono ?_; rintro e w2 ⟨p2, A2, n2, c2, rfl, z2, hb⟩
         have l2 := z2.small sp.out
         replace z1 := z1.below hb
         replace B1 := B1.below hb
         replace B2 := B2.below' hb
         replace HB := below_next HB hb
         clear hb
         obtain ⟨_, a2, a3, _, _⟩ := id B1)
      | (go_at_call 40; refine (mul_any p1 p2 A1 A2 n1 n2 c1 c2 _ _ _ z1 z2 (by omega) (by omega)).mono ?_; rintro e w3 ⟨p3, A3, n3, c3, rfl, z3, hb⟩
         have l3 := z3.small sm.out
         replace B1 := B1.below hb
         replace B2 := B2.below' hb
         replace HB := below_next HB hb
         clear hb
         obtain ⟨_, a2, a3, _, _⟩ := id B1)
      | (go_at_call 43; refine (OL.out _).mono ?_; rintro e w4 ⟨p4, A4, n4, c4, rfl, z4, hb⟩
         have l4 := z4.small sl.out
         replace z3 := z3.below hb
         replace B1 := B1.below hb
         replace B2 := B2.below' hb
         replace HB := below_next HB hb
         clear hb
         obtain ⟨_, a2, a3, _, _⟩ := id B1)
      | (go_at_call 39; refine (add_any p3 p4 A3 A4 n3 n4 c3 c4 _ _ _ z3 z4 (by omega) (by omega)).mono ?_; rintro e w5 ⟨p5, A5, n5, c5, rfl, z5, hb⟩
         replace B1 := B1.below hb
         replace B2 := B2.below' hb
         replace HB := below_next HB hb
         clear hb
         obtain ⟨_, a2, a3, _, _⟩ := id B1
         obtain ⟨_, d2, d3, e2, e3⟩ := id B2))
  go_wp2
  exact bodyPost_ret (v := .agg #[.bool p5, .slice A5 n5 c5]) (by simp [results, Tryd.results12, go_sem, d2, d3]) rfl (B2.ret z5 HB (by omega))
end Go.Proofs.YtlidicnbmfkghaaDoor

/- The document's answer of layer 2: is a number a wide one; that. -/
namespace Go.Proofs.YtlidicnbmfkghaaDoor
open Go.RowKit

theorem two127_pow : (2 : Int) ^ 127 = two127 := by decide
theorem power127 (W : World) : Calls Tryd.prog 42 #[.int .i64 127] W (RetZ W two127) := by
  have := power_any 127 (by decide) W
  rw [two127_pow] at this
  exact this
theorem pow8 : (65536 : Nat) ^ 8 = 340282366920938463463374607431768211456 := by decide
theorem two127_small : (two127).natAbs < 65536 ^ 8 := by rw [pow8]; decide
theorem ntwo127_small : (-two127).natAbs < 65536 ^ 8 := by rw [pow8]; decide
set_option maxRecDepth 100000 in
set_option maxHeartbeats 4000000 in
theorem wfits_great (p : Bool) (A : Option Addr) (n c : Nat) (z : Int) (w : World) (hz : Zs w p A n c z) (hn : n ≤ 2000) (h : two127 ≤ z) :
    Calls Tryd.prog 13 #[.agg #[.bool p, .slice A n c]] w (RetWB w 0 0 false) := by
  have hc : 0 ≤ cmpZ z two127 := by
    rcases Int.lt_or_eq_of_le h with h1 | h1
    · rw [cmpZ_gt h1]; decide
    · rw [cmpZ_eq h1.symm]; decide
  clear h
  generalize hv : cmpZ z two127 = cv at *
  have HV := Lib.hid hv
  clear hv
  go_enter Tryd.func13, Tryd.ntmps13
  go_wp2_with fail
  have b1 := (Box.new w p (.slice A n c) 39).below' (below_alloc2 _ (.cells #[.int .i64 0, .int .u64 0] 30))
  have b2 := Pair.new (w.alloc (.cells #[.bool p, .slice A n c] 39)) (.int .i64 0) (.int .u64 0) 30
  rw [World.size_alloc] at b2
  have HB := below_next (below_alloc2 w (.cells #[.bool p, .slice A n c] 39)) (below_alloc2 _ (.cells #[.int .i64 0, .int .u64 0] 30))
  generalize (w.alloc (.cells #[.bool p, .slice A n c] 39)).alloc (.cells #[.int .i64 0, .int .u64 0] 30) = w0 at *
  have B := b1.drew
  have P2 := b2.drew
  obtain ⟨_, a0, a1, _, _⟩ := b1
  have hX := (hz.below HB).drew
  replace HB := HB.drew
  clear b2 hz
  go_region_with (first
      | (go_at_call 42; refine (power127 _).mono ?_; rintro e w1 ⟨r, C, k, f, rfl, hD, hb⟩
         have hk := hD.small two127_small
         replace hX := hX.below hb
         replace B := B.below' hb
         replace P2 := P2.below hb
         replace HB := below_next HB hb
         clear hb
         obtain ⟨_, a2, a3, _, _⟩ := id B
         obtain ⟨_, p0, p1, p2, p3⟩ := id P2)
      | (go_at_call 22; refine (cmp_any p r A C n k c f z two127 _ hX hD (by omega) (by omega)).mono ?_; rintro e w2 ⟨rfl, hb⟩
         rw [HV.out]
         replace hX := hX.below hb
         replace B := B.below' hb
         replace P2 := P2.below hb
         replace HB := below_next HB hb
         clear hb
         obtain ⟨_, a2, a3, _, _⟩ := id B
         obtain ⟨_, p0, p1, p2, p3⟩ := id P2))
  all_goals
    go_wp2
    exact bodyPost_ret (v := .tuple #[.agg #[.int .i64 0, .int .u64 0], .bool false]) (by simp [results, Tryd.results13, go_sem, p0, p1]) rfl ⟨rfl, (HB.setCell (p := ⟨w.heap.size + 1, 0, none⟩) (Nat.le_succ _) _).setCell (p := ⟨w.heap.size + 1, 1, none⟩) (Nat.le_succ _) _⟩

set_option maxRecDepth 100000 in
set_option maxHeartbeats 4000000 in
theorem wfits_less (p : Bool) (A : Option Addr) (n c : Nat) (z : Int) (w : World) (hz : Zs w p A n c z) (hn : n ≤ 900000) (h : z < -two127) :
    Calls Tryd.prog 13 #[.agg #[.bool p, .slice A n c]] w (RetWB w 0 0 false) := by
  have hc1 : cmpZ z two127 = -1 := cmpZ_lt (by unfold two127 at *; omega)
  have hc2 : cmpZ z (-two127) = -1 := cmpZ_lt h
  clear h
  have HV1 := Lib.hid hc1
  have HV2 := Lib.hid hc2
  clear hc1 hc2
  go_enter Tryd.func13, Tryd.ntmps13
  go_wp2_with fail
  have b1 := (Box.new w p (.slice A n c) 39).below' (below_alloc2 _ (.cells #[.int .i64 0, .int .u64 0] 30))
  have b2 := Pair.new (w.alloc (.cells #[.bool p, .slice A n c] 39)) (.int .i64 0) (.int .u64 0) 30
  rw [World.size_alloc] at b2
  have HB := below_next (below_alloc2 w (.cells #[.bool p, .slice A n c] 39)) (below_alloc2 _ (.cells #[.int .i64 0, .int .u64 0] 30))
  generalize (w.alloc (.cells #[.bool p, .slice A n c] 39)).alloc (.cells #[.int .i64 0, .int .u64 0] 30) = w0 at *
  have B := b1.drew
  have P2 := b2.drew
  obtain ⟨_, a0, a1, _, _⟩ := b1
  have hX := (hz.below HB).drew
  replace HB := HB.drew
  clear b2 hz
  go_region_held3 (fun w' => w'.cell? ⟨w.heap.size, 0, none⟩ = some (.bool p) ∧ w'.cell? ⟨w.heap.size, 1, none⟩ = some (.slice A n c)) (first | exact ⟨B.c0, B.c1⟩ | go_keep)
    (first
      | (go_at_call 42; refine (power127 _).mono ?_; rintro e w1 ⟨r, C, k, f, rfl, hD, hb⟩
         have hk := hD.small two127_small
         replace hX := hX.below hb
         replace B := B.below' hb
         replace P2 := P2.below hb
         replace HB := below_next HB hb
         clear hb
         obtain ⟨_, a2, a3, _, _⟩ := id B
         obtain ⟨_, p0, p1, p2, p3⟩ := id P2)
      | (go_at_call 44; refine (neg_any r C k f _ _ hD (by omega)).mono ?_; rintro e w1 ⟨r, C, k, f, rfl, hD, hb⟩
         have hk := hD.small ntwo127_small
         replace hX := hX.below hb
         replace B := B.below' hb
         replace P2 := P2.below hb
         replace HB := below_next HB hb
         clear hb
         obtain ⟨_, a2, a3, _, _⟩ := id B
         obtain ⟨_, p0, p1, p2, p3⟩ := id P2)
      | (go_at_call 22; refine (cmp_any p r A C n k c f z _ _ hX hD (by omega) (by omega)).mono ?_; rintro e w2 ⟨rfl, hb⟩
         first | rw [HV1.out] | rw [HV2.out]
         replace hX := hX.below hb
         replace B := B.below' hb
         replace P2 := P2.below hb
         replace HB := below_next HB hb
         clear hb
         obtain ⟨_, a2, a3, _, _⟩ := id B
         obtain ⟨_, p0, p1, p2, p3⟩ := id P2))
  go_wp2
  exact bodyPost_ret (v := .tuple #[.agg #[.int .i64 0, .int .u64 0], .bool false]) (by simp [results, Tryd.results13, go_sem, p0, p1]) rfl ⟨rfl, (HB.setCell (p := ⟨w.heap.size + 1, 0, none⟩) (Nat.le_succ _) _).setCell (p := ⟨w.heap.size + 1, 1, none⟩) (Nat.le_succ _) _⟩

theorem wide_halves {z : Int} (h : InW z) : In64 (z.fdiv 18446744073709551616) ∧ z.fdiv 18446744073709551616 = hiW z ∧ z.fmod 18446744073709551616 = loW z ∧ 0 ≤ loW z ∧ loW z < 18446744073709551616 := by
  have e1 : z.fdiv 18446744073709551616 = z / 18446744073709551616 := Int.fdiv_eq_ediv_of_nonneg _ (by decide)
  have e2 : z.fmod 18446744073709551616 = z % 18446744073709551616 := Int.fmod_eq_emod_of_nonneg _ (by decide)
  unfold InW two127 at h
  unfold hiW loW In64
  rw [e1, e2]
  omega

theorem small5z {x : Int} (h : In64 x) : x.natAbs < 65536 ^ 5 := by
  have : (65536 : Nat) ^ 5 = 1208925819614629174706176 := by decide
  rw [this]; unfold In64 at h; omega

/-- What Fits keeps: its number, its answer's block, and what was there before it. -/
structure WK (w : World) (p : Bool) (A : Option Addr) (n c : Nat) (z : Int) (W : World) : Prop where
  bx : Box W w.heap.size p (.slice A n c)
  pr : Pair W (w.heap.size + 1) (.int .i64 0) (.int .u64 0)
  zx : Zs W p A n c z
  hb : Below w.heap.size w W
theorem WK.kept (w : World) (p : Bool) (A : Option Addr) (n c : Nat) (z : Int) : Kept (w.heap.size + 1) (WK w p A n c z) :=
  ⟨fun _ _ h k => ⟨h.bx.below' k, h.pr.below k, h.zx.below k, below_next h.hb k⟩,
   fun W b q v r u h bx hlt => ⟨h.bx.far2 (by omega) _ _, h.pr.far2 (by omega) _ _, h.zx.set2 bx.c0 _ _, (h.hb.setCell (p := ⟨b, 0, none⟩) (by show _ ≤ b; omega) _).setCell (p := ⟨b, 1, none⟩) (by show _ ≤ b; omega) _⟩⟩

def WFRel (n : Nat) (l : List Nat) (v i : Value) : Prop :=
  ∃ k : Nat, k ≤ n ∧ i = .int .i64 ((k : Int) - 1) ∧ v = .int .u64 ((val (l.drop k) : Nat) : Int)

set_option maxRecDepth 100000 in
set_option maxHeartbeats 8000000 in
theorem wfits_yes (p : Bool) (A : Option Addr) (n c : Nat) (z : Int) (w : World) (hz : Zs w p A n c z) (hn : n ≤ 2000) (h : InW z) :
    Calls Tryd.prog 13 #[.agg #[.bool p, .slice A n c]] w (RetWB w (hiW z) (loW z) true) := by
  obtain ⟨hh1, hh2, hh3, hh4, hh5⟩ := wide_halves h
  obtain ⟨h1, h2⟩ := h
  have hc1 : cmpZ z two127 = -1 := cmpZ_lt h2
  have hc2 : ¬ (cmpZ z (-two127) < 0) := by
    rcases Int.lt_or_eq_of_le h1 with h3 | h3
    · rw [cmpZ_gt h3]; decide
    · rw [cmpZ_eq h3.symm]; decide
  generalize hcv : cmpZ z (-two127) = cv at *
  have HV1 := Lib.hid hc1
  have HV2 := Lib.hid hcv
  have HH1 := Lib.hid hh1
  have HH2 := Lib.hid hh2
  have HH3 := Lib.hid hh3
  clear hc1 hcv h1 h2 hh1 hh2 hh3
  go_enter Tryd.func13, Tryd.ntmps13
  go_wp2_with fail
  have b1 := (Box.new w p (.slice A n c) 39).below' (below_alloc2 _ (.cells #[.int .i64 0, .int .u64 0] 30))
  have b2 := Pair.new (w.alloc (.cells #[.bool p, .slice A n c] 39)) (.int .i64 0) (.int .u64 0) 30
  rw [World.size_alloc] at b2
  have HB := below_next (below_alloc2 w (.cells #[.bool p, .slice A n c] 39)) (below_alloc2 _ (.cells #[.int .i64 0, .int .u64 0] 30))
  generalize (w.alloc (.cells #[.bool p, .slice A n c] 39)).alloc (.cells #[.int .i64 0, .int .u64 0] 30) = w0 at *
  have B := b1.drew
  have P2 := b2.drew
  obtain ⟨_, a0, a1, _, _⟩ := b1
  have hX := (hz.below HB).drew
  replace HB := HB.drew
  clear b2 hz
  go_region_held3 (fun w' => w'.cell? ⟨w.heap.size, 0, none⟩ = some (.bool p) ∧ w'.cell? ⟨w.heap.size, 1, none⟩ = some (.slice A n c)) (first | exact ⟨B.c0, B.c1⟩ | go_keep)
    (first
      | (go_at_call 42; refine (power127 _).mono ?_; rintro e w1 ⟨r, C, k, f, rfl, hD, hb⟩
         have hk := hD.small two127_small
         replace hX := hX.below hb
         replace B := B.below' hb
         replace P2 := P2.below hb
         replace HB := below_next HB hb
         clear hb
         obtain ⟨_, a2, a3, _, _⟩ := id B
         obtain ⟨_, p0, p1, p2, p3⟩ := id P2)
      | (go_at_call 44; refine (neg_any r C k f _ _ hD (by omega)).mono ?_; rintro e w1 ⟨r, C, k, f, rfl, hD, hb⟩
         have hk := hD.small ntwo127_small
         replace hX := hX.below hb
         replace B := B.below' hb
         replace P2 := P2.below hb
         replace HB := below_next HB hb
         clear hb
         obtain ⟨_, a2, a3, _, _⟩ := id B
         obtain ⟨_, p0, p1, p2, p3⟩ := id P2)
      | (go_at_call 22; refine (cmp_any p r A C n k c f z _ _ hX hD (by omega) (by omega)).mono ?_; rintro e w2 ⟨rfl, hb⟩
         first | rw [HV1.out] | rw [HV2.out]
         replace hX := hX.below hb
         replace B := B.below' hb
         replace P2 := P2.below hb
         replace HB := below_next HB hb
         clear hb
         obtain ⟨_, a2, a3, _, _⟩ := id B
         obtain ⟨_, p0, p1, p2, p3⟩ := id P2))
  clear hD hk a0 a1 a2 a3 p0 p1 p2 p3
  obtain ⟨_, a0, a1, _, _⟩ := id B
  go_upto_region 3 with fail
  have st : PreD (w.heap.size + 1) (WK w p A n c z) w2 [] := ⟨WK.kept w p A n c z, ⟨B, P2, hX, HB⟩, P2.lt, (fun b h => by cases h), (fun b h => by cases h), List.nodup_nil⟩
  clear B P2 hX HB
  go_cut [4, 5] (fun v4 v5 wx => DivCutD (w.heap.size + 1) (WK w p A n c z) (hiW z) (loW z) v4 v5 wx)
  case first =>
    have gn := behind st.lt w.heap.size (by omega)
    obtain ⟨gn1, gn2⟩ := gn
    have ONE := Lib.hid (show ((2 : Int) ^ 64).natAbs < 65536 ^ 5 by rw [pow64]; decide)
    go_region_held3 (fun w' => w'.cell? ⟨w.heap.size, 0, none⟩ = some (.bool p) ∧ w'.cell? ⟨w.heap.size, 1, none⟩ = some (.slice A n c)) (first | (with_reducible exact ⟨st.k.bx.c0, st.k.bx.c1⟩) | (with_reducible exact ⟨st.alloc1.k.bx.c0, st.alloc1.k.bx.c1⟩) | (with_reducible exact ⟨st.alloc2.k.bx.c0, st.alloc2.k.bx.c1⟩) | (with_reducible exact ⟨st.drew.k.bx.c0, st.drew.k.bx.c1⟩) | (with_reducible exact ⟨st.alloc1.drew.k.bx.c0, st.alloc1.drew.k.bx.c1⟩) | (with_reducible exact ⟨st.alloc2.drew.k.bx.c0, st.alloc2.drew.k.bx.c1⟩) | go_keep)
      (first
        | (go_at_call 42; refine (power64 _).mono ?_; rintro e w1 ⟨r1, C1, k1, f1, rfl, z1, hb⟩
           have l1 := z1.small ONE.out
           with_reducible (first | replace st := st.below hb | replace st := st.alloc1.below hb | replace st := st.alloc2.below hb | replace st := st.drew.below hb | replace st := st.alloc1.drew.below hb | replace st := st.alloc2.drew.below hb)
           clear hb
           obtain ⟨_, a2, a3, _, _⟩ := id st.k.bx
           have gn := behind st.lt w.heap.size (by omega)
           obtain ⟨gn1, gn2⟩ := gn
           try obtain ⟨gm1, gm2⟩ := behind (st.ge _ (List.mem_cons_self ..)) w.heap.size (by omega)
           try obtain ⟨gk1, gk2⟩ := behind (st.ge _ (List.mem_cons_of_mem _ (List.mem_cons_self ..))) w.heap.size (by omega)
           try obtain ⟨_, x0, x1, x2, x3⟩ := st.al _ (List.mem_cons_self ..)
           try obtain ⟨_, x4, x5, x6, x7⟩ := st.al _ (List.mem_cons_of_mem _ (List.mem_cons_self ..))
          )
        | (go_at_call 34; refine (div_any p r1 A C1 n k1 c f1 z (2 ^ 64) _ (by with_reducible first | exact st.k.zx | exact (st.k.zx.below (below_alloc2 _ _)) | exact ((st.k.zx.below (below_alloc2 _ _)).below (below_alloc2 _ _)) | exact (st.k.zx.drew) | exact ((st.k.zx.below (below_alloc2 _ _)).drew) | exact (((st.k.zx.below (below_alloc2 _ _)).below (below_alloc2 _ _)).drew)) (by with_reducible first | exact z1 | exact (z1.below (below_alloc2 _ _)) | exact ((z1.below (below_alloc2 _ _)).below (below_alloc2 _ _)) | exact (z1.drew) | exact ((z1.below (below_alloc2 _ _)).drew) | exact (((z1.below (below_alloc2 _ _)).below (below_alloc2 _ _)).drew)) (by omega) (by omega) (by rw [pow64]; decide)).mono ?_; rintro e w1 ⟨r3, C3, k3, f3, r4, C4, k4, f4, rfl, z3, z4, hb⟩
           rw [pow64, HH2.out] at z3
           rw [pow64, HH3.out] at z4
           with_reducible (first | replace st := st.below hb | replace st := st.alloc1.below hb | replace st := st.alloc2.below hb | replace st := st.drew.below hb | replace st := st.alloc1.drew.below hb | replace st := st.alloc2.drew.below hb)
           clear hb
           obtain ⟨_, a2, a3, _, _⟩ := id st.k.bx
           have gn := behind st.lt w.heap.size (by omega)
           obtain ⟨gn1, gn2⟩ := gn
           try obtain ⟨gm1, gm2⟩ := behind (st.ge _ (List.mem_cons_self ..)) w.heap.size (by omega)
           try obtain ⟨gk1, gk2⟩ := behind (st.ge _ (List.mem_cons_of_mem _ (List.mem_cons_self ..))) w.heap.size (by omega)
           try obtain ⟨_, x0, x1, x2, x3⟩ := st.al _ (List.mem_cons_self ..)
           try obtain ⟨_, x4, x5, x6, x7⟩ := st.al _ (List.mem_cons_of_mem _ (List.mem_cons_self ..))
          ))
    all_goals
      go_wp2_with fail
      go_meet
      refine ⟨_, _, r3, C3, k3, f3, r4, C4, k4, f4, rfl, rfl, ?_⟩
      with_reducible first | exact st.fin1a z3 z4 | exact st.fin1b z3 z4 | exact st.fin2a z3 z4 | exact st.fin2b z3 z4 | exact st.fin3a z3 z4 | exact st.fin3b z3 z4
  case rest =>
    clear a0 a1
    obtain ⟨g, h, pq, Aq, nq, cq, pr, Ar, nr, cr, rfl, rfl, s0⟩ := hcut
    have hds := s0.zr.ds
    have F1 := Lib.hid (fits_yes pq Aq nq cq (hiW z) wc s0.zq (by have h1 := s0.zq.small (k := 5) (small5z (by have := HH1.out; rw [HH2.out] at this; exact this)); omega) (by have := HH1.out; rw [HH2.out] at this; unfold In64 at this; unfold two63; omega) (by have := HH1.out; rw [HH2.out] at this; unfold In64 at this; unfold two63; omega))
    have hnr := s0.zr.small (k := 5) (by
      have : (65536 : Nat) ^ 5 = 1208925819614629174706176 := by decide
      rw [this]; omega)
    obtain ⟨_, a0, a1, _, _⟩ := id s0.bq
    go_wp2_with fail
    refine F1.out.mono ?_
    rintro e w5 ⟨rfl, k5⟩
    have s5 := s0.below k5
    replace hds := hds.below k5
    clear k5 a0 a1 s0 F1
    obtain ⟨_, a0, a1, _, _⟩ := id s5.br
    go_wp2_with fail
    go_loop [8, 9] (fun v i => WFRel nr (digs (loW z).natAbs) v i) (fun _ i => (intOf i + 1).toNat)
    case atStart =>
      refine ⟨nr, Nat.le_refl _, rfl, ?_⟩
      rw [List.drop_of_length_le (by rw [hds.len]; exact Nat.le_refl _)]
      rfl
    case round =>
      obtain ⟨k, hk, rfl, rfl⟩ := hrel
      rcases k with _ | k
      · have he : ((val ((digs (loW z).natAbs).drop 0) : Nat) : Int) = loW z := by rw [List.drop_zero, val_digs]; omega
        have HE := Lib.hid he
        clear he
        rw [HE.out]
        obtain ⟨_, d0, d1, e0, e1⟩ := id s5.k.pr
        have HB := s5.k.hb
        clear hds
        go_wp2
        exact bodyPost_ret (v := .tuple #[.agg #[.int .i64 (hiW z), .int .u64 (loW z)], .bool true]) (by simp [results, Tryd.results13, go_sem, d0, d1]) rfl ⟨rfl, (HB.setCell (p := ⟨w.heap.size + 1, 0, none⟩) (Nat.le_succ _) _).setCell (p := ⟨w.heap.size + 1, 1, none⟩) (Nat.le_succ _) _⟩
      · rw [show ((k + 1 : Nat) : Int) - 1 = k from by omega]
        obtain ⟨gb, rfl, hg, hcl⟩ := hds.cells (by omega)
        have q1 := hcl k (by omega)
        have hlt : k < (digs (loW z).natAbs).length := by rw [hds.len]; omega
        have hstep := val_drop (digs (loW z).natAbs) k hlt
        have hle := val_drop_le (digs (loW z).natAbs) k
        rw [val_digs] at hle
        have hd := hds.dig.getD k
        clear hcl hlt
        generalize (digs (loW z).natAbs).getD k 0 = D at *
        generalize val ((digs (loW z).natAbs).drop (k + 1)) = V at *
        have HS := Lib.hid hstep
        have hb1 : D + 65536 * V ≤ 18446744073709551615 := by omega
        clear hstep hle
        go_wp2
        go_round
        case rel => exact ⟨k, by omega, rfl, int_eq (by rw [HS.out]; show _ = ((D + 65536 * V : Nat) : Int); omega)⟩
        case measure => simp only [intOf]; omega
end Go.Proofs.YtlidicnbmfkghaaDoor

/- The document's answer of layer 2: a wide number and 0, or none and the error's number; a number's sign. -/
namespace Go.Proofs.YtlidicnbmfkghaaDoor
open Go.RowKit

theorem wfits_no (p : Bool) (A : Option Addr) (n c : Nat) (z : Int) (w : World) (hz : Zs w p A n c z) (hn : n ≤ 2000) (h : ¬ InW z) :
    Calls Tryd.prog 13 #[.agg #[.bool p, .slice A n c]] w (RetWB w 0 0 false) := by
  by_cases h1 : two127 ≤ z
  · exact wfits_great p A n c z w hz hn h1
  · exact wfits_less p A n c z w hz (by omega) (by unfold InW at h; omega)

end Go.Proofs.YtlidicnbmfkghaaDoor

/- A block for a wide number that a statement makes anywhere among its calls (a short assignment of a call with a wide number): what stands meanwhile, whatever else is kept. -/
namespace Go.Proofs.YtlidicnbmfkghaaDoor
open Go.RowKit

/-- K is kept by calls, and by a store into a block of two cells behind lo. -/
structure KeptW (lo : Nat) (K : World → Prop) : Prop where
  below : ∀ W W', K W → Below W.heap.size W W' → K W'
  set2 : ∀ W b u v u' v', K W → Pair W b u v → lo < b → K ((W.setCell ⟨b, 0, none⟩ u').setCell ⟨b, 1, none⟩ v')

/-- L: the blocks made so far. -/
structure PreW (lo : Nat) (K : World → Prop) (W : World) (L : List Nat) : Prop where
  keep : KeptW lo K
  k : K W
  lt : lo < W.heap.size
  al : ∀ b ∈ L, Pair W b (.int .i64 0) (.int .u64 0)
  ge : ∀ b ∈ L, lo < b
/-- the block holds its number -/
structure DonW (lo : Nat) (K : World → Prop) (W : World) (g : Nat) (u v : Value) : Prop where
  keep : KeptW lo K
  k : K W
  bx : Pair W g u v
  gg : lo < g
section
variable {lo : Nat} {K : World → Prop} {W W' : World} {L : List Nat} {g : Nat} {u v : Value}
theorem PreW.below (s : PreW lo K W L) (k : Below W.heap.size W W') : PreW lo K W' L :=
  ⟨s.keep, s.keep.below _ _ s.k k, Nat.lt_of_lt_of_le s.lt k.size, fun b hb => (s.al b hb).below k, s.ge⟩
theorem PreW.drew (s : PreW lo K W L) : PreW lo K W.drew L := s.below (Below.refl _ _).drew
theorem PreW.alloc1 (s : PreW lo K W L) : PreW lo K (W.alloc (.cells #[.int .i64 0, .int .u64 0] 30)) (W.heap.size :: L) := by
  have s' := s.below (below_box W (.cells #[.int .i64 0, .int .u64 0] 30))
  refine ⟨s.keep, s'.k, s'.lt, fun b hb => ?_, fun b hb => ?_⟩
  · rcases List.mem_cons.1 hb with rfl | hb
    · exact Pair.new _ _ _ _
    · exact s'.al b hb
  · rcases List.mem_cons.1 hb with rfl | hb
    · exact s.lt
    · exact s.ge b hb
theorem PreW.fin1 (s : PreW lo K W (g :: L)) (u v : Value) : DonW lo K ((W.setCell ⟨g, 0, none⟩ u).setCell ⟨g, 1, none⟩ v) g u v :=
  have bx := s.al g (List.mem_cons_self ..)
  ⟨s.keep, s.keep.set2 _ _ _ _ _ _ s.k bx (s.ge g (List.mem_cons_self ..)), bx.self2 _ _, s.ge g (List.mem_cons_self ..)⟩
theorem PreW.fin2 (s : PreW lo K W L) (u v : Value) : DonW lo K (W.alloc (.cells #[u, v] 30)) W.heap.size u v :=
  ⟨s.keep, s.keep.below _ _ s.k (below_box _ _), Pair.new _ _ _ _, s.lt⟩
end
/-- What holds behind such a statement: the variable points to the block. -/
def DonCut (lo : Nat) (K : World → Prop) (u v : Value) (x : Value) (W : World) : Prop := ∃ g, x = .pointer (some ⟨g, 0, none⟩) ∧ DonW lo K W g u v
end Go.Proofs.YtlidicnbmfkghaaDoor

/- What the statements of layer 2 keep while they run: some blocks of two cells, and what was there before. -/
namespace Go.Proofs.YtlidicnbmfkghaaDoor
open Go.RowKit

/-- the blocks of L hold what L says; what was there before is as it was -/
structure PairsK (w : World) (L : List (Nat × Value × Value)) (W : World) : Prop where
  al : ∀ x ∈ L, Pair W x.1 x.2.1 x.2.2
  hb : Below w.heap.size w W
theorem PairsK.kept (w : World) (L : List (Nat × Value × Value)) (lo : Nat) (h : ∀ x ∈ L, x.1 ≤ lo) (hl : w.heap.size ≤ lo) : KeptW lo (PairsK w L) :=
  ⟨fun _ _ h k => ⟨fun x hx => (h.al x hx).below k, below_thru h.hb k⟩,
   fun W c u v u' v' h' _ hlt => ⟨fun x hx => (h'.al x hx).far2 (by have := h x hx; omega) _ _,
     (h'.hb.setCell (p := ⟨c, 0, none⟩) (by show _ ≤ c; omega) _).setCell (p := ⟨c, 1, none⟩) (by show _ ≤ c; omega) _⟩⟩
theorem PairsK.below {w W W' : World} {L : List (Nat × Value × Value)} (h : PairsK w L W) (k : Below W.heap.size W W') : PairsK w L W' := ⟨fun x hx => (h.al x hx).below k, below_thru h.hb k⟩
theorem PairsK.drew {w W : World} {L : List (Nat × Value × Value)} (h : PairsK w L W) : PairsK w L W.drew := h.below (Below.refl _ _).drew
theorem PairsK.nil (w : World) : PairsK w [] w := ⟨fun x hx => absurd hx (by simp), Below.refl _ _⟩
/-- one block more, just made -/
theorem PairsK.more {w W : World} {L : List (Nat × Value × Value)} (h : PairsK w L W) (u v : Value) (t : TypeId) : PairsK w ((W.heap.size, u, v) :: L) (W.alloc (.cells #[u, v] t)) :=
  ⟨fun x hx => by
    rcases List.mem_cons.1 hx with rfl | hx
    · exact Pair.new _ _ _ _
    · exact (h.al x hx).below (below_box _ _), below_thru h.hb (below_box _ _)⟩
theorem PairsK.cons {w W : World} {L : List (Nat × Value × Value)} (h : PairsK w L W) {g : Nat} {u v : Value} (p : Pair W g u v) : PairsK w ((g, u, v) :: L) W :=
  ⟨fun x hx => by
    rcases List.mem_cons.1 hx with rfl | hx
    · exact p
    · exact h.al x hx, h.hb⟩
theorem PairsK.head {w W : World} {L : List (Nat × Value × Value)} {g : Nat} {u v : Value} (h : PairsK w ((g, u, v) :: L) W) : Pair W g u v := h.al (g, u, v) (List.mem_cons_self ..)
theorem PairsK.tail {w W : World} {L : List (Nat × Value × Value)} {x : Nat × Value × Value} (h : PairsK w (x :: L) W) : PairsK w L W := ⟨fun y hy => h.al y (List.mem_cons_of_mem _ hy), h.hb⟩
/-- at the head of a statement that makes a block somewhere -/
theorem PairsK.pre {w W : World} {L : List (Nat × Value × Value)} (h : PairsK w L W) (lo : Nat) (hlo : ∀ x ∈ L, x.1 ≤ lo) (hl : w.heap.size ≤ lo) (hlt : lo < W.heap.size) : PreW lo (PairsK w L) W [] :=
  ⟨PairsK.kept w L lo hlo hl, h, hlt, (fun b h => by cases h), (fun b h => by cases h)⟩

end Go.Proofs.YtlidicnbmfkghaaDoor

/- The document's number of a wide one, as the statements of layer 2 make it. -/
namespace Go.Proofs.YtlidicnbmfkghaaDoor
open Go.RowKit

/-- the document's number of a wide one -/
theorem wof_z (z : Int) (h : InW z) (W : World) : Calls Tryd.prog 12 #[.agg #[.int .i64 (hiW z), .int .u64 (loW z)]] W (RetZ W z) := by
  obtain ⟨i1, i2, i3, i4⟩ := halves h
  have := wof_any (hiW z) (loW z) i1.1 i1.2 i2 i3 W
  rw [pow64, ← i4] at this
  exact this
theorem pow_9 : (65536 : Nat) ^ 9 = 22300745198530623141535718272648361505980416 := by decide
theorem small_w {z : Int} (h : InW z) : z.natAbs < 65536 ^ 9 := by rw [pow_9]; unfold InW two127 at h; omega
theorem small_2w {z : Int} (h : z.natAbs ≤ 2 * 170141183460469231731687303715884105728) : z.natAbs < 65536 ^ 9 := by rw [pow_9]; omega
theorem abs_w {z : Int} (h : InW z) : z.natAbs ≤ 170141183460469231731687303715884105728 := by unfold InW two127 at h; omega
end Go.Proofs.YtlidicnbmfkghaaDoor
